/- The reference's levels. -/
import Derived.Test.YtinkhgmdeldniaaDigTree
namespace Go.Proofs.Ytinkhgmdeldniaa
set_option maxRecDepth 100000
set_option linter.unusedVariables false
open Go.RowKit
theorem info_strings : (Try.prog.info? 42).map (fun i => (i.zero, i.size, i.bytes)) = some (some (.slice none 0 0), 1, 24) := by kernel_rfl
theorem own_base {w : World} {B B' e size n : Nat} {v : Value} {xs : List Value} (h : w.ownsRow B e size v n xs) (hB : B' ≤ B) : w.ownsRow B' e size v n xs := by
  refine ⟨h.1, ?_⟩
  rcases h.2 with hn | ⟨g, cap, cur, hv, hb, rest⟩
  · exact .inl hn
  · exact .inr ⟨g, cap, cur, hv, Nat.le_trans hB hb, rest⟩
/-- Rows of elements of two types are two rows. -/
theorem own_apart {w : World} {B B' e e' m n : Nat} {v u : Value} {xs ys : List Value} (h : w.ownsRow B e 1 v n xs) (k : w.ownsRow B' e' 1 u m ys) (he : e ≠ e') : v.ownBlock = none ∨ v.ownBlock ≠ u.ownBlock := by
  rcases h.2 with ⟨rfl, _⟩ | ⟨g, cap, cur, rfl, _, hg, _⟩
  · exact .inl rfl
  · refine .inr fun e2 => ?_
    rcases k.2 with ⟨rfl, _⟩ | ⟨g', cap', cur', rfl, _, hg', _⟩
    · simp [Value.ownBlock] at e2
    · obtain rfl : g = g' := by simpa [Value.ownBlock] using e2
      rw [hg] at hg'
      injection hg' with hg'
      injection hg' with _ e3
      exact he e3
def lenOf : Value → Nat
  | .slice _ n _ => n
  | _ => 0
/-- The rows of the levels that there are. -/
def Tree (B : Nat) (L : List ByteArray) (h k : Nat) (vals : List Value) (w : World) : Prop := vals.length = k ∧ ∀ j, j < k → w.ownsRow B 9 1 (vals.getD j (.bool false)) (2 ^ (h - j)) ((DG.T L h j).map Value.string)
theorem Tree.kept {B : Nat} {L : List ByteArray} {h k n m : Nat} {vals ys : List Value} {u : Value} {w w' : World} (t : Tree B L h k vals w) (hu : w.ownsRow n 42 1 u m ys) (hg : w.grownBy w' u.ownBlock) : Tree B L h k vals w' :=
  ⟨t.1, fun j hj => (t.2 j hj).kept hg (own_apart (t.2 j hj) hu (by decide))⟩
theorem Tree.below {B : Nat} {L : List ByteArray} {h k : Nat} {vals : List Value} {w w' : World} (t : Tree B L h k vals w) (hb : Below w.heap.size w w') : Tree B L h k vals w' :=
  ⟨t.1, fun j hj => own_kept (t.2 j hj) hb⟩
theorem Tree.one {B : Nat} {L : List ByteArray} {h k : Nat} {vals : List Value} {v : Value} {w : World} (t : Tree B L h k vals w) (hv : w.ownsRow B 9 1 v (2 ^ (h - k)) ((DG.T L h k).map Value.string)) : Tree B L h (k + 1) (vals ++ [v]) w := by
  refine ⟨by rw [List.length_append, t.1]; rfl, fun j hj => ?_⟩
  by_cases hjk : j < k
  · rw [show (vals ++ [v]).getD j (.bool false) = vals.getD j (.bool false) by simp [List.getD, List.getElem?_append_left (show j < vals.length by rw [t.1]; exact hjk)]]
    exact t.2 j hjk
  · obtain rfl : j = k := by omega
    rw [show (vals ++ [v]).getD j (.bool false) = v by simp [List.getD, t.1]]
    exact hv
def LvOut (w : World) (L : List ByteArray) (h : Nat) (e : Ending) (w' : World) : Prop := ∃ v vals, e = .returned v ∧ w'.ownsRow w.heap.size 42 1 v (h + 1) vals ∧ Tree w.heap.size L h (h + 1) vals w' ∧ Below w.heap.size w w'
theorem LvOut.mk {w w' : World} {L : List ByteArray} {h : Nat} {e : Ending} {v : Value} {vals : List Value} (h1 : e = .returned v) (h2 : w'.ownsRow w.heap.size 42 1 v (h + 1) vals) (h3 : Tree w.heap.size L h (h + 1) vals w') (h4 : Below w.heap.size w w') : LvOut w L h e w' := ⟨v, vals, h1, h2, h3, h4⟩
set_option maxRecDepth 100000 in
set_option maxHeartbeats 4000000 in
theorem rlevels_any (a : Option Addr) (c : Nat) (L : List ByteArray) (h : Nat) (w : World) (hr : Src w (.slice a L.length c) (L.map Value.string)) (hL : L.length ≤ 1000000) (hs : ∀ s ∈ L, s.size < 2147483648) (hh : DG.IsH L.length h) :
    Calls Try.prog 68 #[.slice a L.length c] w (LvOut w L h) := by
  obtain ⟨i0, hi, hz0, hz1, hz2⟩ := info_parts info_string
  obtain ⟨i1, hi1, hy0, hy1, hy2⟩ := info_parts info_strings
  have h20 := hh.le20 hL
  have HH := Lib.hid hh
  have HSS := Lib.hid hs
  have hone : ∀ u ∈ L.map Value.string, u.oneCell' = true := fun u hu => by
    obtain ⟨x, _, rfl⟩ := List.mem_map.1 hu
    rfl
  have HONE := Lib.hid hone
  obtain ⟨n, hn⟩ : ∃ n, L.length = n := ⟨_, rfl⟩
  have HN := Lib.hid hn
  rw [hn] at hr hL ⊢
  have HR := Lib.hid hr
  clear hn hr hs hone
  go_enter Try.func68, Try.ntmps68
  go_wp2
  go_loop [3] (fun v => ∃ j : Nat, v = .int .i64 ((2 ^ j : Nat) : Int) ∧ j ≤ h) (fun v => n - (intOf v).toNat)
  case atStart => exact ⟨0, rfl, Nat.zero_le _⟩
  case round =>
    obtain ⟨j, rfl, hj⟩ := hrel
    have hiff := HH.out.lt_iff hj
    rw [HN.out] at hiff
    have hle : 2 ^ j ≤ 1048576 := Nat.le_trans (Nat.pow_le_pow_right (by omega) (Nat.le_trans hj h20)) (by decide)
    have hdbl : 2 ^ (j + 1) = 2 * 2 ^ j := Nat.pow_succ'
    have hpos : 0 < 2 ^ j := Nat.two_pow_pos j
    by_cases hlt : 2 ^ j < n
    · have hjh := hiff.1 hlt
      obtain ⟨s, hs⟩ : ∃ s, 2 ^ j = s := ⟨_, rfl⟩
      have HSJ := Lib.hid hs
      have HD := Lib.hid hdbl
      rw [hs] at hle hlt hpos
      have hlti : (s : Int) < (n : Int) := by omega
      clear hdbl hiff
      simp only [hs]
      clear hs
      go_wp2
      go_round
      case rel => exact ⟨j + 1, by rw [HD.out, HSJ.out]; go_num, hjh⟩
      case measure => simp [intOf]; omega
    · have hjh : j = h := by omega
      have hnm : n ≤ 2 ^ j := by have := HH.out.1; rw [HN.out] at this; rw [hjh]; exact this
      obtain ⟨m, hm⟩ : ∃ m, 2 ^ j = m := ⟨_, rfl⟩
      rw [hm] at hle hlt hpos hnm
      simp only [hm]
      have HM : Hid (m = 2 ^ h) := Lib.hid (by rw [← hm, hjh])
      have hlti : ¬ (m : Int) < (n : Int) := by omega
      clear hiff hdbl hm hjh hlt hj
      have hown0 := own_lit w [] 9 w.heap.size (Nat.le_refl _) (by simp)
      have hsrc := HR.out.keep (balloc (Below.refl _ _) (.cells #[] 9))
      have hone := HONE.out
      go_wp2_with (at_builtin; refine wpList_app _ rfl _ _ 42 rfl w.heap.size 9 i0 (.string ⟨#[]⟩) 16 Try.underlying42 hi hz0 hz1 hz2 rfl _ _ _ rfl hown0 _ _ rfl hsrc hone ?c1 ?c2 ?c3 ?_)
      case c1 => have := HN.out; (try unfold maxLen); (try simp only [List.length_map, List.length_nil]); omega
      case c2 => have := HN.out; (try simp only [List.length_map, List.length_nil]); omega
      try case c3 => exact (balloc (Below.refl _ _) _).size
      intro v1 w1 hown1 hgrow1 _
      clear hown0 hone hsrc
      have hb1 : Below w.heap.size w w1 := ((Below.refl _ w).alloc (Nat.le_refl _) _).grown hgrow1 (by simp) (fun k e => by cases e; simp)
      replace hown1 : w1.ownsRow w.heap.size 9 1 v1 n (L.map Value.string) := by have := HN.out; subst this; simpa using hown1
      have HB1 := Lib.hid hb1
      clear hgrow1
      go_wp2
      go_loopw [4] (fun v4 wr => ∃ N, n ≤ N ∧ N ≤ m ∧ wr.ownsRow w.heap.size 9 1 v4 N ((L ++ List.replicate (N - n) (⟨#[]⟩ : ByteArray)).map Value.string) ∧ Below w.heap.size w wr) (fun v4 _ => m - lenOf v4)
      case atStart => exact ⟨n, by omega, hnm, by simpa using hown1, hb1⟩
      case round =>
        clear hb1 hown1
        obtain ⟨N, hN1, hN2, hrow, hb⟩ := hrel
        obtain ⟨va, vc, rfl⟩ := own_shape hrow
        by_cases hNm : N < m
        · have hNi : (N : Int) < (m : Int) := by omega
          have HB := Lib.hid hb
          have hbs := hb.size
          have HROW := Lib.hid hrow
          clear hb hrow hlti
          go_wp2_with (at_builtin; refine wpList_app _ rfl _ _ 42 rfl w.heap.size 9 i0 (.string ⟨#[]⟩) 16 Try.underlying42 hi hz0 hz1 hz2 rfl _ _ _ rfl (HROW.out.alloc _) _ [.string ⟨#[]⟩] rfl (Src.one (World.cell?_alloc_at _ _ _ _ rfl)) (by simp [Value.oneCell']) ?d1 ?d2 ?d3 ?_)
          case d1 => (try unfold maxLen); (try simp only [List.length_cons, List.length_nil]); omega
          case d2 => (try simp only [List.length_cons, List.length_nil]); omega
          case d3 => simp; omega
          intro v2 w2 hown2 hgrow2 _
          have HOWN := Lib.hid hown2
          have HBB : Hid (Below w.heap.size w w2) := Lib.hid ((HB.out.alloc hbs _).grown hgrow2 (by simp; omega) (fun k e => (HROW.out.lt k e).1))
          obtain ⟨g2, c2, rfl⟩ := ownsRow_succ hown2
          clear hown2 hgrow2
          go_wp2
          go_roundw
          case rel =>
            refine ⟨N + 1, by omega, by omega, ?_, HBB.out⟩
            rw [show N + 1 - n = N - n + 1 by omega, List.replicate_succ']
            simpa using HOWN.out
          case measure => simp [lenOf]; omega
        · obtain rfl : N = m := by omega
          have hNi : ¬ (N : Int) < (N : Int) := by omega
          have hrow0 : wr.ownsRow w.heap.size 9 1 (.slice va N vc) (2 ^ (h - 0)) ((DG.T L h 0).map Value.string) := by
            rw [DG.T_zero, Nat.sub_zero, ← HM.out, HN.out]
            exact hrow
          have htree : Tree w.heap.size L h 1 [.slice va N vc] (wr.alloc (.cells #[.slice va N vc] 42)) := ⟨rfl, fun j hj => by
            obtain rfl : j = 0 := by omega
            exact hrow0.alloc _⟩
          have hout := own_lit wr [.slice va N vc] 42 w.heap.size hb.size (by simp [maxLen])
          have hbb := hb.alloc hb.size (.cells #[.slice va N vc] 42)
          have HT := Lib.hid htree
          have HO := Lib.hid hout
          have HB := Lib.hid hbb
          clear htree hout hbb hb hrow hrow0
          go_wp2
          go_loopw [5] (fun v5 wo => ∃ k vals, k ≤ h ∧ wo.ownsRow w.heap.size 42 1 v5 (k + 1) vals ∧ Tree w.heap.size L h (k + 1) vals wo ∧ Below w.heap.size w wo) (fun v5 _ => h + 1 - lenOf v5)
          case atStart => exact ⟨0, [.slice va N vc], Nat.zero_le _, HO.out, HT.out, HB.out⟩
          case round =>
            clear HT HO HB
            obtain ⟨k, vals, hkh, hrow, ht, hb⟩ := hrel
            obtain ⟨g, cap, rfl, hgb, hgl, hcell⟩ := own_at hrow (by omega)
            have hlast := ht.2 k (by omega)
            obtain ⟨xa, xc, hx⟩ := own_shape hlast
            have hck := hcell k (vals.getD k (.bool false)) (by simp [List.getD, show k < vals.length by rw [ht.1]; omega])
            rw [hx] at hck hlast
            obtain ⟨p, hp⟩ : ∃ p, 2 ^ (h - k) = p := ⟨_, rfl⟩
            have hp20 : p ≤ 1048576 := by rw [← hp]; exact Nat.le_trans (Nat.pow_le_pow_right (by omega) (show h - k ≤ 20 by omega)) (by decide)
            have HP := Lib.hid hp
            rw [hp] at hck hlast
            obtain ⟨K, hK⟩ : ∃ K, k + 1 = K := ⟨_, rfl⟩
            have hKm : (K : Int) - 1 = (k : Int) := by omega
            have hkK : (k : Int) < (K : Int) := by omega
            have hk0 : (0 : Int) ≤ (k : Int) := by omega
            have hKm2 : ((k : Int)).toNat = k := by omega
            rw [hK] at hrow ht ⊢
            have HK := Lib.hid hK
            have HROW := Lib.hid hrow
            have HT := Lib.hid ht
            have HB := Lib.hid hb
            have HL := Lib.hid hlast
            clear hp hK hrow ht hb hlast hx hcell
            by_cases hkh2 : k < h
            · have hp1 : 1 < p := by rw [← HP.out]; exact Nat.one_lt_two_pow (by omega)
              have hp1i : (1 : Int) < (p : Int) := by omega
              have hlen := DG.T_len HH.out (Nat.le_of_lt hkh2)
              rw [HP.out] at hlen
              have hlv := rlevel_any xa xc (DG.T L h k) wr (by rw [hlen]; exact row_own HL.out (by rw [List.length_map, hlen])) (by rw [hlen]; omega) (DG.T_sizes HSS.out h k)
              rw [hlen, show p / 2 = 2 ^ (h - (k + 1)) by rw [← HP.out, DG.half hkh2]; omega, DG.T_next HH.out hkh2] at hlv
              obtain ⟨q, hq⟩ : ∃ q, 2 ^ (h - (k + 1)) = q := ⟨_, rfl⟩
              rw [hq] at hlv
              have HQ := Lib.hid hq
              have HLV := Lib.hid hlv
              clear hlv hlen hq
              go_wp2_with (first
                | (go_at_call 82; refine HLV.out.mono ?_; rintro e w4 ⟨u, rfl, hu4, hb4⟩; obtain ⟨ua, uc, rfl⟩ := own_shape hu4; have HU := Lib.hid hu4; have hs4 := hb4.size; have hbs := HB.out.size; have HROW4 := Lib.hid (own_kept HROW.out hb4); have HT4 := Lib.hid (HT.out.below hb4); have HB4 := Lib.hid hb4; clear hu4 hb4)
                | (at_builtin; refine wpList_app _ rfl _ _ 88 rfl w.heap.size 42 i1 (.slice none 0 0) 24 Try.underlying88 hi1 hy0 hy1 hy2 rfl _ _ _ rfl (HROW4.out.alloc _) _ [.slice ua q uc] rfl (Src.one (World.cell?_alloc_at _ _ _ _ rfl)) (by simp [Value.oneCell']) ?e1 ?e2 ?e3 ?_))
              case e1 => (try unfold maxLen); (try simp only [List.length_cons, List.length_nil]); omega
              case e2 => (try simp only [List.length_cons, List.length_nil]); omega
              case e3 => simp; omega
              intro v5 w5 hown5 hgrow5 _
              have HBB : Hid (Below w.heap.size w w5) := Lib.hid (((bnext HB.out HB4.out).alloc (by omega) _).grown hgrow5 (by simp; omega) (fun k e => (HROW4.out.lt k e).1))
              have hu5 := (HU.out.alloc (.cells #[.slice ua q uc] 42)).kept hgrow5 (own_apart HU.out HROW4.out (by decide))
              have HT5 : Hid (Tree w.heap.size L h (K + 1) (vals ++ [.slice ua q uc]) w5) := Lib.hid (by
                have h1 := (HT4.out.below (Below.alloc (Below.refl _ w4) (Nat.le_refl _) (.cells #[.slice ua q uc] 42))).kept (HROW4.out.alloc _) hgrow5
                refine h1.one ?_
                rw [← HK.out, HQ.out]
                exact own_base hu5 (by omega))
              have HO5 := Lib.hid hown5
              obtain ⟨g5, c5, rfl⟩ := ownsRow_succ hown5
              clear hown5 hgrow5 hu5
              go_wp2
              go_roundw
              case rel =>
                refine ⟨K, vals ++ [.slice ua q uc], by have := HK.out; omega, HO5.out, HT5.out, HBB.out⟩
              case measure => simp [lenOf]; have := HK.out; omega
            · have hp1 : p = 1 := by rw [← HP.out, show h - k = 0 by omega]
              have hp1i : ¬ (1 : Int) < (p : Int) := by omega
              have hkk : k = h := by omega
              have HKK := Lib.hid hkk
              clear hp1 hkk
              go_wp2
              go_ret
              refine LvOut.mk (vals := vals) rfl ?_ ?_ HB.out
              · rw [← HKK.out, HK.out]; exact HROW.out
              · rw [show h + 1 = K by rw [← HKK.out, HK.out]]; exact HT.out
end Go.Proofs.Ytinkhgmdeldniaa
