/- Texts merged: DigRRoot, DigFacts. No conditions. -/
import Derived.Test.YtinkhgmdeldniaaDigRLvs
import Derived.Test.YtinkhgmdeldniaaDigTree
/- The reference's Root and Proof. -/
section
namespace Go.Proofs.Ytinkhgmdeldniaa
set_option maxRecDepth 100000
set_option linter.unusedVariables false
open Go.RowKit
/-- One level of a tree that lies there. -/
theorem Tree.at {B : Nat} {L : List ByteArray} {h k : Nat} {vals : List Value} {w : World} {v : Value} (t : Tree B L h (h + 1) vals w) (hv : w.ownsRow B 42 1 v (h + 1) vals) (hk : k ≤ h) :
    ∃ g cap x xc, v = .slice (some ⟨g, 0, none⟩) (h + 1) cap ∧ g < w.heap.size ∧ x < w.heap.size ∧ w.cell? ⟨g, k, none⟩ = some (.slice (some ⟨x, 0, none⟩) (2 ^ (h - k)) xc) ∧ ∀ j u, ((DG.T L h k).map Value.string)[j]? = some u → w.cell? ⟨x, j, none⟩ = some u := by
  obtain ⟨g, cap, rfl, hgb, hgl, hcell⟩ := own_at hv (by omega)
  obtain ⟨x, xc, hx, hxb, hxl, hxc⟩ := own_at (t.2 k (by omega)) (Nat.two_pow_pos _)
  have hck := hcell k (vals.getD k (.bool false)) (by simp [List.getD, show k < vals.length by rw [t.1]; omega])
  rw [hx] at hck
  exact ⟨g, cap, x, xc, rfl, hgl, hxl, hck, hxc⟩
theorem T_cell {L : List ByteArray} {h k j : Nat} (hh : DG.IsH L.length h) (hk : k ≤ h) (hj : j < 2 ^ (h - k)) : ((DG.T L h k).map Value.string)[j]? = some (.string ((DG.T L h k).getD j ⟨#[]⟩)) := by
  have := DG.T_len hh hk
  simp [List.getD, show j < (DG.T L h k).length by omega]
set_option maxRecDepth 100000 in
set_option maxHeartbeats 4000000 in
theorem rroot_any (a : Option Addr) (c : Nat) (L : List ByteArray) (h : Nat) (w : World) (hr : Src w (.slice a L.length c) (L.map Value.string)) (hL : L.length ≤ 1000000) (hs : ∀ s ∈ L, s.size < 2147483648) (hh : DG.IsH L.length h) :
    Calls Try.prog 36 #[.slice a L.length c] w fun e w' => e = .returned (.string (DG.root L h)) ∧ Below w.heap.size w w' := by
  have h20 := hh.le20 hL
  have HLV := Lib.hid (rlevels_any a c L h w hr hL hs hh)
  have hts : (DG.top L h).size < 2147483648 := getD_size (DG.lvl_sizes hs h).2 (DG.lvl_sizes hs h).1 0
  have HH := Lib.hid hh
  obtain ⟨n, hn⟩ : ∃ n, L.length = n := ⟨_, rfl⟩
  rw [hn] at HLV ⊢
  clear hr hs hL hh hn
  go_enter Try.func36, Try.ntmps36
  go_wp2_with fail
  refine HLV.out.mono ?_
  rintro e w1 ⟨v, vals, rfl, hrow, ht, hb1⟩
  obtain ⟨g, cap, x, xc, rfl, hg, hxl, hck, hxc⟩ := ht.at hrow (Nat.le_refl h)
  have hx0 := hxc 0 _ (T_cell HH.out (Nat.le_refl h) (by simp))
  rw [DG.T_top] at hx0
  rw [Nat.sub_self] at hck
  simp only [Nat.pow_zero] at hck
  obtain ⟨K, hK⟩ : ∃ K, h + 1 = K := ⟨_, rfl⟩
  have hKm : (K : Int) - 1 = (h : Int) := by omega
  have hkK : (h : Int) < (K : Int) := by omega
  have hk0 : (0 : Int) ≤ (h : Int) := by omega
  rw [hK]
  clear hrow ht hxc hK
  obtain ⟨z, hz⟩ : ∃ z, DG.top L h = z := ⟨_, rfl⟩
  have hroot : DG.root L h = DG.S (DG.dig (DG.rootL h z)) := by rw [← hz]; rfl
  rw [hz] at hts hx0
  have HRT := Lib.hid hroot
  clear hz hroot
  go_wp2_with (go_at_call 56; refine (rtop_any h z _ (by omega) hts).mono ?_; rintro e w2 ⟨rfl, hb2⟩)
  go_ret
  exact ⟨rets HRT.out.symm, bnext hb1 hb2⟩
set_option maxRecDepth 100000 in
set_option maxHeartbeats 4000000 in
theorem rproof_any (a : Option Addr) (c : Nat) (L : List ByteArray) (h : Nat) (i : Int) (w : World) (hr : Src w (.slice a L.length c) (L.map Value.string)) (hL : L.length ≤ 1000000) (hs : ∀ s ∈ L, s.size < 2147483648) (hh : DG.IsH L.length h) :
    Calls Try.prog 44 #[.slice a L.length c, .int .i64 i] w fun e W' => ∃ v, e = .returned v ∧ W'.ownsRow w.heap.size 9 1 v (DG.proof L h i).length ((DG.proof L h i).map Value.string) ∧ Below w.heap.size w W' := by
  obtain ⟨i0, hif, hz0, hz1, hz2⟩ := info_parts info_string
  by_cases hi : 0 ≤ i ∧ i < (L.length : Int)
  · obtain ⟨q, rfl⟩ : ∃ k : Nat, i = (k : Int) := ⟨i.toNat, by omega⟩
    have hp : DG.proof L h (q : Int) = DG.prf L q h := by unfold DG.proof; rw [if_pos hi]; rfl
    rw [hp, DG.prf_len]
    have h20 := hh.le20 hL
    have HLV := Lib.hid (rlevels_any a c L h w hr hL hs hh)
    have HH := Lib.hid hh
    have hqh : q < 2 ^ h := by have := hh.1; omega
    have HQH := Lib.hid hqh
    obtain ⟨n, hn⟩ : ∃ n, L.length = n := ⟨_, rfl⟩
    rw [hn] at HLV hi ⊢
    have hi0 : ¬ (q : Int) < 0 := by omega
    have hi1 : ¬ (n : Int) ≤ (q : Int) := by omega
    have hqm : q ≤ 1000000 := by omega
    clear hr hs hL hh hn hp hi hqh
    go_enter Try.func44, Try.ntmps44
    go_wp2_with fail
    refine HLV.out.mono ?_
    rintro e w1 ⟨v, vals, rfl, hrow, ht, hb1⟩
    have HT : Hid (∀ k, k ≤ h → ∃ g cap x xc, v = .slice (some ⟨g, 0, none⟩) (h + 1) cap ∧ g < w1.heap.size ∧ x < w1.heap.size ∧ w1.cell? ⟨g, k, none⟩ = some (.slice (some ⟨x, 0, none⟩) (2 ^ (h - k)) xc) ∧ ∀ j u, ((DG.T L h k).map Value.string)[j]? = some u → w1.cell? ⟨x, j, none⟩ = some u) := Lib.hid fun k hk => ht.at hrow hk
    obtain ⟨g, cap, rfl, _⟩ := own_at hrow (by omega)
    obtain ⟨K, hK⟩ : ∃ K, h + 1 = K := ⟨_, rfl⟩
    have hKh : K ≤ h + 1 ∧ h + 1 ≤ K := by omega
    have HB1 := Lib.hid hb1
    rw [hK] at HT ⊢
    clear hrow ht hK hb1
    go_wp2
    go_loopw [1, 6, 7] (fun v1 v6 v7 wr => ∃ k : Nat, v7 = .int .i64 (k : Int) ∧ k ≤ h ∧ v1 = .int .i64 ((q / 2 ^ k : Nat) : Int) ∧ wr.ownsRow w1.heap.size 9 1 v6 k ((DG.prf L q k).map Value.string) ∧ Below w1.heap.size w1 wr) (fun _ _ v _ => h - (intOf v).toNat)
    case atStart => exact ⟨0, rfl, Nat.zero_le _, by simp, World.ownsRow_nil _ _ _ _, Below.refl _ _⟩
    case round =>
      obtain ⟨k, rfl, hk, rfl, hrow, hb⟩ := hrel
      have hbs := hb.size
      by_cases hkh : k < h
      · have hki : (k : Int) + 1 < (K : Int) := by omega
        have hki2 : (k : Int) < (K : Int) := by omega
        obtain ⟨g', cap', x, xc, he, hg, hxl, hck, hxc⟩ := HT.out k hk
        obtain ⟨rfl, rfl⟩ : g = g' ∧ cap = cap' := by
          injection he with e1 e2 e3
          injection e1 with e1
          injection e1 with e1
          exact ⟨e1, e3⟩
        have hbl := DG.beside_lt (k := k) hkh HQH.out
        have hxq := hxc _ _ (T_cell HH.out hk hbl)
        rw [DG.T_nbr hkh HQH.out] at hxq
        replace hck := (hb.cell (p := ⟨g, k, none⟩) hg).trans hck
        replace hxq := (hb.cell (p := ⟨x, _, none⟩) hxl).trans hxq
        have HP : Hid (DG.prf L q (k + 1) = DG.prf L q k ++ [DG.nbr L q k]) := Lib.hid (DG.prf_succ L q k)
        have hdiv : q / 2 ^ (k + 1) = q / 2 ^ k / 2 := by rw [Nat.pow_succ, Nat.div_div_eq_div_mul]
        have hle := Nat.div_le_self q (2 ^ k)
        obtain ⟨t, ht⟩ : ∃ t, q / 2 ^ k = t := ⟨_, rfl⟩
        obtain ⟨p, hp⟩ : ∃ p, 2 ^ (h - k) = p := ⟨_, rfl⟩
        obtain ⟨y, hy⟩ : ∃ y, DG.nbr L q k = y := ⟨_, rfl⟩
        have hp20 : p ≤ 1048576 := by rw [← hp]; exact Nat.le_trans (Nat.pow_le_pow_right (by omega) (show h - k ≤ 20 by omega)) (by decide)
        rw [hy] at hxq HP
        rw [hp] at hck hbl
        rw [ht] at hxq hbl hdiv hle
        have HD := Lib.hid hdiv
        have HTT := Lib.hid ht
        have HB := Lib.hid hb
        have HROW := Lib.hid hrow
        obtain ⟨va, vc, rfl⟩ := own_shape hrow
        rw [ht]
        clear he hxc hdiv ht hp hy hb hrow
        by_cases hev : t % 2 = 0
        · have hbe : DG.beside t = t + 1 := by unfold DG.beside; rw [if_pos hev]
          rw [hbe] at hxq hbl
          have hm0 : ((t : Int) % 2 == 1) = false := by
            have : (t : Int) % 2 = 0 := by omega
            rw [this]; rfl
          have hm : (t : Int) % 2 = 0 := by omega
          have hb2 : (t : Int) + 1 < (p : Int) := by omega
          have hq2 : ((t : Int) + 1).toNat = t + 1 := by omega
          clear hbe hev
          go_wp2_with (at_builtin; refine wpList_app _ rfl _ _ 42 rfl w1.heap.size 9 i0 (.string ⟨#[]⟩) 16 Try.underlying42 hif hz0 hz1 hz2 rfl _ _ _ rfl (HROW.out.alloc _) _ [.string y] rfl (Src.one (World.cell?_alloc_at _ _ _ _ rfl)) (by simp [Value.oneCell']) ?c1 ?c2 ?c3 ?_)
          case c1 => (try unfold maxLen); (try simp only [List.length_cons, List.length_nil]); omega
          case c2 => (try simp only [List.length_cons, List.length_nil]); omega
          case c3 => simp; omega
          intro v5 w5 hown5 hgrow5 _
          have HBB : Hid (Below w1.heap.size w1 w5) := Lib.hid ((HB.out.alloc hbs _).grown hgrow5 (by simp; omega) (fun k e => (HROW.out.lt k e).1))
          have HO5 := Lib.hid hown5
          clear hown5 hgrow5
          go_wp2
          go_roundw
          case rel => exact ⟨k + 1, by go_num, hkh, by rw [HD.out]; go_num, by rw [HP.out, List.map_append]; exact HO5.out, HBB.out⟩
          case measure => simp [intOf]; omega
        · have hbe : DG.beside t = t - 1 := by unfold DG.beside; rw [if_neg hev]
          rw [hbe] at hxq hbl
          have hm0 : ((t : Int) % 2 == 1) = true := by
            have : (t : Int) % 2 = 1 := by omega
            rw [this]; rfl
          have hm : (t : Int) % 2 = 1 := by omega
          have hb2 : (t : Int) - 1 < (p : Int) := by omega
          have hb3 : (1 : Int) ≤ (t : Int) := by omega
          have hb4 : (0 : Int) ≤ (t : Int) - 1 := by omega
          have hq2 : ((t : Int) - 1).toNat = t - 1 := by omega
          clear hbe hev
          go_wp2_with (at_builtin; refine wpList_app _ rfl _ _ 42 rfl w1.heap.size 9 i0 (.string ⟨#[]⟩) 16 Try.underlying42 hif hz0 hz1 hz2 rfl _ _ _ rfl (HROW.out.alloc _) _ [.string y] rfl (Src.one (World.cell?_alloc_at _ _ _ _ rfl)) (by simp [Value.oneCell']) ?d1 ?d2 ?d3 ?_)
          case d1 => (try unfold maxLen); (try simp only [List.length_cons, List.length_nil]); omega
          case d2 => (try simp only [List.length_cons, List.length_nil]); omega
          case d3 => simp; omega
          intro v5 w5 hown5 hgrow5 _
          have HBB : Hid (Below w1.heap.size w1 w5) := Lib.hid ((HB.out.alloc hbs _).grown hgrow5 (by simp; omega) (fun k e => (HROW.out.lt k e).1))
          have HO5 := Lib.hid hown5
          clear hown5 hgrow5
          go_wp2
          go_roundw
          case rel => exact ⟨k + 1, by go_num, hkh, by rw [HD.out]; go_num, by rw [HP.out, List.map_append]; exact HO5.out, HBB.out⟩
          case measure => simp [intOf]; omega
      · have hki : ¬ (k : Int) + 1 < (K : Int) := by omega
        have hkk : k = h := by omega
        subst hkk
        go_wp2
        go_ret
        exact ⟨_, rfl, own_base hrow HB1.out.size, bnext HB1.out hb⟩
  · have hp : DG.proof L h i = [] := by unfold DG.proof; rw [if_neg hi]
    rw [hp]
    obtain ⟨n, hn⟩ : ∃ n, L.length = n := ⟨_, rfl⟩
    rw [hn] at hi ⊢
    clear hr hs hL hh hn hp
    by_cases h0 : i < 0
    · go_enter Try.func44, Try.ntmps44
      go_wp2
      go_ret
      exact ⟨_, rfl, World.ownsRow_nil _ _ _ _, Below.refl _ _⟩
    · have h1 : (n : Int) ≤ i := by omega
      clear hi
      go_enter Try.func44, Try.ntmps44
      go_wp2
      go_ret
      exact ⟨_, rfl, World.ownsRow_nil _ _ _ _, Below.refl _ _⟩
end Go.Proofs.Ytinkhgmdeldniaa
end
/- Plain facts on proofs: they lead to the root; with another height, or an index beyond, they don't. No conditions. -/
section
namespace Go.Proofs.Ytinkhgmdeldniaa.DG
set_option maxRecDepth 100000
/-- Up to level j. -/
theorem climb_prf {L : List ByteArray} {h i : Nat} (hh : IsH L.length h) (hi : i < 2 ^ h) : ∀ j, j ≤ h → climb (prf L i j) i ((T L h 0).getD i ⟨#[]⟩) = (i / 2 ^ j, (T L h j).getD (i / 2 ^ j) ⟨#[]⟩)
  | 0, _ => by simp [climb, prf]
  | j + 1, hj => by
    have ih := climb_prf hh hi j (by omega)
    have hlt : i / 2 ^ j < 2 ^ (h - j) := by
      rw [Nat.div_lt_iff_lt_mul (Nat.two_pow_pos j), ← Nat.pow_add, show h - j + j = h by omega]
      exact hi
    have hb := T_nbr (L := L) (d := ⟨#[]⟩) (show j < h by omega) hi
    have hd : i / 2 ^ (j + 1) = i / 2 ^ j / 2 := by rw [Nat.pow_succ, Nat.div_div_eq_div_mul]
    have hx := T_next hh (show j < h by omega)
    have hl2 := half (show j < h by omega)
    rw [prf_succ]
    unfold climb at ih ⊢
    rw [List.foldl_append, ih, hd]
    generalize i / 2 ^ j = q at *
    rw [← hx]
    have hq : q / 2 < 2 ^ (h - (j + 1)) := by omega
    simp only [List.foldl_cons, List.foldl_nil, step, ← hb]
    have hg : (prs (T L h j) (2 ^ (h - (j + 1)))).getD (q / 2) ⟨#[]⟩ = pr (T L h j) (q / 2) := by simp [prs, List.getD, hq]
    rw [hg]
    unfold pr beside
    by_cases hev : q % 2 = 0
    · rw [if_pos hev, if_pos hev, show 2 * (q / 2) = q by omega]
      rfl
    · rw [if_neg hev, if_neg hev, show 2 * (q / 2) + 1 = q by omega, show 2 * (q / 2) = q - 1 by omega]
      rfl
theorem verify_right {L : List ByteArray} {h k : Nat} (hh : IsH L.length h) (h20 : h ≤ 20) (hk : k < L.length) {x : ByteArray} (hx : L[k]? = some x) : verify (root L h) x (k : Int) (prf L k h) = true := by
  have hk2 : k < 2 ^ h := Nat.lt_of_lt_of_le hk hh.1
  have hc := climb_prf hh hk2 h (Nat.le_refl h)
  have h0 : (T L h 0).getD k ⟨#[]⟩ = x := by
    rw [T_get (by simpa using hk2)]
    simp [lvl, List.getD, hx]
  rw [h0, Nat.div_eq_of_lt hk2, T_top] at hc
  unfold verify
  rw [prf_len, show ((k : Int)).toNat = k by omega, hc]
  simp only [Bool.and_eq_true, decide_eq_true_eq]
  exact ⟨⟨⟨h20, by omega⟩, by exact_mod_cast hk2⟩, rfl⟩
theorem verify_beyond {root x : ByteArray} {i : Int} {l : List ByteArray} (h : (2 : Int) ^ l.length ≤ i) : verify root x i l = false := by
  unfold verify
  rw [decide_eq_false (show ¬ i < 2 ^ l.length by omega)]
  simp
theorem verify_neg {root x : ByteArray} {i : Int} {l : List ByteArray} (h : i < 0) : verify root x i l = false := by
  unfold verify
  rw [decide_eq_false (show ¬ 0 ≤ i by omega)]
  simp
theorem verify_long {root x : ByteArray} {i : Int} {l : List ByteArray} (h : 20 < l.length) : verify root x i l = false := by
  unfold verify
  rw [decide_eq_false (show ¬ l.length ≤ 20 by omega)]
  simp
theorem root_size (L : List ByteArray) (h : Nat) : (root L h).size = 8 := rfl
end Go.Proofs.Ytinkhgmdeldniaa.DG
end
