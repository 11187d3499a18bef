/- A memory after acts, with the reference's. No conditions. -/
import Derived.Test.YtmnajongifdajaaMem30
import Derived.Test.YtmnajongifdajaaElems
namespace Go.Proofs.Ytmnajongifdajaa.ME
abbrev Ac := Int × Int × Int
def acv (a : Ac) : List Value := [.int .u8 a.1, .int .u8 a.2.1, .int .i64 a.2.2]
theorem acv_len (a : Ac) : (acv a).length = 3 := rfl
def acOk (a : Ac) : Prop := (0 ≤ a.1 ∧ a.1 ≤ 255) ∧ (0 ≤ a.2.1 ∧ a.2.1 ≤ 255) ∧ -9223372036854775808 ≤ a.2.2 ∧ a.2.2 ≤ 9223372036854775807
/-- What acts make of the keys. -/
def acts (bu : Int) (l : List Ac) (P : List En) : List En := l.foldl (fun P a => act bu a.1 a.2.1 a.2.2 P) P
theorem acts_next {bu : Int} {l : List Ac} {i : Nat} {a : Ac} (h : l[i]? = some a) (P : List En) : acts bu (l.take (i + 1)) P = act bu a.1 a.2.1 a.2.2 (acts bu (l.take i) P) := by
  unfold acts
  rw [List.take_add_one, h, List.foldl_append]
  rfl
end Go.Proofs.Ytmnajongifdajaa.ME
namespace Go.Proofs.Ytmnajongifdajaa
set_option maxRecDepth 100000
set_option linter.unusedVariables false
open Go.RowKit Go.Deep ME
/-- A slice of acts. -/
structure AcArg (W : World) (v : Value) (l : List Ac) : Prop where
  src : SrcN 3 W v l.length (l.flatMap ME.acv)
  len : l.length ≤ maxLen
  ok : ∀ a ∈ l, ME.acOk a
theorem AcArg.keep {W W' : World} {v : Value} {l : List Ac} (h : AcArg W v l) (hb : Below W.heap.size W W') : AcArg W' v l := ⟨h.src.keep hb, h.len, h.ok⟩
theorem ac_at {W : World} {n c : Nat} {a : Option Addr} {l : List Ac} (h : SrcN 3 W (.slice a n c) n (l.flatMap ME.acv)) {i : Nat} {x : Ac} (hx : l[i]? = some x) (hi : i < n) :
    ∃ g o, a = some ⟨g, o, none⟩ ∧ g < W.heap.size ∧ W.cell? ⟨g, o + i * 3, none⟩ = some (.int .u8 x.1) ∧ W.cell? ⟨g, o + i * 3 + 1, none⟩ = some (.int .u8 x.2.1) ∧ W.cell? ⟨g, o + i * 3 + 2, none⟩ = some (.int .i64 x.2.2) := by
  obtain ⟨ao, c', e1, hl, h1⟩ := h
  injection e1 with e1 _ _
  subst e1
  rcases h1 with ⟨h1, _⟩ | ⟨g, o, rfl, hgl, hc⟩
  · omega
  · have q := fun (j : Nat) (u : Value) (hu : (ME.acv x)[j]? = some u) => hc (i * 3 + j) u (flat_at ME.acv_len l i x j u hx hu)
    exact ⟨g, o, rfl, hgl, q 0 _ rfl, q 1 _ rfl, q 2 _ rfl⟩
theorem PSr.to_below {w0 W w : World} {H : Nat → Prop} {M mb root r : Nat} {bu : Int} {P1 P2 : List En} {k : Nat} (h : PSr W H w M mb root r bu P1 P2 k) (h0 : Below w0.heap.size w0 W) (hH : ∀ b, H b → w0.heap.size ≤ b) : Below w0.heap.size w0 w := h.1.below w0 h0 hH
section
variable {W w : World} {H : Nat → Prop} {M mb root r : Nat} {bu : Int} {P1 P2 : List En} {k : Nat}
theorem usedr_m (h : PSr W H w M mb root r bu P1 P2 k) : Calls Try.prog 19 #[ptr M] w fun x w' => x = .returned (.int .i64 (ME.sm P1)) ∧ w' = w := by
  obtain ⟨_, H', hp, _⟩ := h
  exact used_m hp
theorem usedr_r (h : PSr W H w M mb root r bu P1 P2 k) (hb : k ≤ 100000) : Calls Try.prog 24 #[ptr r] w fun x w' => x = .returned (.int .i64 (ME.sm P2)) ∧ w' = w := by
  obtain ⟨_, H', hp, _⟩ := h
  exact used_r hp hb
theorem listr_m (h : PSr W H w M mb root r bu P1 P2 k) (hb : k ≤ 100000) : Calls Try.prog 18 #[ptr M] w fun x w' => ∃ v, x = .returned v ∧ w'.ownsRow w.heap.size 34 4 v (P1.map En.key).length (ME.kc (P1.map En.key)) ∧ Below w.heap.size w w' := by
  obtain ⟨_, H', hp, _⟩ := h
  exact list_m hp hb
theorem listr_r (h : PSr W H w M mb root r bu P1 P2 k) (hb : k ≤ 100000) : Calls Try.prog 25 #[ptr r] w fun x w' => ∃ v, x = .returned v ∧ w'.ownsRow w.heap.size 34 4 v (P2.map En.key).length (ME.kc (P2.map En.key)) ∧ Below w.heap.size w w' := by
  obtain ⟨_, H', hp, _⟩ := h
  exact list_r hp hb
theorem PSr.l1 (h : PSr W H w M mb root r bu P1 P2 k) : P1.length ≤ k := by
  obtain ⟨_, H', hp, _⟩ := h
  exact hp.l1
end
set_option maxHeartbeats 8000000 in
theorem filled_yes (w : World) (bu : Int) (v : Value) (l : List Ac) (h0 : 0 ≤ bu) (h1 : bu ≤ 1073741824) (hv : AcArg w v l) :
    Calls Try.prog 11 #[.int .i64 bu, v] w fun x w' => ∃ M mb root r H, x = .returned (.tuple #[ptr M, ptr r, .bool true]) ∧ PS w' M mb root r bu (ME.acts bu (l.take 60) []) (ME.acts bu (l.take 60) []) 60 H ∧ (∀ b, H b → w.heap.size ≤ b) ∧ Below w.heap.size w w' := by
  obtain ⟨va, vc, rfl, -⟩ := id hv.src
  obtain ⟨n, hn⟩ : ∃ n, l.length = n := ⟨_, rfl⟩
  have hlen := hv.len
  unfold maxLen at hlen
  rw [hn] at hv hlen ⊢
  have HN := Lib.hid hn
  have HV := Lib.hid hv
  clear hn hv
  go_enter Try.func11, Try.ntmps11
  go_upto_region 2 with (first
    | (go_at_call 12; refine (new_yes w bu h0 h1).mono ?_; rintro x w1 ⟨M, mb, root, rfl, hm1, hb1⟩)
    | (go_at_call 22; refine (rnew_yes w1 bu h0 h1).mono ?_; rintro x w2 ⟨r, rfl, hr2, hb2⟩))
  have ps := PS.new hm1 hb2 hr2 h0 h1
  have HPS := Lib.hid ps
  have HB2 := Lib.hid (bnext hb1 hb2)
  clear hm1 hb2 hr2 hb1 ps
  go_wp2_with fail
  go_loopw [9] (fun v9 wr => ∃ i : Nat, v9 = .int .i64 (i : Int) ∧ i ≤ n ∧ i ≤ 60 ∧ Hid (PSr w2 (fun b => w.heap.size ≤ b ∧ b < w2.heap.size) wr M mb root r bu (ME.acts bu (l.take i) []) (ME.acts bu (l.take i) []) i)) (fun v _ => n - (intOf v).toNat)
  case atStart => exact ⟨0, rfl, Nat.zero_le _, by omega, Lib.hid HPS.out.here⟩
  case round =>
    obtain ⟨i, rfl, hi, hi60, HP⟩ := hrel
    have hbl := HP.out.to_below HB2.out (fun b hb => hb.1)
    by_cases hin : i < n ∧ i < 60
    · obtain ⟨hin, hi6⟩ := hin
      have hii : (i : Int) < (n : Int) := by omega
      have hii6 : (i : Int) < 60 := by omega
      have hi0 : (0 : Int) ≤ (i : Int) := by omega
      obtain ⟨a, ha⟩ : ∃ a, l[i]? = some a := ⟨l[i]'(by rw [HN.out]; exact hin), List.getElem?_eq_getElem _⟩
      have hs := (HV.out.keep hbl).src
      rw [HN.out] at hs
      obtain ⟨g, o, rfl, hg, k0, k1, k2⟩ := ac_at hs ha hin
      obtain ⟨a0, a1, a2⟩ := HV.out.ok a (List.mem_of_getElem? ha)
      have HT := Lib.hid (ME.acts_next (bu := bu) ha [])
      obtain ⟨Q, hQ⟩ : ∃ Q, ME.acts bu (l.take (i + 1)) [] = Q := ⟨_, rfl⟩
      rw [hQ] at HT
      have HQ := Lib.hid hQ
      have HDO : Hid (Calls Try.prog 23 #[ptr M, ptr r, .agg #[.int .u8 a.1, .int .u8 a.2.1, .int .i64 a.2.2]] wr fun x w' => x = .returned (.bool true) ∧ PSr w2 (fun b => w.heap.size ≤ b ∧ b < w2.heap.size) w' M mb root r bu Q Q (i + 1)) := Lib.hid (by
        obtain ⟨f, H', hp, hsub⟩ := HP.out
        refine (do_any wr M mb root r bu _ i H' a.1 a.2.1 a.2.2 a0.1 a0.2 a1.1 a1.2 hp (by omega)).mono ?_
        rintro x w' ⟨rfl, hr⟩
        rw [← HT.out] at hr
        exact ⟨rfl, PSr.glue f hsub hr⟩)
      clear ha hs hQ hbl
      go_upto_region 6 with (first
        | (go_at_call 23; refine HDO.out.mono ?_; rintro x w3 ⟨rfl, hp3⟩)
        | (go_at_call 19; refine (usedr_m hp3).mono ?_; rintro x w4 ⟨rfl, he⟩; have he' := he.symm; subst he')
        | (go_at_call 24; refine (usedr_r hp3 (by omega)).mono ?_; rintro x w4 ⟨rfl, he⟩; have he' := he.symm; subst he')
        | (go_at_call 18; refine (listr_m hp3 (by omega)).mono ?_; rintro x w4 ⟨v4, rfl, hrow4, hb4⟩; have hp4 := hp3.below hb4)
        | (go_at_call 25; refine (listr_r hp4 (by omega)).mono ?_; rintro x w5 ⟨v5, rfl, hrow5, hb5⟩; have hp5 := hp4.below hb5; have hrow45 := own_below hrow4 hb5)
        | (go_at_call 20; refine (same_any _ _ _ (Q.map En.key) (Q.map En.key) (own_srcN hrow45) (own_srcN hrow5) (by have := hp5.l1; rw [List.length_map]; omega) (by have := hp5.l1; rw [List.length_map]; omega)).mono ?_; rintro x w6 ⟨rfl, nq, rfl⟩))
      have hp6 := hp5.below (w' := w5.drewN nq) ⟨rfl, rfl, rfl, Nat.le_refl _, fun _ _ => rfl⟩
      have HP6 := Lib.hid hp6
      clear hp6 hp5 hp4 hp3 hrow4 hrow5 hrow45 hb4 hb5 k0 k1 k2
      go_wp2
      go_roundw
      case rel => exact ⟨i + 1, by go_num, hin, by omega, by rw [HQ.out]; exact HP6⟩
      case measure => simp [intOf]; omega
    · have htk : l.take i = l.take 60 := by
        by_cases h6 : i = 60
        · rw [h6]
        · obtain rfl : n = i := by omega
          rw [List.take_of_length_le (by rw [HN.out]; exact Nat.le_refl _), List.take_of_length_le (by rw [HN.out]; omega)]
      rw [htk] at HP
      have HFI : Hid (∃ H, PS wr M mb root r bu (ME.acts bu (l.take 60) []) (ME.acts bu (l.take 60) []) 60 H ∧ (∀ b, H b → w.heap.size ≤ b)) := Lib.hid (by
        obtain ⟨f, H', hp, hsub⟩ := HP.out
        exact ⟨H', hp.mono hi60, fun b hb => (hsub b hb).elim (fun z => z.1) (fun z => by have := HB2.out.size; omega)⟩)
      have HBL := Lib.hid hbl
      clear hbl htk
      by_cases hin2 : i < n
      · have hii : (i : Int) < (n : Int) := by omega
        have hii6 : ¬ (i : Int) < 60 := by omega
        go_wp2
        go_ret3
        obtain ⟨H, q1, q2⟩ := HFI.out
        exact ⟨_, mb, root, _, rfl, H, q1, q2, HBL.out⟩
      · have hii : ¬ (i : Int) < (n : Int) := by omega
        go_wp2
        go_ret3
        obtain ⟨H, q1, q2⟩ := HFI.out
        exact ⟨_, mb, root, _, rfl, H, q1, q2, HBL.out⟩
end Go.Proofs.Ytmnajongifdajaa
