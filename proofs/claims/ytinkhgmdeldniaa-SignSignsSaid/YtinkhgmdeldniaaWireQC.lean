/- The reference's reader: a length, a text, and lists. -/
import Derived.Test.YtinkhgmdeldniaaWireQB
import Derived.Test.YtinkhgmdeldniaaWireElem
namespace Go.Proofs.Ytinkhgmdeldniaa.W
set_option maxRecDepth 100000
set_option linter.unusedVariables false
open Go.RowKit
namespace WP
theorem int_bad {r : RS} (h : r.int.2.bad = true) : r.int.1 = 0 := by
  unfold RS.int at h ⊢
  split
  · rfl
  · rename_i hb
    rw [if_neg hb] at h
    split
    · rfl
    · rename_i hx
      rw [hx] at h
      simp at h
      exact absurd h hb
theorem count_bad (r : RS) (h : r.count.2.bad = true) : r.count.1 = 0 := by
  unfold RS.count at h ⊢
  split
  · rfl
  · rename_i hb
    rw [if_neg hb] at h
    split
    · rfl
    · rename_i hc
      rw [if_neg hc] at h
      exact absurd h hb
theorem count_nn (r : RS) : 0 ≤ r.count.1 := by
  cases hb : r.count.2.bad with
  | false => exact (count_ok r hb).1
  | true => rw [count_bad r hb]; exact Int.le_refl _
end WP
set_option maxRecDepth 100000 in
set_option maxHeartbeats 1000000 in
theorem qlength_any (b : Nat) (r : WP.RS) (w : World) (h : QAt b r w) : Calls Try.prog 60 #[.pointer (some ⟨b, 0, none⟩)] w fun e w' => e = .returned (.int .i64 r.count.1) ∧ QAt b r.count.2 w' ∧ Kept b w w' := by
  have hrd := Lib.hid (qread_any b r w h)
  have hib := Lib.hid (@WP.int_bad r)
  have hct : Hid (r.count = if r.int.2.bad then (0, r.int.2) else if r.int.1 < 0 ∨ (r.int.2.left : Int) < r.int.1 then (0, r.int.2.fail) else r.int) := Lib.hid rfl
  generalize r.int = R at *
  obtain ⟨n, r1⟩ := R
  simp only at hct hib
  cases hbad : r1.bad with
  | true =>
    have hn := hib.out hbad
    subst hn
    have hl0 : r1.left = 0 := by unfold WP.RS.left; rw [if_pos hbad]
    have HL := Lib.hid fun V (hV : QAt b r1 V) => qleft_any b r1 V hV
    rw [hl0] at HL
    have hres : Hid (r.count = (0, r1)) := Lib.hid (by rw [hct.out, if_pos hbad])
    clear hbad
    go_enter Try.func60, Try.ntmps60
    go_wp2_with fail
    refine hrd.out.mono ?_
    rintro e w1 ⟨rfl, h1, k1⟩
    go_wp2_with (go_at_call 58; refine (HL.out _ h1).mono ?_; rintro e w2 ⟨rfl, hb2⟩)
    go_ret
    rw [hres.out]
    exact ⟨rfl, h1.keep hb2, k1.trans (Kept.of hb2)⟩
  | false =>
    rw [hbad] at hct
    simp only [Bool.false_eq_true, if_false] at hct
    have HL := Lib.hid fun V (hV : QAt b r1 V) => qleft_any b r1 V hV
    obtain ⟨lf, hlf⟩ : ∃ lf, r1.left = lf := ⟨_, rfl⟩
    rw [hlf] at HL hct
    clear hlf
    by_cases hn : n < 0
    · have hres : Hid (r.count = (0, r1.fail)) := Lib.hid (by rw [hct.out, if_pos (Or.inl hn)])
      go_enter Try.func60, Try.ntmps60
      go_wp2_with fail
      refine hrd.out.mono ?_
      rintro e w1 ⟨rfl, h1, k1⟩
      go_wp2_with (go_at_call 59; refine (qfail_any b r1 _ h1).mono ?_; rintro e w2 ⟨rfl, h2, k2⟩)
      go_ret
      rw [hres.out]
      exact ⟨rfl, h2, k1.trans k2⟩
    · by_cases hl : (lf : Int) < n
      · have hres : Hid (r.count = (0, r1.fail)) := Lib.hid (by rw [hct.out, if_pos (Or.inr hl)])
        go_enter Try.func60, Try.ntmps60
        go_wp2_with fail
        refine hrd.out.mono ?_
        rintro e w1 ⟨rfl, h1, k1⟩
        go_wp2_with (first | (go_at_call 58; refine (HL.out _ h1).mono ?_; rintro e w3 ⟨rfl, hb3⟩) | (go_at_call 59; refine (qfail_any b r1 _ (h1.keep hb3)).mono ?_; rintro e w2 ⟨rfl, h2, k2⟩))
        go_ret
        rw [hres.out]
        exact ⟨rfl, h2, (k1.trans (Kept.of hb3)).trans k2⟩
      · have hres : Hid (r.count = (n, r1)) := Lib.hid (by rw [hct.out, if_neg (by omega)])
        go_enter Try.func60, Try.ntmps60
        go_wp2_with fail
        refine hrd.out.mono ?_
        rintro e w1 ⟨rfl, h1, k1⟩
        go_wp2_with (go_at_call 58; refine (HL.out _ h1).mono ?_; rintro e w3 ⟨rfl, hb3⟩)
        go_ret
        rw [hres.out]
        exact ⟨rfl, h1.keep hb3, k1.trans (Kept.of hb3)⟩
set_option maxRecDepth 100000 in
set_option maxHeartbeats 2000000 in
theorem qtext_any (b : Nat) (r : WP.RS) (w : World) (h : QAt b r w) : Calls Try.prog 61 #[.pointer (some ⟨b, 0, none⟩)] w fun e w' => e = .returned (.string (WP.S r.text.1)) ∧ QAt b r.text.2 w' ∧ Kept b w w' := by
  have hrd := Lib.hid (qlength_any b r w h)
  have hok := Lib.hid (count_ok r)
  have hct : Hid (r.text = if r.count.2.bad then ([], r.count.2) else ((r.count.2.s.drop r.count.2.p).take r.count.1.toNat, { r.count.2 with p := r.count.2.p + r.count.1.toNat })) := Lib.hid rfl
  generalize r.count = R at *
  obtain ⟨n, r1⟩ := R
  simp only at hct hok
  cases hbad : r1.bad with
  | true =>
    have hres : Hid (r.text = ([], r1)) := Lib.hid (by rw [hct.out, if_pos hbad])
    have HB := Lib.hid fun V (hV : QAt b r1 V) => qbad_any b r1 V hV
    rw [hbad] at HB
    clear hbad
    go_enter Try.func61, Try.ntmps61
    go_wp2_with fail
    refine hrd.out.mono ?_
    rintro e w1 ⟨rfl, h1, k1⟩
    go_wp2_with (go_at_call 62; refine (HB.out _ h1).mono ?_; rintro e w2 ⟨rfl, rfl⟩)
    go_ret
    rw [hres.out]
    exact ⟨rfl, h1, k1⟩
  | false =>
    rw [hbad] at hct
    simp only [Bool.false_eq_true, if_false] at hct
    obtain ⟨n0, n1⟩ := hok.out hbad
    have HB := Lib.hid fun V (hV : QAt b r1 V) => qbad_any b r1 V hV
    rw [hbad] at HB
    have HBD := Lib.hid hbad
    clear hok hbad
    obtain ⟨m, rfl⟩ : ∃ m : Nat, n = m := ⟨n.toNat, by omega⟩
    rw [Int.toNat_natCast] at hct
    go_enter Try.func61, Try.ntmps61
    go_wp2_with fail
    refine hrd.out.mono ?_
    rintro e w1 ⟨rfl, h1, k1⟩
    obtain ⟨c0, c1, c2, cf⟩ := h1.cells
    have cf1 := cf 1
    have hp := h1.2.1
    have hs := h1.2.2
    have hz := WP.S_size r1.s
    obtain ⟨q, hqe⟩ : ∃ q, r1.p + m = q := ⟨_, rfl⟩
    have hq := h1.setPlace q (by omega) (q : Int) rfl
    have HQ := Lib.hid hq
    obtain ⟨d0, d1, _, _⟩ := hq.cells
    have HX := Lib.hid (S_extract r1.s r1.p m)
    rw [hqe] at HX hct
    obtain ⟨T, hT⟩ : ∃ T, WP.S r1.s = T := ⟨_, rfl⟩
    rw [hT] at c0 d0 hz HX
    have a1 : (q : Int) - (m : Int) = (r1.p : Int) := by omega
    have a2 : (q : Int) ≤ (T.size : Int) := by omega
    have a3 : (r1.p : Int) ≤ (q : Int) := by omega
    have a4 : (0 : Int) ≤ (r1.p : Int) := by omega
    have hsl := slice_mid T (WP.S ((r1.s.drop r1.p).take m)) (r1.p : Int) (q : Int) a4 a3 a2 (by rw [Int.toNat_natCast, Int.toNat_natCast]; exact HX.out)
    have a5 : (r1.p : Int) + (m : Int) = (q : Int) := by omega
    have a6 : IntKind.i64.wrap ((q : Int) - (m : Int)) = (r1.p : Int) := by rw [a1, IntKind.wrap_i64]; omega
    have a7 : IntKind.i64.wrap (r1.p : Int) = (r1.p : Int) := by rw [IntKind.wrap_i64]; omega
    have a8 : wrap64 (q : Int) = (q : Int) := by unfold wrap64; omega
    clear hqe
    clear hT hq cf c2
    go_wp2_with (go_at_call 62; refine (HB.out _ h1).mono ?_; rintro e w2 ⟨rfl, rfl⟩)
    go_quiet (fail)
    go_wp2
    go_ret
    rw [hct.out]
    exact ⟨rfl, (by have h9 := HQ.out.keep (below_drewN (Below.refl _ _) nq); rw [HBD.out] at h9; exact h9), (k1.trans (Kept.set _ _)).trans (Kept.of (below_drewN (Below.refl _ _) _))⟩
set_option maxRecDepth 100000 in
set_option maxHeartbeats 2000000 in
theorem qtexts_any (b : Nat) (r : WP.RS) (w : World) (h : QAt b r w) (hs : r.s.length ≤ 8796093022000) :
    Calls Try.prog 31 #[.pointer (some ⟨b, 0, none⟩)] w fun e w' => ∃ v, e = .returned v ∧ w'.ownsRow w.heap.size 9 1 v r.texts.1.length (r.texts.1.map (fun s => Value.string (WP.S s))) ∧ QAt b r.texts.2 w' ∧ Kept b w w' := by
  have hbw := h.lt
  have hrd := Lib.hid (qlength_any b r w h)
  have hm := WP.count_len r
  have hct : Hid (r.texts = if (WP.elems WP.RS.text r.count.1.toNat [] r.count.2).2.bad then ([], (WP.elems WP.RS.text r.count.1.toNat [] r.count.2).2) else WP.elems WP.RS.text r.count.1.toNat [] r.count.2) := Lib.hid rfl
  have hneg := WP.count_nn r
  have hcb := Lib.hid (WP.count_bad r)
  generalize r.count = R at *
  obtain ⟨n, r1⟩ := R
  obtain ⟨m, rfl⟩ : ∃ m : Nat, n = m := ⟨n.toNat, by simp only at hneg; omega⟩
  simp only [Int.toNat_natCast] at hct hm
  simp only at hcb
  replace hcb : Hid (r1.bad = true → m = 0) := Lib.hid fun h => by have := hcb.out h; omega
  clear hneg
  obtain ⟨fin, hfin⟩ : ∃ fin, WP.elems WP.RS.text m [] r1 = fin := ⟨_, rfl⟩
  rw [hfin] at hct
  obtain ⟨i0, hi, hz0, hz1, hz2⟩ := info_parts info_string
  go_enter Try.func31, Try.ntmps31
  go_wp2_with fail
  refine hrd.out.mono ?_
  rintro e w1 ⟨rfl, h1, k1⟩
  have HFIN := Lib.hid hfin
  have K1 := Lib.hid k1
  clear hfin k1 hrd
  go_wp2_with fail
  go_loopw [4, 5] (fun v4 v5 wr => ∃ L r2, L.length ≤ m ∧ v5 = .int .i64 (L.length : Int) ∧ wr.ownsRow w.heap.size 9 1 v4 L.length (L.map (fun s => Value.string (WP.S s))) ∧ QAt b r2 wr ∧ Kept b w wr ∧ Hid (WP.elems WP.RS.text (m - L.length) L r2 = fin) ∧ (r2.bad = true → m = 0)) (fun _ v _ => m - (intOf v).toNat)
  case atStart => exact ⟨[], r1, Nat.zero_le _, rfl, World.ownsRow_nil _ _ _ _, h1, K1.out, Lib.hid (by simpa using HFIN.out), hcb.out⟩
  case round =>
    obtain ⟨L, r2, hLm, rfl, hown, h2, k2, hel, hbm⟩ := hrel
    obtain ⟨a, cap, rfl⟩ := own_shape hown
    by_cases hL : L.length < m
    · have hLi : (L.length : Int) < (m : Int) := by omega
      have hbad : r2.bad = false := by
        cases hb : r2.bad with
        | false => rfl
        | true => have := hbm hb; omega
      have hnx : Hid (WP.elems WP.RS.text (m - (L.length + 1)) (L ++ [(WP.RS.text r2).1]) (WP.RS.text r2).2 = fin) := Lib.hid (by
        rw [← WP.elems_next WP.RS.text _ _ _ hbad, show m - (L.length + 1) + 1 = m - L.length by omega]; exact hel.out)
      have hcall := Lib.hid (qtext_any b r2 wr h2)
      generalize WP.RS.text r2 = X at *
      obtain ⟨x, r3⟩ := X
      try simp only at hnx
      have K2 := Lib.hid k2
      have HOWN := Lib.hid hown
      clear hbm hbad hel h2 k2 hown
      go_wp2_with fail
      refine hcall.out.mono ?_
      rintro e w3 ⟨rfl, h3, k3⟩
      have hown3 := own_kept HOWN.out hbw k3
      have HB := Lib.hid (qbad_any b r3 w3 h3)
      have K3 := Lib.hid (K2.out.trans k3)
      cases hb3 : r3.bad with
      | true =>
        rw [hb3] at HB
        have hf : fin = (L ++ [x], r3) := by rw [← hnx.out, WP.elems_bad _ _ _ _ hb3]
        have hres : r.texts = ([], r3) := by rw [hct.out, hf]; simp [hb3]
        clear hnx hf hb3 k3 HOWN hown3
        go_wp2_with fail
        refine HB.out.mono ?_
        rintro e w4 ⟨rfl, rfl⟩
        go_wp2_with fail
        go_ret
        rw [hres]
        exact ⟨_, rfl, World.ownsRow_nil _ _ _ _, h3, K3.out⟩
      | false =>
        rw [hb3] at HB
        have HB3 := Lib.hid hb3
        clear hb3 k3 HOWN
        have hk3s := K3.out.size
        go_wp2_with fail
        refine HB.out.mono ?_
        rintro e w4 ⟨rfl, rfl⟩
        go_wp2_with (at_builtin; refine wpList_append_own _ rfl _ _ 42 rfl w.heap.size 9 i0 (.string ⟨#[]⟩) 1 16 Try.underlying42 hi hz0 hz1 hz2 rfl (by decide) _ _ _ rfl (hown3.alloc _) ⟨w4.heap.size, 0, none⟩ 1 1 [.string (WP.S x)] rfl rfl (cell_one_new _ _ _) ?c2 ?c3 ?c4 ?c5 ?_)
        case c2 => intro u hu; simp at hu; subst hu; rfl
        case c3 => unfold maxLen; simp; omega
        case c4 => first | omega | (simp; omega)
        case c5 => simp; omega
        intro v' w5 hown4 hgrow _
        have hal : Below w4.heap.size w4 (w4.alloc (.cells #[.string (WP.S x)] 9)) := (Below.refl _ _).alloc (Nat.le_refl _) _
        have hlt3 : ∀ k, Value.ownBlock (.slice a L.length cap) = some k → w.heap.size ≤ k := fun k hk => (hown3.lt k hk).1
        have K4 : Kept b w w5 := (K3.out.trans (Kept.of hal)).grown hgrow hlt3
        have R4 : QAt b r3 w5 := ⟨(hgrow.block b (h3.keep hal).lt (fun e => by have := hlt3 b e.symm; omega)).trans (h3.keep hal).1, h3.2⟩
        clear hgrow hown3 hlt3 hal
        obtain ⟨a', cap', rfl⟩ := own_shape hown4
        have HOWN4 := Lib.hid hown4
        clear hown4
        go_wp2
        go_roundw
        case rel => exact ⟨L ++ [x], r3, by simp; omega, by simp, by simpa using HOWN4.out, R4, K4, Lib.hid (by simpa using hnx.out), fun h => by rw [HB3.out] at h; cases h⟩
        case measure => simp [intOf]; omega
    · have hLi : ¬ (L.length : Int) < (m : Int) := by omega
      have hf : fin = (L, r2) := by rw [← hel.out, show m - L.length = 0 by omega]; rfl
      have HOWN := Lib.hid hown
      have K2 := Lib.hid k2
      have hres : Hid (r.texts = (L, r2)) := Lib.hid (by
        rw [hct.out, hf]
        cases hb : r2.bad with
        | false => simp [hb]
        | true =>
          have := hbm hb
          have : L = [] := List.eq_nil_of_length_eq_zero (by omega)
          subst this
          simp)
      clear hf hbm hel hown k2
      go_wp2_with fail
      go_ret
      rw [hres.out]
      exact ⟨_, rfl, HOWN.out, h2, K2.out⟩
end Go.Proofs.Ytinkhgmdeldniaa.W
