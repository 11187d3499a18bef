/- For every list of numbers and of strings WireCut returns true: without some bytes at its end nothing can be read. No conditions. -/
import Derived.Test.YtkakjpkgbbpjdaaWireShorn
import Derived.Test.YtkakjpkgbbpjdaaWireNil
namespace Go.Proofs.Ytkakjpkgbbpjdaa.wireCut
open Go.ChangeShapes Go.WideShapes Go.ChangeAt Go.RowKit Go.Joins Go.Deep
set_option linter.unusedVariables false

theorem bd16 {a : Int} (h : (Lit.int .u16 a).wf = true) : 0 ≤ a ∧ a ≤ 65535 := by
  have hmin : IntKind.u16.min = 0 := rfl
  have hmax : IntKind.u16.max = 65535 := rfl
  simp only [Lit.wf, Bool.and_eq_true, decide_eq_true_eq] at h; omega
set_option maxRecDepth 100000 in
set_option maxHeartbeats 8000000 in
theorem walk (v0 : Value) (a0 : List Int) (v1 : Value) (a1 : List (List UInt8)) (a2 : Int) (wa2 : (Lit.int .u16 a2).wf = true) (w : World) (H0 : RowAt w v0 (a0.map (Value.int .i64))) (L0 : a0.length ≤ maxLen ∧ ∀ a n c, v0 = .slice a n c → n ≤ c) (E0 : ∀ x, x ∈ a0 → -9223372036854775808 ≤ x ∧ x ≤ 9223372036854775807) (H1 : RowAt w v1 (a1.map sv)) (L1 : a1.length ≤ maxLen ∧ ∀ a n c, v1 = .slice a n c → n ≤ c) (E1 : ∀ x, x ∈ a1 → x.length ≤ maxLen) :
    Calls Try.prog 7 #[v0, v1, .int .u16 a2] w fun e w' => e = .returned (.bool true) ∧ Below w.heap.size w w' := by
  obtain ⟨k0, k1⟩ := bd16 wa2
  clear wa2
  obtain ⟨aa, ca, rfl, ha⟩ := H0.out
  have HA := Lib.hid H0
  have hml : (a0.map (Value.int .i64)).length = a0.length := by simp
  rw [hml] at HA ⊢
  clear ha H0
  have hmx : maxLen = 9223372036854775807 := rfl
  rw [hmx] at L0 L1
  have hac : a0.length ≤ ca := L0.2 _ _ _ (by rw [hml])
  obtain ⟨L0, _⟩ := L0
  obtain ⟨L1, _⟩ := L1
  have acc : Below w.heap.size w w := Below.refl _ _
  obtain ⟨m, hm⟩ : ∃ m : Nat, m = min a0.length 50 := ⟨_, rfl⟩
  have em : min (a0.length : Int) 50 = (m : Int) := by omega
  have hma : m ≤ a0.length := by omega
  have hm50 : m ≤ 50 := by omega
  clear hm
  obtain ⟨L, hL⟩ : ∃ L, a0.take m = L := ⟨_, rfl⟩
  have hLl : L.length = m := by rw [← hL]; simp; omega
  have HL : Hid (RowAt w (.slice aa m ca) (L.map (Value.int .i64))) := Lib.hid (by
    have := row_first HA.out (show m ≤ (a0.map (Value.int .i64)).length by rw [hml]; exact hma)
    rwa [← List.map_take, hL] at this)
  have hE : Hid (∀ x, x ∈ L → WP.inR x) := Lib.hid fun x hx => E0 x (by rw [← hL] at hx; exact List.mem_of_mem_take hx)
  obtain ⟨T, hT⟩ : ∃ T, WP.shorts a1 20 = T := ⟨_, rfl⟩
  have hTl : T.length ≤ 20 := by rw [← hT]; exact WP.shorts_len _ _
  have hTx : Hid (∀ x, x ∈ T → x.length ≤ 200) := Lib.hid (fun x hx => by rw [← hT] at hx; exact WP.shorts_le hx)
  have hT6 : Hid (∀ x, x ∈ T → x.length ≤ 1000000) := Lib.hid fun x hx => by have := hTx.out x hx; omega
  have hn1 : (WP.texts T).length ≤ 4210 := by
    have h1 := WP.flat_len WP.text 210 T (fun x hx => by have := hTx.out x hx; have := WP.text_len x; omega)
    have h2 := WP.int_len (T.length : Int)
    unfold WP.texts; simp only [List.length_append]; omega
  have hn2 : (WP.ints L).length ≤ 510 := by
    have h1 := WP.flat_len WP.int 10 L (fun x _ => WP.int_len x)
    have h2 := WP.int_len (L.length : Int)
    unfold WP.ints; simp only [List.length_append]; omega
  have hp1 : 0 < (WP.texts T).length := by unfold WP.texts; have := WP.int_pos (T.length : Int); simp only [List.length_append]; omega
  have hp2 : 0 < (WP.ints L).length := by unfold WP.ints; have := WP.int_pos (L.length : Int); simp only [List.length_append]; omega
  have HC1 := Lib.hid (fun c (hc : c < (WP.texts T).length) => WP.texts_cut (L := T) (c := c) (fun x hx => by have := hTx.out x hx; omega) hc (by omega))
  have HC2 := Lib.hid (fun c (hc : c < (WP.ints L).length) => WP.ints_cut (L := L) (c := c) hE.out hc (by omega))
  obtain ⟨uu, huu⟩ : ∃ uu, WP.texts T = uu := ⟨_, rfl⟩
  obtain ⟨ss, hss⟩ : ∃ ss, WP.ints L = ss := ⟨_, rfl⟩
  rw [huu] at hn1 hp1 HC1
  rw [hss] at hn2 hp2 HC2
  obtain ⟨c1, hc1⟩ : ∃ c : Nat, c = a2.toNat % ss.length := ⟨_, rfl⟩
  obtain ⟨c2, hc2⟩ : ∃ c : Nat, c = a2.toNat % uu.length := ⟨_, rfl⟩
  have g1 : c1 < ss.length := by rw [hc1]; exact Nat.mod_lt _ hp2
  have g2 : c2 < uu.length := by rw [hc2]; exact Nat.mod_lt _ hp1
  have mx : max a2 0 = a2 := by omega
  have r1 : max a2 0 % (ss.length : Int) = (c1 : Int) := by rw [hc1, mx, Int.natCast_emod, Int.toNat_of_nonneg k0]
  have r2 : max a2 0 % (uu.length : Int) = (c2 : Int) := by rw [hc2, mx, Int.natCast_emod, Int.toNat_of_nonneg k0]
  have r3 := r1
  have r4 := r2
  rw [mx] at r3 r4
  clear mx hc1 hc2
  have e0 : ((ss.length : Int) == 0) = false := beq_eq_false_iff_ne.2 (by omega)
  have e1 : ((uu.length : Int) == 0) = false := beq_eq_false_iff_ne.2 (by omega)
  have hz1 := WP.S_size ss
  have hz2 := WP.S_size uu
  have x1 : (WP.S ss).extract 0 c1 = WP.S (ss.take c1) := by have := S_extract ss 0 c1; rwa [Nat.zero_add, List.drop_zero] at this
  have x2 : (WP.S uu).extract 0 c2 = WP.S (uu.take c2) := by have := S_extract uu 0 c2; rwa [Nat.zero_add, List.drop_zero] at this
  go_enter Try.func7, Try.ntmps7
  go_wp2_with (first | (go_at_call 10; refine (sanity_any _).mono ?_; rintro e w1 ⟨rfl, hb1⟩; replace acc := bnext acc hb1; clear hb1) | (go_at_call 20; refine (wints_any _ L _ (HL.out.keep acc) hE.out (by omega)).mono ?_; rw [hss]; rintro e w3 ⟨rfl, hb3⟩; replace acc := bnext acc hb3; clear hb3))
  refine (short_any v1 a1 _ (H1.keep acc) E1 (by rw [hmx]; exact L1)).mono ?_
  rw [hT]
  rintro e w4 ⟨u, rfl, O4, hb4⟩
  replace acc := bnext acc hb4
  have HT : Hid (RowAt w4 u (T.map sv)) := Lib.hid (row_own O4 (by simp))
  clear hb4 H1 HA HL hT O4
  go_wp2_with (go_at_call 22; refine (wtexts_any _ T _ HT.out hT6.out (by omega)).mono ?_; rw [huu]; rintro e w3 ⟨rfl, hb3⟩; replace acc := bnext acc hb3; clear hb3)
  have q2 := Lib.hid r2
  have q4 := Lib.hid r4
  have X2 := Lib.hid x2
  clear r1 r2 r3 r4 x1 x2 hz1 hz2 e0 e1
  refine (new_any (ss.take c1) _ (by simp; omega)).mono ?_
  rintro e w5 ⟨rfl, RA, hb5⟩
  obtain ⟨B, hB⟩ : ∃ B, w3.heap.size = B := ⟨_, rfl⟩
  have hwB : w.heap.size ≤ B := by rw [← hB]; exact acc.size
  replace acc := bnext acc hb5
  clear hb5
  rw [hB] at RA ⊢
  clear hB
  have hlt5 := RA.lt
  have s2 : max a2 0 % (uu.length : Int) = (c2 : Int) := q2.out
  have s4 := q4.out
  have y2 := X2.out
  have hz2 := WP.S_size uu
  go_wp2_with fail
  clear s2 s4 y2 hz2
  refine (new_any (uu.take c2) _ (by simp; omega)).mono ?_
  rintro e w6 ⟨rfl, RB, hb6⟩
  replace RA := RA.keep hb6
  obtain ⟨C, hC⟩ : ∃ C, w5.heap.size = C := ⟨_, rfl⟩
  have hBC : B < C := by rw [← hC]; exact hlt5
  replace acc := bnext acc hb6
  clear hb6
  rw [hC] at RB ⊢
  clear hC
  have hwC : w.heap.size ≤ C := by omega
  obtain ⟨ra, h1a, h2a⟩ := HC2.out c1 g1
  obtain ⟨rb, h1b, h2b⟩ := HC1.out c2 g2
  have HA1 := Lib.hid h1a
  have HB1 := Lib.hid h1b
  have HA2 := Lib.hid h2a
  have HB2 := Lib.hid h2b
  clear h1a h1b h2a h2b
  have qe : WP.S [] = ⟨#[]⟩ := rfl
  have la : (ss.take c1).length ≤ 8796093022000 := by simp; omega
  have lb : (uu.take c2).length ≤ 8796093022000 := by simp; omega
  go_wp2_with fail
  refine (ints_c _ _ _ _ _ RA la HA1.out).mono ?_
  rintro e w7 ⟨v7, rfl, O7, R7, K7⟩
  obtain ⟨a7, b7, rfl⟩ := own_shape O7
  clear O7
  replace RB := RB.other K7 (by omega)
  replace acc := acc.trans (K7.below hwB acc.size)
  replace RA := R7
  clear R7 K7
  go_wp2_with fail
  refine (texts_c _ _ _ _ _ RB lb HB1.out).mono ?_
  rintro e w7 ⟨v7, rfl, O7, R7, K7⟩
  obtain ⟨a7, b7, rfl⟩ := own_shape O7
  clear O7
  replace RA := RA.other K7 (by omega)
  replace acc := acc.trans (K7.below hwC acc.size)
  replace RB := R7
  clear R7 K7
  go_wp2_with fail
  refine (bad_c _ _ true _ RA HA2.out).mono ?_
  rintro e w7 ⟨rfl, rfl⟩
  go_wp2_with fail
  refine (bad_c _ _ true _ RB HB2.out).mono ?_
  rintro e w7 ⟨rfl, rfl⟩
  go_wp2_with fail
  refine (read_c _ _ _ _ _ RA (WP.int_of_bad HA2.out)).mono ?_
  rintro e w7 ⟨rfl, R7, K7⟩
  replace RB := RB.other K7 (by omega)
  replace acc := acc.trans (K7.below hwB acc.size)
  replace RA := R7
  clear R7 K7
  go_wp2_with fail
  refine (rtext_c _ _ _ _ _ RB (WP.text_of_bad HB2.out)).mono ?_
  rintro e w7 ⟨rfl, R7, K7⟩
  replace RA := RA.other K7 (by omega)
  replace acc := acc.trans (K7.below hwC acc.size)
  replace RB := R7
  clear R7 K7
  go_wp2_with fail
  refine (left_c _ _ 0 _ RA (WP.left_of_bad HA2.out)).mono ?_
  rintro e w7 ⟨rfl, hb7⟩
  replace RA := RA.keep hb7
  replace RB := RB.keep hb7
  replace acc := bnext acc hb7
  clear hb7
  go_wp2_with fail
  refine (left_c _ _ 0 _ RB (WP.left_of_bad HB2.out)).mono ?_
  rintro e w7 ⟨rfl, hb7⟩
  replace RA := RA.keep hb7
  replace RB := RB.keep hb7
  replace acc := bnext acc hb7
  clear hb7
  go_wp2_with fail
  refine (bad_c _ _ true _ RA HA2.out).mono ?_
  rintro e w7 ⟨rfl, rfl⟩
  go_wp2_with fail
  go_ret
  exact ⟨rfl, acc⟩

set_option maxRecDepth 100000 in
theorem lifted (os : Os) (started : os.Started) (H : Type) (enc : TypeId × Value → H) :
    ReturnsInHanded {} Try.checked os 7 .any (Rows.wireCutSpec.pre6 enc Try.prog Try.f7 Rows.wireCutRow.domain false) (Rows.wireCutSpec.post enc Try.prog Try.f7 false true false false) := by
  refine returnsInHanded_of_change (C := Try.checked) own started (by kernel_rfl) Try.func7
    (ChangeSpec.witness6 (enc := enc) (C := Try.checked) false ⟨#[], #[.slice none 0 0, .slice none 0 0, .int .u16 0], []⟩ 8 (by kernel_rfl) (by kernel_rfl) (by kernel_rfl) (by kernel_rfl)) ?_
  intro W base args ds gs before hval0 hW hcnd _
  have hval : ∀ (j : Nat) t v, Try.f7.params[j]? = some t → args[j]? = some v → Value.okWide Try.prog W .any base t v := hval0
  have hW' := hW
  obtain ⟨p, q, hA0, hV, rfl, hfz, hnd⟩ := hW
  have hA : DataW.TrodAll enc Try.prog W 0 (fun _ => true) true Try.f7.params.toList args.toList ds p := hA0
  rw [Try.params7] at hA hval
  obtain ⟨v0, vs0, d0, ds0, p0, q0, hargs, rfl, rfl, h0, r0⟩ := trodAll_cons hA
  obtain ⟨v1, vs1, d1, ds1, p1, q1, rfl, rfl, rfl, h1, r1⟩ := trodAll_cons r0
  obtain ⟨v2, vs2, d2, ds2, p2, q2, rfl, rfl, rfl, h2, r2⟩ := trodAll_cons r1
  obtain ⟨rfl, rfl, rfl⟩ := trodAll_nil r2
  obtain rfl : args = #[v0, v1, v2] := by cases args; simp_all
  obtain ⟨rfl, rfl⟩ := trodVars_none hV
  have k0 := h0
  have lt0 : ∀ x ∈ p0, x.block < W.heap.size := by obtain ⟨m, hm⟩ := k0; exact DataW.trod_lt m _ _ _ hm
  have k1 := h1
  have lt1 : ∀ x ∈ p1, x.block < W.heap.size := by obtain ⟨m, hm⟩ := k1; exact DataW.trod_lt m _ _ _ hm
  have k2 := h2
  have lt2 : ∀ x ∈ p2, x.block < W.heap.size := by obtain ⟨m, hm⟩ := k2; exact DataW.trod_lt m _ _ _ hm
  obtain ⟨a0, H0, L0, E0⟩ := open_l (hval 0 28 v0 rfl rfl) h0
  obtain ⟨a1, H1, L1, E1⟩ := open_t (hval 1 29 v1 rfl rfl) h1
  obtain ⟨a2, rfl, rfl, rfl, wa2⟩ := open_int Try.underlying44 (hval 2 44 v2 rfl rfl) h2
  clear hA0 hval0
  refine (walk v0 a0 v1 a1 a2 wa2 W H0 L0 E0 H1 L1 E1).mono fun e W' ⟨he, bel⟩ => ?_
  subst he
  exact ⟨_, rfl, _, _, _, [], _, [], hW', trodAll_mk1 (shut_bool Try.underlying4 _), (trodAll_cons_mk (Below.trod laidOut (by kernel_rfl) (of_decide_eq_true (by kernel_rfl)) k0 bel lt0) (trodAll_cons_mk (Below.trod laidOut (by kernel_rfl) (of_decide_eq_true (by kernel_rfl)) k1 bel lt1) (trodAll_cons_mk (Below.trod laidOut (by kernel_rfl) (of_decide_eq_true (by kernel_rfl)) k2 bel lt2) trodAll_mk0))), rfl, bel.frame _, fun h => by cases h⟩

theorem over : Rows.wireCutRow.holds Try.pinned (OpenSpec.ofChange Rows.wireCutSpec) :=
  OpenClaim.holds_of_wide 7 Try.f7 rfl rfl rfl rfl rfl rfl rfl ⟨rfl, rfl, rfl, rfl, rfl⟩ rfl rfl rfl rfl rfl (by kernel_rfl) Try.func7 (by kernel_rfl)
    (of_decide_eq_true (by kernel_rfl)) (by unfold Func.isWrapper; first | (rw [if_pos (by decide +kernel)]; kernel_rfl) | (rw [if_neg (by decide +kernel)]; exact ⟨rfl, rfl⟩))
    (fun os started H enc _ => lifted os started H enc)

end Go.Proofs.Ytkakjpkgbbpjdaa.wireCut
namespace Go.Proofs.Ytkakjpkgbbpjdaa
theorem wireCut_proved : Rows.WireCutSaid := wireCut.over
#print axioms wireCut_proved
end Go.Proofs.Ytkakjpkgbbpjdaa
