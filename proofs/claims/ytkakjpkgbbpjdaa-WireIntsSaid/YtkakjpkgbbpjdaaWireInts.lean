/- For every two numbers WireInts returns true: the bytes are those of the reference, and are read again. No conditions. -/
import Derived.Test.YtkakjpkgbbpjdaaWireOpen
namespace Go.Proofs.Ytkakjpkgbbpjdaa.wireInts
open Go.ChangeShapes Go.WideShapes Go.ChangeAt Go.RowKit Go.Joins Go.Deep
set_option linter.unusedVariables false

set_option maxRecDepth 100000 in
set_option maxHeartbeats 1000000 in
theorem walk (a0 : Int) (a1 : Int) (wa0 : (Lit.int .i64 a0).wf = true) (wa1 : (Lit.int .i64 a1).wf = true) (w : World) :
    Calls Try.prog 3 #[.int .i64 a0, .int .i64 a1] w fun e w' => e = .returned (.bool true) ∧ Below w.heap.size w w' := by
  obtain ⟨n0, n1⟩ := bd64 wa0
  obtain ⟨m0, m1⟩ := bd64 wa1
  clear wa0 wa1
  have acc : Below w.heap.size w w := Below.refl _ _
  have z0 := WP.int_size a0
  have z1 := WP.int_size a1
  have hsa := WP.S_append (WP.int a0) (WP.int a1)
  have hln : (WP.int a0 ++ WP.int a1).length ≤ 140737488355328 := by have := WP.int_len a0; have := WP.int_len a1; simp only [List.length_append]; omega
  have hi1 := Lib.hid (WP.int_read (r := ⟨WP.int a0 ++ WP.int a1, 0, false⟩) (n := a0) (t := WP.int a1) rfl rfl n0 n1)
  have hi2 := Lib.hid (WP.int_read (r := ⟨WP.int a0 ++ WP.int a1, 0 + (WP.int a0).length, false⟩) (n := a1) (t := []) rfl (by simp) m0 m1)
  have hlf : Hid ((⟨WP.int a0 ++ WP.int a1, 0 + (WP.int a0).length + (WP.int a1).length, false⟩ : WP.RS).left = 0) := Lib.hid (by simp [WP.RS.left])
  go_enter Try.func3, Try.ntmps3
  go_wp2_with (first | (go_at_call 10; refine (sanity_any _).mono ?_; rintro e w1 ⟨rfl, hb1⟩; replace acc := bnext acc hb1; clear hb1) | (go_at_call 11; refine (int_any _ _ (by omega) (by omega)).mono ?_; rintro e w1 ⟨rfl, hb1⟩; replace acc := bnext acc hb1; clear hb1))
  clear z0 z1
  refine (new_any (WP.int a0 ++ WP.int a1) _ hln).mono ?_
  rintro e w2 ⟨rfl, R2, hb2⟩
  obtain ⟨B, hB⟩ : ∃ B, w1.heap.size = B := ⟨_, rfl⟩
  have hwB : w.heap.size ≤ B := by rw [← hB]; exact acc.size
  replace acc := bnext acc hb2
  clear hb2
  rw [hB] at R2 ⊢
  clear hB
  go_wp2_with fail
  refine (read_c _ _ _ _ _ R2 hi1.out).mono ?_
  rintro e w3 ⟨rfl, R3, K3⟩
  replace acc := acc.trans (K3.below hwB acc.size)
  clear R2 K3
  go_wp2_with fail
  refine (read_c _ _ _ _ _ R3 hi2.out).mono ?_
  rintro e w4 ⟨rfl, R4, K4⟩
  replace acc := acc.trans (K4.below hwB acc.size)
  clear R3 K4
  have z0 := WP.int_size a0
  have z1 := WP.int_size a1
  go_wp2_with (first
    | (go_at_call 14; refine (rint_any _ _ (by omega) (by omega)).mono ?_; rintro e w5 ⟨rfl, hb5⟩; replace acc := bnext acc hb5; replace R4 := R4.keep hb5; clear hb5)
    | (go_at_call 15; refine (left_c _ _ 0 _ R4 hlf.out).mono ?_; rintro e w6 ⟨rfl, hb6⟩; replace acc := bnext acc hb6; replace R4 := R4.keep hb6; clear hb6)
    | (go_at_call 16; refine (bad_c _ _ false _ R4 rfl).mono ?_; rintro e w7 ⟨rfl, rfl⟩))
  go_ret
  exact ⟨rfl, acc⟩

set_option maxRecDepth 100000 in
theorem lifted (os : Os) (started : os.Started) (H : Type) (enc : TypeId × Value → H) :
    ReturnsInHanded {} Try.checked os 3 .any (Rows.wireIntsSpec.pre6 enc Try.prog Try.f3 Rows.wireIntsRow.domain false) (Rows.wireIntsSpec.post enc Try.prog Try.f3 false true false false) := by
  refine returnsInHanded_of_change (C := Try.checked) own started (by kernel_rfl) Try.func3
    (ChangeSpec.witness6 (enc := enc) (C := Try.checked) false ⟨#[], #[.int .i64 0, .int .i64 0], []⟩ 8 (by kernel_rfl) (by kernel_rfl) (by kernel_rfl) (by kernel_rfl)) ?_
  intro W base args ds gs before hval0 hW hcnd _
  have hval : ∀ (j : Nat) t v, Try.f3.params[j]? = some t → args[j]? = some v → Value.okWide Try.prog W .any base t v := hval0
  have hW' := hW
  obtain ⟨p, q, hA0, hV, rfl, hfz, hnd⟩ := hW
  have hA : DataW.TrodAll enc Try.prog W 0 (fun _ => true) true Try.f3.params.toList args.toList ds p := hA0
  rw [Try.params3] at hA hval
  obtain ⟨v0, vs0, d0, ds0, p0, q0, hargs, rfl, rfl, h0, r0⟩ := trodAll_cons hA
  obtain ⟨v1, vs1, d1, ds1, p1, q1, rfl, rfl, rfl, h1, r1⟩ := trodAll_cons r0
  obtain ⟨rfl, rfl, rfl⟩ := trodAll_nil r1
  obtain rfl : args = #[v0, v1] := by cases args; simp_all
  obtain ⟨rfl, rfl⟩ := trodVars_none hV
  have k0 := h0
  have lt0 : ∀ x ∈ p0, x.block < W.heap.size := by obtain ⟨m, hm⟩ := k0; exact DataW.trod_lt m _ _ _ hm
  have k1 := h1
  have lt1 : ∀ x ∈ p1, x.block < W.heap.size := by obtain ⟨m, hm⟩ := k1; exact DataW.trod_lt m _ _ _ hm
  obtain ⟨a0, rfl, rfl, rfl, wa0⟩ := open_int Try.underlying3 (hval 0 3 v0 rfl rfl) h0
  obtain ⟨a1, rfl, rfl, rfl, wa1⟩ := open_int Try.underlying3 (hval 1 3 v1 rfl rfl) h1
  clear hA0 hval0
  refine (walk a0 a1 wa0 wa1 W).mono fun e W' ⟨he, bel⟩ => ?_
  subst he
  exact ⟨_, rfl, _, _, _, [], _, [], hW', trodAll_mk1 (shut_bool Try.underlying4 _), (trodAll_cons_mk (Below.trod laidOut (by kernel_rfl) (of_decide_eq_true (by kernel_rfl)) k0 bel lt0) (trodAll_cons_mk (Below.trod laidOut (by kernel_rfl) (of_decide_eq_true (by kernel_rfl)) k1 bel lt1) trodAll_mk0)), rfl, bel.frame _, fun h => by cases h⟩

theorem over : Rows.wireIntsRow.holds Try.pinned (OpenSpec.ofChange Rows.wireIntsSpec) :=
  OpenClaim.holds_of_wide 3 Try.f3 rfl rfl rfl rfl rfl rfl rfl ⟨rfl, rfl, rfl, rfl, rfl⟩ rfl rfl rfl rfl rfl (by kernel_rfl) Try.func3 (by kernel_rfl)
    (of_decide_eq_true (by kernel_rfl)) (by unfold Func.isWrapper; first | (rw [if_pos (by decide +kernel)]; kernel_rfl) | (rw [if_neg (by decide +kernel)]; exact ⟨rfl, rfl⟩))
    (fun os started H enc _ => lifted os started H enc)

end Go.Proofs.Ytkakjpkgbbpjdaa.wireInts
namespace Go.Proofs.Ytkakjpkgbbpjdaa
theorem wireInts_proved : Rows.WireIntsSaid := wireInts.over
#print axioms wireInts_proved
end Go.Proofs.Ytkakjpkgbbpjdaa
