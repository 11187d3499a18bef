/- For every budget and all acts MemoryPlays returns true: a memory does what the reference does, act by act. No conditions. -/
import Derived.Test.YtmnajongifdajaaMem35
namespace Go.Proofs.Ytmnajongifdajaa.memoryPlays
open Go.ChangeShapes Go.WideShapes Go.ChangeAt Go.RowKit Go.Joins Go.Deep ME
set_option linter.unusedVariables false

theorem filled_any (w : World) (bu : Int) (v : Value) (l : List Ac) (hv : AcArg w v l) :
    Calls Try.prog 11 #[.int .i64 bu, v] w fun x w' => ∃ a b, x = .returned (.tuple #[a, b, .bool true]) ∧ Below w.heap.size w w' := by
  by_cases h : 0 ≤ bu ∧ bu ≤ 1073741824
  · refine (filled_yes w bu v l h.1 h.2 hv).mono ?_
    rintro x w' ⟨M, mb, root, r, H, rfl, _, _, k⟩
    exact ⟨_, _, rfl, k⟩
  · refine (filled_no w bu v l (by omega) hv).mono ?_
    rintro x w' ⟨rfl, k⟩
    exact ⟨_, _, rfl, k⟩

set_option maxRecDepth 100000 in
set_option maxHeartbeats 1000000 in
theorem walk (a0 : Int) (v1 : Value) (a1 : List Ac) (wa0 : (Lit.int .i64 a0).wf = true) (w : World) (H1 : AcArg w v1 a1) :
    Calls Try.prog 3 #[.int .i64 a0, v1] w fun e w' => e = .returned (.bool true) ∧ Below w.heap.size w w' := by
  have HM : Hid (∀ V, Below w.heap.size w V → AcArg V v1 a1) := Lib.hid fun V hV => H1.keep hV
  clear H1
  go_enter Try.func3, Try.ntmps3
  go_wp2_with fail
  refine (sanity_any _).mono ?_
  rintro e w1 ⟨rfl, k1⟩
  have HB1 := Lib.hid k1
  clear k1
  go_wp2_with fail
  refine (filled_any _ _ _ _ (HM.out _ HB1.out)).mono ?_
  rintro e w2 ⟨xa, xb, rfl, k2⟩
  have HB2 := Lib.hid (bnext HB1.out k2)
  clear k2
  have e63 := i64_and63 a0
  go_wp2_with fail
  refine (filled_any _ _ _ _ (HM.out _ HB2.out)).mono ?_
  rintro e w3 ⟨ya, yb, rfl, k3⟩
  have HB3 := Lib.hid (bnext HB2.out k3)
  clear k3
  go_wp2
  go_ret
  exact ⟨rfl, HB3.out⟩

set_option maxRecDepth 100000 in
theorem lifted (os : Os) (started : os.Started) (H : Type) (enc : TypeId × Value → H) :
    ReturnsInHanded {} Try.checked os 3 .any (Rows.memoryPlaysSpec.pre6 enc Try.prog Try.f3 Rows.memoryPlaysRow.domain false) (Rows.memoryPlaysSpec.post enc Try.prog Try.f3 false true false false) := by
  refine returnsInHanded_of_change (C := Try.checked) own started (by kernel_rfl) Try.func3
    (ChangeSpec.witness6 (enc := enc) (C := Try.checked) false ⟨#[], #[.int .i64 0, .slice none 0 0], []⟩ 8 (by kernel_rfl) (by kernel_rfl) (by kernel_rfl) (by kernel_rfl)) ?_
  intro W base args ds gs before hval0 hW hcnd _
  have hval : ∀ (j : Nat) t v, Try.f3.params[j]? = some t → args[j]? = some v → Value.okWide Try.prog W .any base t v := hval0
  have hW' := hW
  obtain ⟨p, q, hA0, hV, rfl, hfz, hnd⟩ := hW
  have hA : DataW.TrodAll enc Try.prog W 0 (fun _ => true) true Try.f3.params.toList args.toList ds p := hA0
  rw [Try.params3] at hA hval
  obtain ⟨v0, vs0, d0, ds0, p0, q0, hargs, rfl, rfl, h0, r0⟩ := trodAll_cons hA
  obtain ⟨v1, vs1, d1, ds1, p1, q1, rfl, rfl, rfl, h1, r1⟩ := trodAll_cons r0
  obtain ⟨rfl, rfl, rfl⟩ := trodAll_nil r1
  obtain rfl : args = #[v0, v1] := by cases args; simp_all
  obtain ⟨rfl, rfl⟩ := trodVars_none hV
  have k0 := h0
  have lt0 : ∀ x ∈ p0, x.block < W.heap.size := by obtain ⟨m, hm⟩ := k0; exact DataW.trod_lt m _ _ _ hm
  have k1 := h1
  have lt1 : ∀ x ∈ p1, x.block < W.heap.size := by obtain ⟨m, hm⟩ := k1; exact DataW.trod_lt m _ _ _ hm
  obtain ⟨a0, rfl, rfl, rfl, wa0⟩ := open_int Try.underlying3 (hval 0 3 v0 rfl rfl) h0
  obtain ⟨a1, H1⟩ := open_acts (hval 1 22 v1 rfl rfl) h1
  clear hA0 hval0
  refine (walk a0 v1 a1 wa0 W H1).mono fun e W' ⟨he, bel⟩ => ?_
  subst he
  exact ⟨_, rfl, _, _, _, [], _, [], hW', trodAll_mk1 (shut_bool Try.underlying4 _), (trodAll_cons_mk (Below.trod laidOut (by kernel_rfl) (of_decide_eq_true (by kernel_rfl)) k0 bel lt0) (trodAll_cons_mk (Below.trod laidOut (by kernel_rfl) (of_decide_eq_true (by kernel_rfl)) k1 bel lt1) trodAll_mk0)), rfl, bel.frame _, fun h => by cases h⟩

theorem over : Rows.memoryPlaysRow.holds Try.pinned (OpenSpec.ofChange Rows.memoryPlaysSpec) :=
  OpenClaim.holds_of_wide 3 Try.f3 rfl rfl rfl rfl rfl rfl rfl ⟨rfl, rfl, rfl, rfl, rfl⟩ rfl rfl rfl rfl rfl (by kernel_rfl) Try.func3 (by kernel_rfl)
    (of_decide_eq_true (by kernel_rfl)) (by unfold Func.isWrapper; first | (rw [if_pos (by decide +kernel)]; kernel_rfl) | (rw [if_neg (by decide +kernel)]; exact ⟨rfl, rfl⟩))
    (fun os started H enc _ => lifted os started H enc)

end Go.Proofs.Ytmnajongifdajaa.memoryPlays
namespace Go.Proofs.Ytmnajongifdajaa
theorem memoryPlays_proved : Rows.MemoryPlaysSaid := memoryPlays.over
#print axioms memoryPlays_proved
end Go.Proofs.Ytmnajongifdajaa
