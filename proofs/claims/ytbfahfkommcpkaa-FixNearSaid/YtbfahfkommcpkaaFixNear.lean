/- For every dividend, divisor and difference the roundings lie as the chapter says: FixNear returns true. -/
import Derived.Test.YtbfahfkommcpkaaRows
import Derived.WalkKit
import Derived.ProofKit
import Derived.OpenShut
import Derived.Test.YtbfahfkommcpkaaFixWf
import Derived.Test.YtbfahfkommcpkaaFixNearPlain
namespace Go.Proofs.Ytbfahfkommcpkaa.fixNear
open Go.ChangeShapes Go.WideShapes Go.ChangeAt Go.RowKit
set_option linter.unusedVariables false

theorem own : ownKnob Try.prog.godebug = none := by kernel_rfl

set_option maxRecDepth 100000 in
set_option maxHeartbeats 1000000 in
theorem walk (a0 : Int) (a1 : Int) (a2 : Int) (w0 : (Lit.int .i64 a0).wf = true) (w1 : (Lit.int .i64 a1).wf = true) (w2 : (Lit.int .u8 a2).wf = true) (w : World) :
    Calls Try.prog 4 #[.int .i64 a0, .int .i64 a1, .int .u8 a2] w fun e w' => e = .returned (.bool true) ∧ Below w.heap.size w w' := by
  obtain ⟨b0, b1⟩ := bd_i64 w0
  obtain ⟨c0, c1⟩ := bd_i64 w1
  obtain ⟨u0, u1⟩ := bd_u8 w2
  obtain ⟨n1, n2, n3, n4⟩ := FP.tmod_bd a0 2000000 (by omega)
  obtain ⟨m1, m2, m3, m4⟩ := FP.tmod_bd a1 5000 (by omega)
  obtain ⟨_, p1⟩ := FP.mul_bd (a1.tmod 5000) (a1.tmod 5000) 5000 5000 (by omega) (by omega)
  have p0 : 0 ≤ a1.tmod 5000 * a1.tmod 5000 := by
    rcases Int.le_total 0 (a1.tmod 5000) with h | h
    · exact Int.mul_nonneg h h
    · exact Int.mul_nonneg_of_nonpos_of_nonpos h h
  clear n3 n4 m3 m4 w0 w1 w2
  go_enter Try.func4, Try.ntmps4
  go_wp2_with (go_at_call 11; refine (sanity_any _).mono ?_; rintro e ws ⟨rfl, hbs⟩)
  have d0 : 1 ≤ a1.tmod 5000 * a1.tmod 5000 / 5000 + 1 := by omega
  have d1 : a1.tmod 5000 * a1.tmod 5000 / 5000 + 1 ≤ 5001 := by omega
  have k0 : -3000000 ≤ a0.tmod 2000000 - 1000000 := by omega
  have k1 : a0.tmod 2000000 - 1000000 ≤ 1000000 := by omega
  generalize a1.tmod 5000 * a1.tmod 5000 / 5000 + 1 = D at *
  generalize a0.tmod 2000000 - 1000000 = N at *
  clear p0 p1 n1 n2 m1 m2 b0 b1 c0 c1
  obtain ⟨f1, f2, f3, f4, f5, f6, f7, f8, f9, f10⟩ := FP.near N D d0
  have q1 := FP.rnd_mono N (N + a2 % 100) D d0 (by omega)
  have f11 : (FP.upw N D == -(-N / D)) = true := by rw [← f9]; simp
  have q2 : -3000000 ≤ N / D := Int.le_ediv_of_mul_le (by omega) (by omega)
  have q3 : N / D ≤ 1000000 := Int.ediv_le_of_le_mul (by omega) (by omega)
  have q4 : -1000001 ≤ -N / D ∧ -N / D ≤ 3000000 := by omega
  obtain ⟨q4, q5⟩ := q4
  clear f9
  rcases f10 with h | ⟨h, h'⟩
  · have f12 : (FP.upw N D == N / D) = true := by simp [h]
    clear h
    go_wp2_with (first
      | (go_at_call 13; refine (round_yes _ _ _ (by omega) (by omega) (by omega) (by omega)).mono ?_; rintro e w9 ⟨rfl, hb9⟩)
      | (go_at_call 14; refine (down_yes _ _ _ (by omega) (by omega) (by omega) (by omega)).mono ?_; rintro e w9 ⟨rfl, hb9⟩)
      | (go_at_call 15; refine (up_yes _ _ _ (by omega) (by omega) (by omega) (by omega)).mono ?_; rintro e w9 ⟨rfl, hb9⟩))
    go_ret
    exact ⟨rfl, by repeat' (first | exact Below.refl _ _ | (with_reducible assumption) | (refine bnext ?_ (by with_reducible assumption)) | (refine balloc ?_ _) | (refine below_drewN ?_ _) | (refine Below.drew ?_) | (refine bset ?_ (by simp; try omega) _))⟩
  · have f12 : (FP.upw N D == N / D) = false := by simp [h]
    have f13 : (FP.upw N D == N / D + 1) = true := by simp [h']
    clear h h'
    go_wp2_with (first
      | (go_at_call 13; refine (round_yes _ _ _ (by omega) (by omega) (by omega) (by omega)).mono ?_; rintro e w9 ⟨rfl, hb9⟩)
      | (go_at_call 14; refine (down_yes _ _ _ (by omega) (by omega) (by omega) (by omega)).mono ?_; rintro e w9 ⟨rfl, hb9⟩)
      | (go_at_call 15; refine (up_yes _ _ _ (by omega) (by omega) (by omega) (by omega)).mono ?_; rintro e w9 ⟨rfl, hb9⟩))
    go_ret
    exact ⟨rfl, by repeat' (first | exact Below.refl _ _ | (with_reducible assumption) | (refine bnext ?_ (by with_reducible assumption)) | (refine balloc ?_ _) | (refine below_drewN ?_ _) | (refine Below.drew ?_) | (refine bset ?_ (by simp; try omega) _))⟩


set_option maxRecDepth 100000 in
theorem lifted (os : Os) (started : os.Started) (H : Type) (enc : TypeId × Value → H) :
    ReturnsInHanded {} Try.checked os 4 .any (Rows.fixNearSpec.pre6 enc Try.prog Try.f4 Rows.fixNearRow.domain false) (Rows.fixNearSpec.post enc Try.prog Try.f4 false true false false) := by
  refine returnsInHanded_of_change (C := Try.checked) own started (by kernel_rfl) Try.func4
    (ChangeSpec.witness6 (enc := enc) (C := Try.checked) false ⟨#[], #[.int .i64 0, .int .i64 0, .int .u8 0], []⟩ 8 (by kernel_rfl) (by kernel_rfl) (by kernel_rfl) (by kernel_rfl)) ?_
  intro W base args ds gs before hval0 hW hcnd _
  have hval : ∀ (j : Nat) t v, Try.f4.params[j]? = some t → args[j]? = some v → Value.okWide Try.prog W .any base t v := hval0
  have hW' := hW
  obtain ⟨p, q, hA0, hV, rfl, hfz, hnd⟩ := hW
  have hA : DataW.TrodAll enc Try.prog W 0 (fun _ => true) true Try.f4.params.toList args.toList ds p := hA0
  rw [Try.params4] at hA hval
  obtain ⟨v0, vs0, d0, ds0, p0, q0, hargs, rfl, rfl, h0, r0⟩ := trodAll_cons hA
  obtain ⟨v1, vs1, d1, ds1, p1, q1, rfl, rfl, rfl, h1, r1⟩ := trodAll_cons r0
  obtain ⟨v2, vs2, d2, ds2, p2, q2, rfl, rfl, rfl, h2, r2⟩ := trodAll_cons r1
  obtain ⟨rfl, rfl, rfl⟩ := trodAll_nil r2
  obtain rfl : args = #[v0, v1, v2] := by cases args; simp_all
  obtain ⟨rfl, rfl⟩ := trodVars_none hV
  obtain ⟨a0, rfl, rfl, rfl, w0⟩ := open_int Try.underlying3 (hval 0 3 v0 rfl rfl) h0
  obtain ⟨a1, rfl, rfl, rfl, w1⟩ := open_int Try.underlying3 (hval 1 3 v1 rfl rfl) h1
  obtain ⟨a2, rfl, rfl, rfl, w2⟩ := open_int Try.underlying5 (hval 2 5 v2 rfl rfl) h2
  clear hA0 hval0
  refine (walk a0 a1 a2 w0 w1 w2 W).mono fun e W' ⟨he, bel⟩ => ?_
  subst he
  exact ⟨_, rfl, _, _, _, [], _, [], hW', trodAll_mk1 (shut_bool Try.underlying4 _), (trodAll_cons_mk (shut_int Try.underlying3 w0) (trodAll_cons_mk (shut_int Try.underlying3 w1) (trodAll_cons_mk (shut_int Try.underlying5 w2) trodAll_mk0))), rfl, bel.frame _, fun h => by cases h⟩

theorem over : Rows.fixNearRow.holds Try.pinned (OpenSpec.ofChange Rows.fixNearSpec) :=
  OpenClaim.holds_of_wide 4 Try.f4 rfl rfl rfl rfl rfl rfl rfl ⟨rfl, rfl, rfl, rfl, rfl⟩ rfl rfl rfl rfl rfl (by kernel_rfl) Try.func4 (by kernel_rfl)
    (of_decide_eq_true (by kernel_rfl)) (by unfold Func.isWrapper; first | (rw [if_pos (by decide +kernel)]; kernel_rfl) | (rw [if_neg (by decide +kernel)]; exact ⟨rfl, rfl⟩))
    (fun os started H enc _ => lifted os started H enc)

end Go.Proofs.Ytbfahfkommcpkaa.fixNear
namespace Go.Proofs.Ytbfahfkommcpkaa
theorem fixNear_proved : Rows.FixNearSaid := fixNear.over
#print axioms fixNear_proved
end Go.Proofs.Ytbfahfkommcpkaa
