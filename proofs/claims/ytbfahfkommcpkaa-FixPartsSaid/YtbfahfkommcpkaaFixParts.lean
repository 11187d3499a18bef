/- For every two numbers and every scalar the parts lie as the chapter says: FixParts returns true. -/
import Derived.Test.YtbfahfkommcpkaaRows
import Derived.Test.YtbfahfkommcpkaaFixOpen
import Derived.Deep.RegionWith
import Derived.Deep.RegionHeld3
import Derived.Test.YtbfahfkommcpkaaFixPartsPlain
namespace Go.Proofs.Ytbfahfkommcpkaa.fixParts
open Go.ChangeShapes Go.WideShapes Go.ChangeAt Go.RowKit Go.Joins Go.Deep
set_option linter.unusedVariables false

set_option maxRecDepth 100000 in
set_option maxHeartbeats 1000000 in
theorem walk (a0 : Int) (a1 : Int) (a2 : Int) (b2 : Int) (wa0 : (Lit.int .i64 a0).wf = true) (wa1 : (Lit.int .i64 a1).wf = true) (wa2 : (Lit.int .i64 a2).wf = true) (wb2 : (Lit.int .i64 b2).wf = true) (w : World) :
    Calls Try.prog 8 #[.int .i64 a0, .int .i64 a1, .agg #[.int .i64 a2, .int .i64 b2]] w fun e w' => e = .returned (.bool true) ∧ Below w.heap.size w w' := by
  obtain ⟨hr, h64⟩ := FP.made_rgt a2 b2
  obtain ⟨t1, t2, t3, t4⟩ := FP.tmod_bd a0 1000000 (by omega)
  obtain ⟨u1, u2, u3, u4⟩ := FP.tmod_bd a1 1000000 (by omega)
  have HM : Hid (∀ w, Calls Try.prog 23 #[.int .i64 a2, .int .i64 b2] w fun e w' => e = .returned (.agg #[.int .i64 (FP.madeN a2 b2), .int .i64 (FP.madeD a2 b2)]) ∧ Below w.heap.size w w') := fun w => made_any a2 b2 w
  generalize FP.madeN a2 b2 = N at *
  generalize FP.madeD a2 b2 = Dn at *
  clear t3 t4 u3 u4 wa0 wa1 wa2 wb2
  obtain ⟨A, B, hA0, hA1, hB0, hB1, hAB, hcase⟩ : ∃ A B : Int, -1000000 < A ∧ A < 1000000 ∧ -1000000 < B ∧ B < 1000000 ∧ A ≤ B ∧ ((a0.tmod 1000000 ≤ a1.tmod 1000000 ∧ A = a0.tmod 1000000 ∧ B = a1.tmod 1000000) ∨ (¬ a0.tmod 1000000 ≤ a1.tmod 1000000 ∧ A = a1.tmod 1000000 ∧ B = a0.tmod 1000000)) := by
    by_cases h : a0.tmod 1000000 ≤ a1.tmod 1000000
    · exact ⟨_, _, t1, t2, u1, u2, h, .inl ⟨h, rfl, rfl⟩⟩
    · exact ⟨_, _, u1, u2, t1, t2, by omega, .inr ⟨h, rfl, rfl⟩⟩
  obtain ⟨f1, f2, f3, f4, f5⟩ := FP.parts_all A B N Dn hAB hr
  have E1 : FP.partS A N Dn = (FP.rnd (64 * A * N) Dn, true) := if_pos ⟨⟨by omega, by omega⟩, hr⟩
  have E2 : FP.partS B N Dn = (FP.rnd (64 * B * N) Dn, true) := if_pos ⟨⟨by omega, by omega⟩, hr⟩
  have E3 : FP.partS A (Dn - N) Dn = (FP.rnd (64 * A * (Dn - N)) Dn, true) := if_pos ⟨⟨by omega, by omega⟩, FP.rgt_other _ _ hr⟩
  have E4 : FP.partS A 1 1 = (64 * A, true) := by
    have z := FP.rnd_exact (64 * A) 1 (by omega)
    have : FP.partS A 1 1 = (FP.rnd (64 * A * 1) 1, true) := if_pos ⟨⟨by omega, by omega⟩, by decide +kernel⟩
    rw [this, z]
  have hone := FP.rgt_one N Dn hr
  obtain ⟨r1, r2, r3, r4, _⟩ := hr
  generalize FP.rnd (64 * A * N) Dn = x at *
  generalize FP.rnd (64 * B * N) Dn = y at *
  generalize FP.rnd (64 * A * (Dn - N)) Dn = r at *
  by_cases hz : Dn - N = 0
  · obtain rfl := hone hz
    obtain rfl : N = 1 := by omega
    have hx : x = 64 * A := by have h := E1.symm.trans E4; injection h
    subst hx
    have E3' : FP.partS A 0 1 = (r, true) := E3
    clear hone hz E3 E1
    rcases hcase with ⟨hc, rfl, rfl⟩ | ⟨hc, rfl, rfl⟩
    all_goals
      go_enter Try.func8, Try.ntmps8
      go_wp2_with (first
        | (go_at_call 11; refine (sanity_any _).mono ?_; rintro e w1 ⟨rfl, hb1⟩; obtain ⟨hc1, hf1⟩ := bcell hb1; have hz1 := hb1.size; (try simp at hz1); have hv1 : w.heap.size < w1.heap.size := (by omega))
        | (go_at_call 23; refine (HM.out _).mono ?_; rintro e w2 ⟨rfl, hb2⟩; obtain ⟨hc2, hf2⟩ := bcell hb2; have hz2 := hb2.size; (try simp at hz2); have hv2 : w.heap.size < w2.heap.size := (by omega)))
      go_wp2_with (go_at_call 24; refine (part_any _ _ _ _).mono ?_; rintro e w9 ⟨rfl, hb9⟩; obtain ⟨hc9, hf9⟩ := bcell hb9; have hz9 := hb9.size; (try simp at hz9); have hv9 : w2.heap.size < w9.heap.size := (by omega); have hu9 : w2.heap.size + 1 < w9.heap.size := (by omega))
      all_goals
        go_ret
        exact ⟨by first | rfl | (apply retb; simp; omega), by repeat' (first | exact Below.refl _ _ | (with_reducible assumption) | (refine bnext ?_ (by with_reducible assumption)) | (refine balloc ?_ _) | (refine below_drewN ?_ _) | (refine Below.drew ?_) | (refine bset ?_ (by simp; try omega) _))⟩
  · have hz' : (Dn - N == 0) = false := by simp [hz]
    clear hone hz
    rcases hcase with ⟨hc, rfl, rfl⟩ | ⟨hc, rfl, rfl⟩
    all_goals
      go_enter Try.func8, Try.ntmps8
      go_wp2_with (first
        | (go_at_call 11; refine (sanity_any _).mono ?_; rintro e w1 ⟨rfl, hb1⟩; obtain ⟨hc1, hf1⟩ := bcell hb1; have hz1 := hb1.size; (try simp at hz1); have hv1 : w.heap.size < w1.heap.size := (by omega))
        | (go_at_call 23; refine (HM.out _).mono ?_; rintro e w2 ⟨rfl, hb2⟩; obtain ⟨hc2, hf2⟩ := bcell hb2; have hz2 := hb2.size; (try simp at hz2); have hv2 : w.heap.size < w2.heap.size := (by omega)))
      go_wp2_with (go_at_call 24; refine (part_any _ _ _ _).mono ?_; rintro e w9 ⟨rfl, hb9⟩; obtain ⟨hc9, hf9⟩ := bcell hb9; have hz9 := hb9.size; (try simp at hz9); have hv9 : w2.heap.size < w9.heap.size := (by omega); have hu9 : w2.heap.size + 1 < w9.heap.size := (by omega))
      all_goals
        go_ret
        exact ⟨by first | rfl | (apply retb; simp; omega), by repeat' (first | exact Below.refl _ _ | (with_reducible assumption) | (refine bnext ?_ (by with_reducible assumption)) | (refine balloc ?_ _) | (refine below_drewN ?_ _) | (refine Below.drew ?_) | (refine bset ?_ (by simp; try omega) _))⟩

set_option maxRecDepth 100000 in
theorem lifted (os : Os) (started : os.Started) (H : Type) (enc : TypeId × Value → H) :
    ReturnsInHanded {} Try.checked os 8 .any (Rows.fixPartsSpec.pre6 enc Try.prog Try.f8 Rows.fixPartsRow.domain false) (Rows.fixPartsSpec.post enc Try.prog Try.f8 false true false false) := by
  refine returnsInHanded_of_change (C := Try.checked) ownKnob_none started (by kernel_rfl) Try.func8
    (ChangeSpec.witness6 (enc := enc) (C := Try.checked) false ⟨#[], #[.int .i64 0, .int .i64 0, .agg #[.int .i64 0, .int .i64 0]], []⟩ 8 (by kernel_rfl) (by kernel_rfl) (by kernel_rfl) (by kernel_rfl)) ?_
  intro W base args ds gs before hval0 hW hcnd _
  have hval : ∀ (j : Nat) t v, Try.f8.params[j]? = some t → args[j]? = some v → Value.okWide Try.prog W .any base t v := hval0
  have hW' := hW
  obtain ⟨p, q, hA0, hV, rfl, hfz, hnd⟩ := hW
  have hA : DataW.TrodAll enc Try.prog W 0 (fun _ => true) true Try.f8.params.toList args.toList ds p := hA0
  rw [Try.params8] at hA hval
  obtain ⟨v0, vs0, d0, ds0, p0, q0, hargs, rfl, rfl, h0, r0⟩ := trodAll_cons hA
  obtain ⟨v1, vs1, d1, ds1, p1, q1, rfl, rfl, rfl, h1, r1⟩ := trodAll_cons r0
  obtain ⟨v2, vs2, d2, ds2, p2, q2, rfl, rfl, rfl, h2, r2⟩ := trodAll_cons r1
  obtain ⟨rfl, rfl, rfl⟩ := trodAll_nil r2
  obtain rfl : args = #[v0, v1, v2] := by cases args; simp_all
  obtain ⟨rfl, rfl⟩ := trodVars_none hV
  have k0 := h0
  have lt0 : ∀ x ∈ p0, x.block < W.heap.size := by obtain ⟨m, hm⟩ := k0; exact DataW.trod_lt m _ _ _ hm
  have k1 := h1
  have lt1 : ∀ x ∈ p1, x.block < W.heap.size := by obtain ⟨m, hm⟩ := k1; exact DataW.trod_lt m _ _ _ hm
  have k2 := h2
  have lt2 : ∀ x ∈ p2, x.block < W.heap.size := by obtain ⟨m, hm⟩ := k2; exact DataW.trod_lt m _ _ _ hm
  obtain ⟨a0, rfl, rfl, rfl, wa0⟩ := open_int Try.underlying3 (hval 0 3 v0 rfl rfl) h0
  obtain ⟨a1, rfl, rfl, rfl, wa1⟩ := open_int Try.underlying3 (hval 1 3 v1 rfl rfl) h1
  obtain ⟨a2, b2, rfl, wa2, wb2⟩ := open_arr2 Try.underlying23 Try.underlying3 (by kernel_rfl) (by kernel_rfl) (hval 2 23 v2 rfl rfl) h2
  clear hA0 hval0
  refine (walk a0 a1 a2 b2 wa0 wa1 wa2 wb2 W).mono fun e W' ⟨he, bel⟩ => ?_
  subst he
  exact ⟨_, rfl, _, _, _, [], _, [], hW', trodAll_mk1 (shut_bool Try.underlying4 _), (trodAll_cons_mk (Below.trod laidOut (by kernel_rfl) (of_decide_eq_true (by kernel_rfl)) k0 bel lt0) (trodAll_cons_mk (Below.trod laidOut (by kernel_rfl) (of_decide_eq_true (by kernel_rfl)) k1 bel lt1) (trodAll_cons_mk (Below.trod laidOut (by kernel_rfl) (of_decide_eq_true (by kernel_rfl)) k2 bel lt2) trodAll_mk0))), rfl, bel.frame _, fun h => by cases h⟩

theorem over : Rows.fixPartsRow.holds Try.pinned (OpenSpec.ofChange Rows.fixPartsSpec) :=
  OpenClaim.holds_of_wide 8 Try.f8 rfl rfl rfl rfl rfl rfl rfl ⟨rfl, rfl, rfl, rfl, rfl⟩ rfl rfl rfl rfl rfl (by kernel_rfl) Try.func8 (by kernel_rfl)
    (of_decide_eq_true (by kernel_rfl)) (by unfold Func.isWrapper; first | (rw [if_pos (by decide +kernel)]; kernel_rfl) | (rw [if_neg (by decide +kernel)]; exact ⟨rfl, rfl⟩))
    (fun os started H enc _ => lifted os started H enc)

end Go.Proofs.Ytbfahfkommcpkaa.fixParts
namespace Go.Proofs.Ytbfahfkommcpkaa
theorem fixParts_proved : Rows.FixPartsSaid := fixParts.over
#print axioms fixParts_proved
end Go.Proofs.Ytbfahfkommcpkaa
