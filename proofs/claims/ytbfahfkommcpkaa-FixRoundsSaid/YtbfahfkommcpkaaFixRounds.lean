/- For every dividend and divisor Round, Down and Up return what the reference returns: FixRounds returns true. -/
import Derived.Test.YtbfahfkommcpkaaRows
import Derived.WalkKit
import Derived.ProofKit
import Derived.OpenShut
import Derived.Test.YtbfahfkommcpkaaFixWf
namespace Go.Proofs.Ytbfahfkommcpkaa.fixRounds
open Go.ChangeShapes Go.WideShapes Go.ChangeAt Go.RowKit
set_option linter.unusedVariables false

theorem own : ownKnob Try.prog.godebug = none := by kernel_rfl

set_option maxRecDepth 100000 in
set_option maxHeartbeats 1000000 in
theorem walk (a0 : Int) (a1 : Int) (w0 : (Lit.int .i64 a0).wf = true) (w1 : (Lit.int .i64 a1).wf = true) (w : World) :
    Calls Try.prog 3 #[.int .i64 a0, .int .i64 a1] w fun e w' => e = .returned (.bool true) ∧ Below w.heap.size w w' := by
  obtain ⟨b0, b1⟩ := bd_i64 w0
  obtain ⟨c0, c1⟩ := bd_i64 w1
  have r1 := Int.emod_lt_of_pos a1 (show (0 : Int) < 200 by omega)
  have r0 := Int.emod_nonneg a1 (show (200 : Int) ≠ 0 by omega)
  have s1 := Int.emod_lt_of_pos a0 (show (0 : Int) < 4000 by omega)
  have s0 := Int.emod_nonneg a0 (show (4000 : Int) ≠ 0 by omega)
  have t1 := Int.emod_lt_of_pos a1 (show (0 : Int) < 130 by omega)
  have t0 := Int.emod_nonneg a1 (show (130 : Int) ≠ 0 by omega)
  clear w0 w1
  go_enter Try.func3, Try.ntmps3
  go_wp2_with (first
    | (go_at_call 11; refine (sanity_any _).mono ?_; rintro e ws ⟨rfl, hbs⟩)
    | (go_at_call 12; refine (mod_any _ _ _ (by omega) (by omega)).mono ?_; rintro e w' ⟨rfl, rfl⟩))
  go_loopw [38] (fun i wr => ∃ k : Nat, k ≤ 3 ∧ i = .int .i64 k ∧ w'.heap.size < wr.heap.size ∧
      Hid (∀ j, j < 6 → wr.cell? ⟨w'.heap.size, j, none⟩ = some (.int .i64 ([a0, a1, a0, a1 % 200 - 3, a0 % 4000 - 2000, a1 % 130 - 1].getD j 0))) ∧ Below w.heap.size w wr) (fun i _ => 3 - (intOf i).toNat)
  case atStart => exact ⟨0, Nat.zero_le _, rfl, by simp, fun j hj => by
      match j, hj with
      | 0, _ => rw [World.cell?_alloc_at _ _ _ _ (by simp)]; rfl
      | 1, _ => rw [World.cell?_alloc_at _ _ _ _ (by simp)]; rfl
      | 2, _ => rw [World.cell?_alloc_at _ _ _ _ (by simp)]; rfl
      | 3, _ => rw [World.cell?_alloc_at _ _ _ _ (by simp)]; rfl
      | 4, _ => rw [World.cell?_alloc_at _ _ _ _ (by simp)]; rfl
      | 5, _ => rw [World.cell?_alloc_at _ _ _ _ (by simp)]; rfl, by repeat' (first | exact Below.refl _ _ | (with_reducible assumption) | (refine bnext ?_ (by with_reducible assumption)) | (refine balloc ?_ _) | (refine below_drewN ?_ _) | (refine Below.drew ?_) | (refine bset ?_ (by simp; try omega) _))⟩
  case round =>
    obtain ⟨k, hk, rfl, hlt, HC, hbr⟩ := hrel
    by_cases hk3 : k < 3
    · have hxy : ∃ X Y : Int, -9223372036854775808 ≤ X ∧ X ≤ 9223372036854775807 ∧ Y ≤ 9223372036854775807 ∧ wr.cell? ⟨w'.heap.size, k * 2, none⟩ = some (.int .i64 X) ∧ wr.cell? ⟨w'.heap.size, k * 2 + 1, none⟩ = some (.int .i64 Y) := by
        obtain rfl | rfl | rfl : k = 0 ∨ k = 1 ∨ k = 2 := by omega
        · exact ⟨a0, a1, b0, b1, c1, HC.out 0 (by omega), HC.out 1 (by omega)⟩
        · exact ⟨a0, a1 % 200 - 3, b0, b1, by omega, HC.out 2 (by omega), HC.out 3 (by omega)⟩
        · exact ⟨a0 % 4000 - 2000, a1 % 130 - 1, by omega, by omega, by omega, HC.out 4 (by omega), HC.out 5 (by omega)⟩
      obtain ⟨X, Y, x0, x1, y1, hX, hY⟩ := hxy
      clear b0 b1 c0 c1 r1 r0 s1 s0 t1 t0
      go_wp2_with (first
          | (go_at_call 13; refine (round_any _ _ _ (by omega) (by omega) (by omega)).mono ?_; rintro e w9 ⟨rfl, hb9⟩; obtain ⟨hc9, hf9⟩ := bcell hb9; have hz9 := hb9.size; (try simp at hz9); have hv9 : wr.heap.size < w9.heap.size := by omega)
          | (go_at_call 14; refine (down_any _ _ _ (by omega) (by omega) (by omega)).mono ?_; rintro e w9 ⟨rfl, hb9⟩; obtain ⟨hc9, hf9⟩ := bcell hb9; have hz9 := hb9.size; (try simp at hz9); have hv9 : wr.heap.size < w9.heap.size := by omega)
          | (go_at_call 15; refine (up_any _ _ _ (by omega) (by omega) (by omega)).mono ?_; rintro e w9 ⟨rfl, hb9⟩; obtain ⟨hc9, hf9⟩ := bcell hb9; have hz9 := hb9.size; (try simp at hz9); have hv9 : wr.heap.size < w9.heap.size := by omega)
          | (go_at_call 16; refine (rround_any _ _ _ (by omega) (by omega) (by omega)).mono ?_; rintro e w9 ⟨rfl, hb9⟩; obtain ⟨hc9, hf9⟩ := bcell hb9; have hz9 := hb9.size; (try simp at hz9); have hv9 : wr.heap.size < w9.heap.size := by omega)
          | (go_at_call 17; refine (rdown_any _ _ _ (by omega) (by omega) (by omega)).mono ?_; rintro e w9 ⟨rfl, hb9⟩; obtain ⟨hc9, hf9⟩ := bcell hb9; have hz9 := hb9.size; (try simp at hz9); have hv9 : wr.heap.size < w9.heap.size := by omega)
          | (go_at_call 18; refine (rup_any _ _ _ (by omega) (by omega) (by omega)).mono ?_; rintro e w9 ⟨rfl, hb9⟩; obtain ⟨hc9, hf9⟩ := bcell hb9; have hz9 := hb9.size; (try simp at hz9); have hv9 : wr.heap.size < w9.heap.size := by omega))
      have hB : Below wr.heap.size wr w9 := by repeat' (first | exact Below.refl _ _ | (with_reducible assumption) | (refine bnext ?_ (by with_reducible assumption)) | (refine balloc ?_ _) | (refine below_drewN ?_ _) | (refine Below.drew ?_) | (refine bset ?_ (by simp; try omega) _))
      go_roundw
      case rel => exact ⟨k + 1, by omega, by go_num, by omega, fun j hj => (hB.cell (p := ⟨w'.heap.size, j, none⟩) hlt).trans (HC.out j hj), hbr.trans (hB.mono hbr.size)⟩
      case measure => simp [intOf]; omega
    · go_wp2
      go_ret
      exact ⟨rfl, by repeat' (first | exact Below.refl _ _ | (with_reducible assumption) | (refine bnext ?_ (by with_reducible assumption)) | (refine balloc ?_ _) | (refine below_drewN ?_ _) | (refine Below.drew ?_) | (refine bset ?_ (by simp; try omega) _))⟩


set_option maxRecDepth 100000 in
theorem lifted (os : Os) (started : os.Started) (H : Type) (enc : TypeId × Value → H) :
    ReturnsInHanded {} Try.checked os 3 .any (Rows.fixRoundsSpec.pre6 enc Try.prog Try.f3 Rows.fixRoundsRow.domain false) (Rows.fixRoundsSpec.post enc Try.prog Try.f3 false true false false) := by
  refine returnsInHanded_of_change (C := Try.checked) own started (by kernel_rfl) Try.func3
    (ChangeSpec.witness6 (enc := enc) (C := Try.checked) false ⟨#[], #[.int .i64 0, .int .i64 0], []⟩ 8 (by kernel_rfl) (by kernel_rfl) (by kernel_rfl) (by kernel_rfl)) ?_
  intro W base args ds gs before hval0 hW hcnd _
  have hval : ∀ (j : Nat) t v, Try.f3.params[j]? = some t → args[j]? = some v → Value.okWide Try.prog W .any base t v := hval0
  have hW' := hW
  obtain ⟨p, q, hA0, hV, rfl, hfz, hnd⟩ := hW
  have hA : DataW.TrodAll enc Try.prog W 0 (fun _ => true) true Try.f3.params.toList args.toList ds p := hA0
  rw [Try.params3] at hA hval
  obtain ⟨v0, vs0, d0, ds0, p0, q0, hargs, rfl, rfl, h0, r0⟩ := trodAll_cons hA
  obtain ⟨v1, vs1, d1, ds1, p1, q1, rfl, rfl, rfl, h1, r1⟩ := trodAll_cons r0
  obtain ⟨rfl, rfl, rfl⟩ := trodAll_nil r1
  obtain rfl : args = #[v0, v1] := by cases args; simp_all
  obtain ⟨rfl, rfl⟩ := trodVars_none hV
  obtain ⟨a0, rfl, rfl, rfl, w0⟩ := open_int Try.underlying3 (hval 0 3 v0 rfl rfl) h0
  obtain ⟨a1, rfl, rfl, rfl, w1⟩ := open_int Try.underlying3 (hval 1 3 v1 rfl rfl) h1
  clear hA0 hval0
  refine (walk a0 a1 w0 w1 W).mono fun e W' ⟨he, bel⟩ => ?_
  subst he
  exact ⟨_, rfl, _, _, _, [], _, [], hW', trodAll_mk1 (shut_bool Try.underlying4 _), (trodAll_cons_mk (shut_int Try.underlying3 w0) (trodAll_cons_mk (shut_int Try.underlying3 w1) trodAll_mk0)), rfl, bel.frame _, fun h => by cases h⟩

theorem over : Rows.fixRoundsRow.holds Try.pinned (OpenSpec.ofChange Rows.fixRoundsSpec) :=
  OpenClaim.holds_of_wide 3 Try.f3 rfl rfl rfl rfl rfl rfl rfl ⟨rfl, rfl, rfl, rfl, rfl⟩ rfl rfl rfl rfl rfl (by kernel_rfl) Try.func3 (by kernel_rfl)
    (of_decide_eq_true (by kernel_rfl)) (by unfold Func.isWrapper; first | (rw [if_pos (by decide +kernel)]; kernel_rfl) | (rw [if_neg (by decide +kernel)]; exact ⟨rfl, rfl⟩))
    (fun os started H enc _ => lifted os started H enc)

end Go.Proofs.Ytbfahfkommcpkaa.fixRounds
namespace Go.Proofs.Ytbfahfkommcpkaa
theorem fixRounds_proved : Rows.FixRoundsSaid := fixRounds.over
#print axioms fixRounds_proved
end Go.Proofs.Ytbfahfkommcpkaa
