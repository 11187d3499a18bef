/- For every two numbers SetsRange returns true: ranges are those of the reference. No conditions. -/
import Derived.Test.YtamhhbgakaokgaaSetsSpans
namespace Go.Proofs.Ytamhhbgakaokgaa
open Go.RowKit Go.Maps
theorem kp {W w' : World} {b : Nat} {x y : Value} (q0 : W.cell? ⟨b, 0, none⟩ = some x) (q1 : W.cell? ⟨b, 1, none⟩ = some y) (h : Below W.heap.size W w') : Below W.heap.size W w' ∧ w'.cell? ⟨b, 0, none⟩ = some x ∧ w'.cell? ⟨b, 1, none⟩ = some y :=
  ⟨h, (h.cell (World.block_lt_of_cell? W _ q0)).trans q0, (h.cell (World.block_lt_of_cell? W _ q1)).trans q1⟩
end Go.Proofs.Ytamhhbgakaokgaa
namespace Go.Proofs.Ytamhhbgakaokgaa.setsRange
open Go.ChangeShapes Go.WideShapes Go.ChangeAt Go.RowKit Go.Joins Go.Deep Go.Maps
set_option linter.unusedVariables false

set_option maxRecDepth 100000 in
set_option maxHeartbeats 8000000 in
theorem walk (a0 : Int) (a1 : Int) (wa0 : (Lit.int .i64 a0).wf = true) (wa1 : (Lit.int .i64 a1).wf = true) (w : World) :
    Calls Try.prog 4 #[.int .i64 a0, .int .i64 a1] w fun e w' => e = .returned (.bool true) ∧ Below w.heap.size w w' := by
  obtain ⟨x0, x1⟩ := bd64 wa0
  obtain ⟨y0, y1⟩ := bd64 wa1
  clear wa0 wa1
  have acc : Below w.heap.size w w := Below.refl _ _
  obtain ⟨F, hF⟩ : ∃ F, bits BinOp.and IntKind.i64 a0 65535 = F := ⟨_, rfl⟩
  have hF2 : 0 ≤ F ∧ F ≤ 65535 := by rw [← hF, i64_and65535]; omega
  obtain ⟨hF0, hF1⟩ := hF2
  obtain ⟨M, hM⟩ : ∃ M, bits BinOp.and IntKind.i64 a1 63 = M := ⟨_, rfl⟩
  have hM2 : 0 ≤ M ∧ M ≤ 63 := by rw [← hM, i64_and63]; omega
  obtain ⟨hM0, hM1⟩ := hM2
  go_enter Try.func4, Try.ntmps4
  go_wp2_with fail
  refine (sanity_any _).mono ?_
  rintro e w1 ⟨rfl, hb1⟩
  replace acc := bnext (w := w) (by repeat' (first | exact acc | refine balloc ?_ _ | refine below_drewN ?_ _)) hb1
  clear hb1
  go_wp2_with fail
  have HX : Hid (∀ k : Nat, k < 5 → ∃ x y : Int, (-9223372036854775808 ≤ x ∧ x ≤ 9223372036854775807) ∧ (-9223372036854775808 ≤ y ∧ y ≤ 9223372036854775807) ∧ ∀ W : World, (∀ j, j < 10 → W.cell? ⟨w1.heap.size, j, none⟩ = some (.int .i64 ([a0, a1, F - 32768, F - 32768 + M, F - 32768, F - 32768 + 4096, F - 32768, F - 32768 + 4097, F - 32768, F - 32768 - 1].getD j 0))) → W.cell? ⟨w1.heap.size, k * 2, none⟩ = some (.int .i64 x) ∧ W.cell? ⟨w1.heap.size, k * 2 + 1, none⟩ = some (.int .i64 y)) := Lib.hid fun k hk => by
    match k, hk with
    | 0, _ => exact ⟨a0, a1, ⟨by omega, by omega⟩, ⟨by omega, by omega⟩, fun W h => ⟨by simpa using h 0 (by omega), by simpa using h 1 (by omega)⟩⟩
    | 1, _ => exact ⟨F - 32768, F - 32768 + M, ⟨by omega, by omega⟩, ⟨by omega, by omega⟩, fun W h => ⟨by simpa using h 2 (by omega), by simpa using h 3 (by omega)⟩⟩
    | 2, _ => exact ⟨F - 32768, F - 32768 + 4096, ⟨by omega, by omega⟩, ⟨by omega, by omega⟩, fun W h => ⟨by simpa using h 4 (by omega), by simpa using h 5 (by omega)⟩⟩
    | 3, _ => exact ⟨F - 32768, F - 32768 + 4097, ⟨by omega, by omega⟩, ⟨by omega, by omega⟩, fun W h => ⟨by simpa using h 6 (by omega), by simpa using h 7 (by omega)⟩⟩
    | 4, _ => exact ⟨F - 32768, F - 32768 - 1, ⟨by omega, by omega⟩, ⟨by omega, by omega⟩, fun W h => ⟨by simpa using h 8 (by omega), by simpa using h 9 (by omega)⟩⟩
  have hF' := hF; clear hF' hF hM
  go_loopw [36] (fun i wr => ∃ k : Nat, k ≤ 5 ∧ i = .int .i64 k ∧ w1.heap.size < wr.heap.size ∧ Hid (∀ j, j < 10 → wr.cell? ⟨w1.heap.size, j, none⟩ = some (.int .i64 ([a0, a1, F - 32768, F - 32768 + M, F - 32768, F - 32768 + 4096, F - 32768, F - 32768 + 4097, F - 32768, F - 32768 - 1].getD j 0))) ∧ Below w.heap.size w wr) (fun i _ => 5 - (intOf i).toNat)
  case atStart =>
    refine ⟨0, by omega, rfl, by simp, Lib.hid fun j hj => ?_, balloc acc _⟩
    rw [World.cell?_alloc_at _ _ _ _ rfl]
    match j, hj with
    | 0, _ => rfl
    | 1, _ => rfl
    | 2, _ => rfl
    | 3, _ => rfl
    | 4, _ => rfl
    | 5, _ => rfl
    | 6, _ => rfl
    | 7, _ => rfl
    | 8, _ => rfl
    | 9, _ => rfl
  case round =>
    obtain ⟨k, hk, rfl, hlt, HC, hb⟩ := hrel
    clear acc
    by_cases hk5 : k < 5
    · obtain ⟨x, y, ⟨xa, xb⟩, ⟨ya, yb⟩, hcc⟩ := HX.out k hk5
      obtain ⟨c0, c1⟩ := hcc wr HC.out
      clear hcc
      have hki : (k : Int) < 5 := by omega
      go_wp2_with fail
      obtain ⟨W, hW⟩ : ∃ W, wr.alloc (.cells #[.int .i64 x, .int .i64 y] 30) = W := ⟨_, rfl⟩
      have q0 : W.cell? ⟨wr.heap.size, 0, none⟩ = some (.int .i64 x) := by rw [← hW]; simp
      have q1 : W.cell? ⟨wr.heap.size, 1, none⟩ = some (.int .i64 y) := by rw [← hW]; simp
      have hbW : Below wr.heap.size wr W := by rw [← hW]; exact balloc (Below.refl _ _) _
      rw [hW]
      clear hW c0 c1
      go_region_held3 (fun w' => Below W.heap.size W w' ∧ w'.cell? ⟨wr.heap.size, 0, none⟩ = some (.int .i64 x) ∧ w'.cell? ⟨wr.heap.size, 1, none⟩ = some (.int .i64 y)) ((refine kp q0 q1 ?_; (repeat' (first | exact Below.refl _ _ | (with_reducible assumption) | (refine bnext ?_ (by with_reducible assumption)) | (refine balloc ?_ _) | (refine below_drewN ?_ _) | (refine Below.drew ?_))))) (first | (go_at_call 27; refine (range_any x y _ xa xb ya yb).mono ?_; rintro e w3 ⟨v3, rfl, hl3, hb3⟩; obtain ⟨a3, c3, rfl, _, _⟩ := hl3.out) | (go_at_call 28; refine (rrange_any x y _ xa xb ya yb).mono ?_; rintro e w4 ⟨v4, rfl, hl4, hb4⟩; obtain ⟨a4, c4, rfl, _, _⟩ := hl4.out) | (go_at_call 12; refine (same_t _ _ (SP.span x y) (SP.span x y) _ (hl3.keep (by (repeat' (first | exact Below.refl _ _ | (with_reducible assumption) | (refine bnext ?_ (by with_reducible assumption)) | (refine balloc ?_ _) | (refine below_drewN ?_ _) | (refine Below.drew ?_))))).row (hl4.keep (by (repeat' (first | exact Below.refl _ _ | (with_reducible assumption) | (refine bnext ?_ (by with_reducible assumption)) | (refine balloc ?_ _) | (refine below_drewN ?_ _) | (refine Below.drew ?_))))).row rfl (by have := SP.span_len x y; omega)).mono ?_; rintro e w5 ⟨rfl, hb5⟩))
      have hS : Below wr.heap.size wr w5 := bnext hbW (‹Below W.heap.size W w5 ∧ w5.cell? ⟨wr.heap.size, 0, none⟩ = some (.int .i64 x) ∧ w5.cell? ⟨wr.heap.size, 1, none⟩ = some (.int .i64 y)›).1
      have HB := Lib.hid hS
      clear hl3 hl4 hb3 hb4 hb5 q0 q1 hbW hS
      go_wp2
      go_roundw
      case rel => exact ⟨k + 1, by omega, by go_num, Nat.lt_of_lt_of_le hlt HB.out.size, Lib.hid fun j hj => (HB.out.cell (p := ⟨w1.heap.size, j, none⟩) hlt).trans (HC.out j hj), bnext hb HB.out⟩
      case measure => simp [intOf]; omega
    · go_wp2_with fail
      go_ret
      exact ⟨rfl, hb⟩

set_option maxRecDepth 100000 in
theorem lifted (os : Os) (started : os.Started) (H : Type) (enc : TypeId × Value → H) :
    ReturnsInHanded {} Try.checked os 4 .any (Rows.setsRangeSpec.pre6 enc Try.prog Try.f4 Rows.setsRangeRow.domain false) (Rows.setsRangeSpec.post enc Try.prog Try.f4 false true false false) := by
  refine returnsInHanded_of_change (C := Try.checked) own started (by kernel_rfl) Try.func4
    (ChangeSpec.witness6 (enc := enc) (C := Try.checked) false ⟨#[], #[.int .i64 0, .int .i64 0], []⟩ 8 (by kernel_rfl) (by kernel_rfl) (by kernel_rfl) (by kernel_rfl)) ?_
  intro W base args ds gs before hval0 hW hcnd _
  have hval : ∀ (j : Nat) t v, Try.f4.params[j]? = some t → args[j]? = some v → Value.okWide Try.prog W .any base t v := hval0
  have hW' := hW
  obtain ⟨p, q, hA0, hV, rfl, hfz, hnd⟩ := hW
  have hA : DataW.TrodAll enc Try.prog W 0 (fun _ => true) true Try.f4.params.toList args.toList ds p := hA0
  rw [Try.params4] at hA hval
  obtain ⟨v0, vs0, d0, ds0, p0, q0, hargs, rfl, rfl, h0, r0⟩ := trodAll_cons hA
  obtain ⟨v1, vs1, d1, ds1, p1, q1, rfl, rfl, rfl, h1, r1⟩ := trodAll_cons r0
  obtain ⟨rfl, rfl, rfl⟩ := trodAll_nil r1
  obtain rfl : args = #[v0, v1] := by cases args; simp_all
  obtain ⟨rfl, rfl⟩ := trodVars_none hV
  have k0 := h0
  have lt0 : ∀ x ∈ p0, x.block < W.heap.size := by obtain ⟨m, hm⟩ := k0; exact DataW.trod_lt m _ _ _ hm
  have k1 := h1
  have lt1 : ∀ x ∈ p1, x.block < W.heap.size := by obtain ⟨m, hm⟩ := k1; exact DataW.trod_lt m _ _ _ hm
  obtain ⟨a0, rfl, rfl, rfl, wa0⟩ := open_int Try.underlying3 (hval 0 3 v0 rfl rfl) h0
  obtain ⟨a1, rfl, rfl, rfl, wa1⟩ := open_int Try.underlying3 (hval 1 3 v1 rfl rfl) h1
  clear hA0 hval0
  refine (walk a0 a1 wa0 wa1 W).mono fun e W' ⟨he, bel⟩ => ?_
  subst he
  exact ⟨_, rfl, _, _, _, [], _, [], hW', trodAll_mk1 (shut_bool Try.underlying4 _), (trodAll_cons_mk (Below.trod laidOut (by kernel_rfl) (of_decide_eq_true (by kernel_rfl)) k0 bel lt0) (trodAll_cons_mk (Below.trod laidOut (by kernel_rfl) (of_decide_eq_true (by kernel_rfl)) k1 bel lt1) trodAll_mk0)), rfl, bel.frame _, fun h => by cases h⟩

theorem over : Rows.setsRangeRow.holds Try.pinned (OpenSpec.ofChange Rows.setsRangeSpec) :=
  OpenClaim.holds_of_wide 4 Try.f4 rfl rfl rfl rfl rfl rfl rfl ⟨rfl, rfl, rfl, rfl, rfl⟩ rfl rfl rfl rfl rfl (by kernel_rfl) Try.func4 (by kernel_rfl)
    (of_decide_eq_true (by kernel_rfl)) (by unfold Func.isWrapper; first | (rw [if_pos (by decide +kernel)]; kernel_rfl) | (rw [if_neg (by decide +kernel)]; exact ⟨rfl, rfl⟩))
    (fun os started H enc _ => lifted os started H enc)

end Go.Proofs.Ytamhhbgakaokgaa.setsRange
namespace Go.Proofs.Ytamhhbgakaokgaa
theorem setsRange_proved : Rows.SetsRangeSaid := setsRange.over
#print axioms setsRange_proved
end Go.Proofs.Ytamhhbgakaokgaa
