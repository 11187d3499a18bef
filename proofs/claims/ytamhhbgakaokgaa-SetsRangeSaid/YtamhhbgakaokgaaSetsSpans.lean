/- For every number and three lengths SetsSpans returns true. No conditions. -/
import Derived.Test.YtamhhbgakaokgaaSetSane
namespace Go.Proofs.Ytamhhbgakaokgaa
theorem SP.span_count (a b : Int) (h : a ≤ b ∧ b - a ≤ 4096) : ((SP.span a b).length : Int) = b - a := by
  by_cases hab : a < b
  · rw [SP.span_yes hab h.2, SP.upto_len]; omega
  · rw [SP.span_no (by omega)]; simp; omega
theorem inr_span {a b : Int} (h0 : -1000000 ≤ a) (h1 : b ≤ 1000000) (h2 : b - a ≤ 4096) : InR (SP.span a b) :=
  ⟨by have := SP.span_len a b; omega, fun x hx => by rw [SP.mem_span h2] at hx; exact WalkArith.wf_i64 (by omega)⟩
theorem i64_and65535 (n : Int) : bits .and .i64 n 65535 = n % 65536 := by
  have h127 : (BitVec.ofInt 64 65535).toNat = 2 ^ 16 - 1 := by decide
  have key : (BitVec.ofInt 64 n &&& BitVec.ofInt 64 65535).toNat = (n % ((2 ^ 64 : Nat) : Int)).toNat % 2 ^ 16 := by
    rw [BitVec.toNat_and, BitVec.toNat_ofInt, h127, Nat.and_two_pow_sub_one_eq_mod]
  show IntKind.i64.wrap ((BitVec.ofInt 64 n &&& BitVec.ofInt 64 65535).toNat : Nat) = n % 65536
  rw [key, IntKind.wrap_i64]
  omega
theorem i64_and63 (n : Int) : bits .and .i64 n 63 = n % 64 := by
  have h127 : (BitVec.ofInt 64 63).toNat = 2 ^ 6 - 1 := by decide
  have key : (BitVec.ofInt 64 n &&& BitVec.ofInt 64 63).toNat = (n % ((2 ^ 64 : Nat) : Int)).toNat % 2 ^ 6 := by
    rw [BitVec.toNat_and, BitVec.toNat_ofInt, h127, Nat.and_two_pow_sub_one_eq_mod]
  show IntKind.i64.wrap ((BitVec.ofInt 64 n &&& BitVec.ofInt 64 63).toNat : Nat) = n % 64
  rw [key, IntKind.wrap_i64]
  omega
end Go.Proofs.Ytamhhbgakaokgaa
namespace Go.Proofs.Ytamhhbgakaokgaa.setsSpans
open Go.ChangeShapes Go.WideShapes Go.ChangeAt Go.RowKit Go.Joins Go.Deep Go.Maps
set_option linter.unusedVariables false

set_option maxRecDepth 100000 in
set_option maxHeartbeats 8000000 in
theorem walk (a0 : Int) (a1 : Int) (b1 : Int) (c1 : Int) (wa0 : (Lit.int .i64 a0).wf = true) (wa1 : (Lit.int .u8 a1).wf = true) (wb1 : (Lit.int .u8 b1).wf = true) (wc1 : (Lit.int .u8 c1).wf = true) (w : World) :
    Calls Try.prog 8 #[.int .i64 a0, .agg #[.int .u8 a1, .int .u8 b1, .int .u8 c1]] w fun e w' => e = .returned (.bool true) ∧ Below w.heap.size w w' := by
  have acc : Below w.heap.size w w := Below.refl _ _
  obtain ⟨F, hF⟩ : ∃ F, bits BinOp.and IntKind.i64 a0 65535 = F := ⟨_, rfl⟩
  have hF2 : 0 ≤ F ∧ F ≤ 65535 := by rw [← hF, i64_and65535]; omega
  obtain ⟨hF0, hF1⟩ := hF2
  obtain ⟨p0, p1⟩ := bd8 wa1
  obtain ⟨q0, q1⟩ := bd8 wb1
  obtain ⟨r0, r1⟩ := bd8 wc1
  clear wa0 wa1 wb1 wc1
  go_enter Try.func8, Try.ntmps8
  go_wp2_with fail
  refine (sanity_any _).mono ?_
  rintro e w1 ⟨rfl, hb1⟩
  replace acc := bnext (w := w) (balloc acc _) hb1
  have hc0 : w1.cell? ⟨w.heap.size, 0, none⟩ = some (.int .u8 a1) := (hb1.cell (p := ⟨w.heap.size, 0, none⟩) (by simp)).trans (by simp)
  have hc1 : w1.cell? ⟨w.heap.size, 1, none⟩ = some (.int .u8 b1) := (hb1.cell (p := ⟨w.heap.size, 1, none⟩) (by simp)).trans (by simp)
  have hc2 : w1.cell? ⟨w.heap.size, 2, none⟩ = some (.int .u8 c1) := (hb1.cell (p := ⟨w.heap.size, 2, none⟩) (by simp)).trans (by simp)
  have hlt1 : w.heap.size < w1.heap.size := by have := hb1.size; simp at this; omega
  clear hb1
  go_wp2_with fail
  clear hF
  have e1 : IntKind.i64.wrap a1 = a1 := IntWalk.i64_in _ (by omega)
  have e2 : IntKind.i64.wrap b1 = b1 := IntWalk.i64_in _ (by omega)
  have e3 : IntKind.i64.wrap c1 = c1 := IntWalk.i64_in _ (by omega)
  have e4 : IntKind.i64.wrap (F + a1) = F + a1 := IntWalk.i64_in _ (by omega)
  have e5 : IntKind.i64.wrap (F + a1 + b1) = F + a1 + b1 := IntWalk.i64_in _ (by omega)
  go_quiet (fail)
  clear e1 e2 e4 e5 hc0 hc1
  go_wp2_with fail
  obtain ⟨T, hT⟩ : ∃ T, F + a1 + b1 = T := ⟨_, rfl⟩
  rw [hT]
  have hT0 : F ≤ T ∧ T ≤ F + 510 := by omega
  have HT := Lib.hid hT
  clear hT
  refine (range_any F T _ (by omega) (by omega) (by omega) (by omega)).mono ?_
  rintro e w2 ⟨u2, rfl, h2, hb2⟩
  obtain ⟨p2, q2, rfl, _, _⟩ := h2.out
  replace acc := bnext (w := w) (by repeat' (first | exact acc | refine balloc ?_ _ | refine below_drewN ?_ _)) hb2
  have RL := Lib.hid (h2)
  replace hc2 := (hb2.cell (p := ⟨w.heap.size, 2, none⟩) hlt1).trans hc2
  clear h2 hb2
  have hs1 : ((SP.span F T).length : Int) ≤ T - F := by have := SP.span_count F T (by omega); omega
  have hs2 : T - F ≤ ((SP.span F T).length : Int) := by have := SP.span_count F T (by omega); omega
  have hjoin : Hid (SP.join (SP.span (F + a1) T) (SP.span F (F + a1)) = SP.span F T) := Lib.hid (SP.rises_ext (SP.rises_norm _) (SP.rises_span _ _) fun x => by rw [SP.mem_join, SP.mem_span (by omega), SP.mem_span (by omega), SP.mem_span (by omega)]; have := HT.out; omega)
  have hover : Hid (decide (SP.meet (SP.span (F + a1) T) (SP.span F (F + a1)) ≠ []) = false) := Lib.hid (by rw [decide_eq_false_iff_not, Classical.not_not]; refine List.eq_nil_iff_forall_not_mem.2 fun x hx => ?_; rw [SP.mem_meet, SP.mem_span (by omega), SP.mem_span (by omega)] at hx; omega)
  have HI1 : Hid (InR (SP.span (F + a1) T)) := Lib.hid (inr_span (by omega) (by omega) (by omega))
  have HI2 : Hid (InR (SP.span F (F + a1))) := Lib.hid (inr_span (by omega) (by omega) (by omega))
  have hTm : F + a1 ≤ T := by have := HT.out; omega
  by_cases hx1 : F ≤ F - 3 + c1 <;> by_cases hx2 : F - 3 + c1 < T
  · have hd2 : decide (F - 3 + c1 < T) = true := decide_eq_true hx2
    have HH : Hid (decide (F - 3 + c1 ∈ SP.span F T) = true) := Lib.hid (by rw [decide_eq_true_eq, SP.mem_span (by omega)]; omega)
    go_wp2_with fail
    refine (has_t _ (SP.span F T) (F - 3 + c1) true _ (RL.out.keep (by repeat' (first | exact Below.refl _ _ | refine balloc ?_ _ | refine below_drewN ?_ _))).row (by have := SP.span_len F T; omega) HH.out).mono ?_
    rintro e w21 ⟨rfl, rfl⟩
    go_wp2_with fail
    refine (range_any (F + a1) T _ (by omega) (by omega) (by omega) (by omega)).mono ?_
    rintro e w22 ⟨u22, rfl, h22, hb22⟩
    obtain ⟨p22, q22, rfl, _, _⟩ := h22.out
    replace RL := Lib.hid ((RL.out.keep (by repeat' (first | exact Below.refl _ _ | refine balloc ?_ _ | refine below_drewN ?_ _))).keep hb22)
    replace acc := bnext (w := w) (by repeat' (first | exact acc | refine balloc ?_ _ | refine below_drewN ?_ _)) hb22
    have R1 := Lib.hid (h22)
    clear h22 hb22
    go_wp2_with fail
    refine (range_any F (F + a1) _ (by omega) (by omega) (by omega) (by omega)).mono ?_
    rintro e w23 ⟨u23, rfl, h23, hb23⟩
    obtain ⟨p23, q23, rfl, _, _⟩ := h23.out
    replace RL := Lib.hid ((RL.out.keep (by repeat' (first | exact Below.refl _ _ | refine balloc ?_ _ | refine below_drewN ?_ _))).keep hb23)
    replace R1 := Lib.hid ((R1.out.keep (by repeat' (first | exact Below.refl _ _ | refine balloc ?_ _ | refine below_drewN ?_ _))).keep hb23)
    replace acc := bnext (w := w) (by repeat' (first | exact acc | refine balloc ?_ _ | refine below_drewN ?_ _)) hb23
    have R2 := Lib.hid (h23)
    clear h23 hb23
    go_wp2_with fail
    refine (join_any _ _ (SP.span (F + a1) T) (SP.span F (F + a1)) _ (R1.out.keep (by repeat' (first | exact Below.refl _ _ | refine balloc ?_ _ | refine below_drewN ?_ _))).row (R2.out.keep (by repeat' (first | exact Below.refl _ _ | refine balloc ?_ _ | refine below_drewN ?_ _))).row HI1.out HI2.out).mono ?_
    rintro e w24 ⟨u24, rfl, h24, hb24⟩
    obtain ⟨p24, q24, rfl⟩ := own_shape h24
    replace RL := Lib.hid ((RL.out.keep (by repeat' (first | exact Below.refl _ _ | refine balloc ?_ _ | refine below_drewN ?_ _))).keep hb24)
    replace R1 := Lib.hid ((R1.out.keep (by repeat' (first | exact Below.refl _ _ | refine balloc ?_ _ | refine below_drewN ?_ _))).keep hb24)
    replace R2 := Lib.hid ((R2.out.keep (by repeat' (first | exact Below.refl _ _ | refine balloc ?_ _ | refine below_drewN ?_ _))).keep hb24)
    replace acc := bnext (w := w) (by repeat' (first | exact acc | refine balloc ?_ _ | refine below_drewN ?_ _)) hb24
    have R3 := Lib.hid (Own.lst h24)
    clear h24 hb24
    go_wp2_with fail
    refine (same_t _ _ (SP.join (SP.span (F + a1) T) (SP.span F (F + a1))) (SP.span F T) _ (R3.out.keep (by repeat' (first | exact Below.refl _ _ | refine balloc ?_ _ | refine below_drewN ?_ _))).row (RL.out.keep (by repeat' (first | exact Below.refl _ _ | refine balloc ?_ _ | refine below_drewN ?_ _))).row hjoin.out (by rw [hjoin.out]; have := SP.span_len F T; omega)).mono ?_
    rintro e w25 ⟨rfl, hb25⟩
    replace RL := Lib.hid ((RL.out.keep (by repeat' (first | exact Below.refl _ _ | refine balloc ?_ _ | refine below_drewN ?_ _))).keep hb25)
    replace R1 := Lib.hid ((R1.out.keep (by repeat' (first | exact Below.refl _ _ | refine balloc ?_ _ | refine below_drewN ?_ _))).keep hb25)
    replace R2 := Lib.hid ((R2.out.keep (by repeat' (first | exact Below.refl _ _ | refine balloc ?_ _ | refine below_drewN ?_ _))).keep hb25)
    replace R3 := Lib.hid ((R3.out.keep (by repeat' (first | exact Below.refl _ _ | refine balloc ?_ _ | refine below_drewN ?_ _))).keep hb25)
    replace acc := bnext (w := w) (by repeat' (first | exact acc | refine balloc ?_ _ | refine below_drewN ?_ _)) hb25
    clear hb25
    clear R1 R2 R3
    go_wp2_with fail
    refine (range_any (F + a1) T _ (by omega) (by omega) (by omega) (by omega)).mono ?_
    rintro e w26 ⟨u26, rfl, h26, hb26⟩
    obtain ⟨p26, q26, rfl, _, _⟩ := h26.out
    replace RL := Lib.hid ((RL.out.keep (by repeat' (first | exact Below.refl _ _ | refine balloc ?_ _ | refine below_drewN ?_ _))).keep hb26)
    replace acc := bnext (w := w) (by repeat' (first | exact acc | refine balloc ?_ _ | refine below_drewN ?_ _)) hb26
    have R1 := Lib.hid (h26)
    clear h26 hb26
    go_wp2_with fail
    refine (range_any F (F + a1) _ (by omega) (by omega) (by omega) (by omega)).mono ?_
    rintro e w27 ⟨u27, rfl, h27, hb27⟩
    obtain ⟨p27, q27, rfl, _, _⟩ := h27.out
    replace RL := Lib.hid ((RL.out.keep (by repeat' (first | exact Below.refl _ _ | refine balloc ?_ _ | refine below_drewN ?_ _))).keep hb27)
    replace R1 := Lib.hid ((R1.out.keep (by repeat' (first | exact Below.refl _ _ | refine balloc ?_ _ | refine below_drewN ?_ _))).keep hb27)
    replace acc := bnext (w := w) (by repeat' (first | exact acc | refine balloc ?_ _ | refine below_drewN ?_ _)) hb27
    have R2 := Lib.hid (h27)
    clear h27 hb27
    go_wp2_with fail
    refine (overlap_t _ _ (SP.span (F + a1) T) (SP.span F (F + a1)) false _ (R1.out.keep (by repeat' (first | exact Below.refl _ _ | refine balloc ?_ _ | refine below_drewN ?_ _))).row (R2.out.keep (by repeat' (first | exact Below.refl _ _ | refine balloc ?_ _ | refine below_drewN ?_ _))).row HI1.out HI2.out hover.out).mono ?_
    rintro e w28 ⟨rfl, hb28⟩
    replace RL := Lib.hid ((RL.out.keep (by repeat' (first | exact Below.refl _ _ | refine balloc ?_ _ | refine below_drewN ?_ _))).keep hb28)
    replace R1 := Lib.hid ((R1.out.keep (by repeat' (first | exact Below.refl _ _ | refine balloc ?_ _ | refine below_drewN ?_ _))).keep hb28)
    replace R2 := Lib.hid ((R2.out.keep (by repeat' (first | exact Below.refl _ _ | refine balloc ?_ _ | refine below_drewN ?_ _))).keep hb28)
    replace acc := bnext (w := w) (by repeat' (first | exact acc | refine balloc ?_ _ | refine below_drewN ?_ _)) hb28
    clear hb28
    go_wp2_with fail
    go_ret
    exact ⟨rfl, acc⟩
  · have hd2 : decide (F - 3 + c1 < T) = false := decide_eq_false hx2
    have hx2 := Int.not_lt.1 hx2
    have HH : Hid (decide (F - 3 + c1 ∈ SP.span F T) = false) := Lib.hid (by rw [decide_eq_false_iff_not, SP.mem_span (by omega)]; omega)
    go_wp2_with fail
    refine (has_t _ (SP.span F T) (F - 3 + c1) false _ (RL.out.keep (by repeat' (first | exact Below.refl _ _ | refine balloc ?_ _ | refine below_drewN ?_ _))).row (by have := SP.span_len F T; omega) HH.out).mono ?_
    rintro e w21 ⟨rfl, rfl⟩
    go_wp2_with fail
    refine (range_any (F + a1) T _ (by omega) (by omega) (by omega) (by omega)).mono ?_
    rintro e w22 ⟨u22, rfl, h22, hb22⟩
    obtain ⟨p22, q22, rfl, _, _⟩ := h22.out
    replace RL := Lib.hid ((RL.out.keep (by repeat' (first | exact Below.refl _ _ | refine balloc ?_ _ | refine below_drewN ?_ _))).keep hb22)
    replace acc := bnext (w := w) (by repeat' (first | exact acc | refine balloc ?_ _ | refine below_drewN ?_ _)) hb22
    have R1 := Lib.hid (h22)
    clear h22 hb22
    go_wp2_with fail
    refine (range_any F (F + a1) _ (by omega) (by omega) (by omega) (by omega)).mono ?_
    rintro e w23 ⟨u23, rfl, h23, hb23⟩
    obtain ⟨p23, q23, rfl, _, _⟩ := h23.out
    replace RL := Lib.hid ((RL.out.keep (by repeat' (first | exact Below.refl _ _ | refine balloc ?_ _ | refine below_drewN ?_ _))).keep hb23)
    replace R1 := Lib.hid ((R1.out.keep (by repeat' (first | exact Below.refl _ _ | refine balloc ?_ _ | refine below_drewN ?_ _))).keep hb23)
    replace acc := bnext (w := w) (by repeat' (first | exact acc | refine balloc ?_ _ | refine below_drewN ?_ _)) hb23
    have R2 := Lib.hid (h23)
    clear h23 hb23
    go_wp2_with fail
    refine (join_any _ _ (SP.span (F + a1) T) (SP.span F (F + a1)) _ (R1.out.keep (by repeat' (first | exact Below.refl _ _ | refine balloc ?_ _ | refine below_drewN ?_ _))).row (R2.out.keep (by repeat' (first | exact Below.refl _ _ | refine balloc ?_ _ | refine below_drewN ?_ _))).row HI1.out HI2.out).mono ?_
    rintro e w24 ⟨u24, rfl, h24, hb24⟩
    obtain ⟨p24, q24, rfl⟩ := own_shape h24
    replace RL := Lib.hid ((RL.out.keep (by repeat' (first | exact Below.refl _ _ | refine balloc ?_ _ | refine below_drewN ?_ _))).keep hb24)
    replace R1 := Lib.hid ((R1.out.keep (by repeat' (first | exact Below.refl _ _ | refine balloc ?_ _ | refine below_drewN ?_ _))).keep hb24)
    replace R2 := Lib.hid ((R2.out.keep (by repeat' (first | exact Below.refl _ _ | refine balloc ?_ _ | refine below_drewN ?_ _))).keep hb24)
    replace acc := bnext (w := w) (by repeat' (first | exact acc | refine balloc ?_ _ | refine below_drewN ?_ _)) hb24
    have R3 := Lib.hid (Own.lst h24)
    clear h24 hb24
    go_wp2_with fail
    refine (same_t _ _ (SP.join (SP.span (F + a1) T) (SP.span F (F + a1))) (SP.span F T) _ (R3.out.keep (by repeat' (first | exact Below.refl _ _ | refine balloc ?_ _ | refine below_drewN ?_ _))).row (RL.out.keep (by repeat' (first | exact Below.refl _ _ | refine balloc ?_ _ | refine below_drewN ?_ _))).row hjoin.out (by rw [hjoin.out]; have := SP.span_len F T; omega)).mono ?_
    rintro e w25 ⟨rfl, hb25⟩
    replace RL := Lib.hid ((RL.out.keep (by repeat' (first | exact Below.refl _ _ | refine balloc ?_ _ | refine below_drewN ?_ _))).keep hb25)
    replace R1 := Lib.hid ((R1.out.keep (by repeat' (first | exact Below.refl _ _ | refine balloc ?_ _ | refine below_drewN ?_ _))).keep hb25)
    replace R2 := Lib.hid ((R2.out.keep (by repeat' (first | exact Below.refl _ _ | refine balloc ?_ _ | refine below_drewN ?_ _))).keep hb25)
    replace R3 := Lib.hid ((R3.out.keep (by repeat' (first | exact Below.refl _ _ | refine balloc ?_ _ | refine below_drewN ?_ _))).keep hb25)
    replace acc := bnext (w := w) (by repeat' (first | exact acc | refine balloc ?_ _ | refine below_drewN ?_ _)) hb25
    clear hb25
    clear R1 R2 R3
    go_wp2_with fail
    refine (range_any (F + a1) T _ (by omega) (by omega) (by omega) (by omega)).mono ?_
    rintro e w26 ⟨u26, rfl, h26, hb26⟩
    obtain ⟨p26, q26, rfl, _, _⟩ := h26.out
    replace RL := Lib.hid ((RL.out.keep (by repeat' (first | exact Below.refl _ _ | refine balloc ?_ _ | refine below_drewN ?_ _))).keep hb26)
    replace acc := bnext (w := w) (by repeat' (first | exact acc | refine balloc ?_ _ | refine below_drewN ?_ _)) hb26
    have R1 := Lib.hid (h26)
    clear h26 hb26
    go_wp2_with fail
    refine (range_any F (F + a1) _ (by omega) (by omega) (by omega) (by omega)).mono ?_
    rintro e w27 ⟨u27, rfl, h27, hb27⟩
    obtain ⟨p27, q27, rfl, _, _⟩ := h27.out
    replace RL := Lib.hid ((RL.out.keep (by repeat' (first | exact Below.refl _ _ | refine balloc ?_ _ | refine below_drewN ?_ _))).keep hb27)
    replace R1 := Lib.hid ((R1.out.keep (by repeat' (first | exact Below.refl _ _ | refine balloc ?_ _ | refine below_drewN ?_ _))).keep hb27)
    replace acc := bnext (w := w) (by repeat' (first | exact acc | refine balloc ?_ _ | refine below_drewN ?_ _)) hb27
    have R2 := Lib.hid (h27)
    clear h27 hb27
    go_wp2_with fail
    refine (overlap_t _ _ (SP.span (F + a1) T) (SP.span F (F + a1)) false _ (R1.out.keep (by repeat' (first | exact Below.refl _ _ | refine balloc ?_ _ | refine below_drewN ?_ _))).row (R2.out.keep (by repeat' (first | exact Below.refl _ _ | refine balloc ?_ _ | refine below_drewN ?_ _))).row HI1.out HI2.out hover.out).mono ?_
    rintro e w28 ⟨rfl, hb28⟩
    replace RL := Lib.hid ((RL.out.keep (by repeat' (first | exact Below.refl _ _ | refine balloc ?_ _ | refine below_drewN ?_ _))).keep hb28)
    replace R1 := Lib.hid ((R1.out.keep (by repeat' (first | exact Below.refl _ _ | refine balloc ?_ _ | refine below_drewN ?_ _))).keep hb28)
    replace R2 := Lib.hid ((R2.out.keep (by repeat' (first | exact Below.refl _ _ | refine balloc ?_ _ | refine below_drewN ?_ _))).keep hb28)
    replace acc := bnext (w := w) (by repeat' (first | exact acc | refine balloc ?_ _ | refine below_drewN ?_ _)) hb28
    clear hb28
    go_wp2_with fail
    go_ret
    exact ⟨rfl, acc⟩
  · have hx1 := Int.not_le.1 hx1
    have hd2 : decide (F - 3 + c1 < T) = true := decide_eq_true hx2
    have HH : Hid (decide (F - 3 + c1 ∈ SP.span F T) = false) := Lib.hid (by rw [decide_eq_false_iff_not, SP.mem_span (by omega)]; omega)
    go_wp2_with fail
    refine (has_t _ (SP.span F T) (F - 3 + c1) false _ (RL.out.keep (by repeat' (first | exact Below.refl _ _ | refine balloc ?_ _ | refine below_drewN ?_ _))).row (by have := SP.span_len F T; omega) HH.out).mono ?_
    rintro e w21 ⟨rfl, rfl⟩
    go_wp2_with fail
    refine (range_any (F + a1) T _ (by omega) (by omega) (by omega) (by omega)).mono ?_
    rintro e w22 ⟨u22, rfl, h22, hb22⟩
    obtain ⟨p22, q22, rfl, _, _⟩ := h22.out
    replace RL := Lib.hid ((RL.out.keep (by repeat' (first | exact Below.refl _ _ | refine balloc ?_ _ | refine below_drewN ?_ _))).keep hb22)
    replace acc := bnext (w := w) (by repeat' (first | exact acc | refine balloc ?_ _ | refine below_drewN ?_ _)) hb22
    have R1 := Lib.hid (h22)
    clear h22 hb22
    go_wp2_with fail
    refine (range_any F (F + a1) _ (by omega) (by omega) (by omega) (by omega)).mono ?_
    rintro e w23 ⟨u23, rfl, h23, hb23⟩
    obtain ⟨p23, q23, rfl, _, _⟩ := h23.out
    replace RL := Lib.hid ((RL.out.keep (by repeat' (first | exact Below.refl _ _ | refine balloc ?_ _ | refine below_drewN ?_ _))).keep hb23)
    replace R1 := Lib.hid ((R1.out.keep (by repeat' (first | exact Below.refl _ _ | refine balloc ?_ _ | refine below_drewN ?_ _))).keep hb23)
    replace acc := bnext (w := w) (by repeat' (first | exact acc | refine balloc ?_ _ | refine below_drewN ?_ _)) hb23
    have R2 := Lib.hid (h23)
    clear h23 hb23
    go_wp2_with fail
    refine (join_any _ _ (SP.span (F + a1) T) (SP.span F (F + a1)) _ (R1.out.keep (by repeat' (first | exact Below.refl _ _ | refine balloc ?_ _ | refine below_drewN ?_ _))).row (R2.out.keep (by repeat' (first | exact Below.refl _ _ | refine balloc ?_ _ | refine below_drewN ?_ _))).row HI1.out HI2.out).mono ?_
    rintro e w24 ⟨u24, rfl, h24, hb24⟩
    obtain ⟨p24, q24, rfl⟩ := own_shape h24
    replace RL := Lib.hid ((RL.out.keep (by repeat' (first | exact Below.refl _ _ | refine balloc ?_ _ | refine below_drewN ?_ _))).keep hb24)
    replace R1 := Lib.hid ((R1.out.keep (by repeat' (first | exact Below.refl _ _ | refine balloc ?_ _ | refine below_drewN ?_ _))).keep hb24)
    replace R2 := Lib.hid ((R2.out.keep (by repeat' (first | exact Below.refl _ _ | refine balloc ?_ _ | refine below_drewN ?_ _))).keep hb24)
    replace acc := bnext (w := w) (by repeat' (first | exact acc | refine balloc ?_ _ | refine below_drewN ?_ _)) hb24
    have R3 := Lib.hid (Own.lst h24)
    clear h24 hb24
    go_wp2_with fail
    refine (same_t _ _ (SP.join (SP.span (F + a1) T) (SP.span F (F + a1))) (SP.span F T) _ (R3.out.keep (by repeat' (first | exact Below.refl _ _ | refine balloc ?_ _ | refine below_drewN ?_ _))).row (RL.out.keep (by repeat' (first | exact Below.refl _ _ | refine balloc ?_ _ | refine below_drewN ?_ _))).row hjoin.out (by rw [hjoin.out]; have := SP.span_len F T; omega)).mono ?_
    rintro e w25 ⟨rfl, hb25⟩
    replace RL := Lib.hid ((RL.out.keep (by repeat' (first | exact Below.refl _ _ | refine balloc ?_ _ | refine below_drewN ?_ _))).keep hb25)
    replace R1 := Lib.hid ((R1.out.keep (by repeat' (first | exact Below.refl _ _ | refine balloc ?_ _ | refine below_drewN ?_ _))).keep hb25)
    replace R2 := Lib.hid ((R2.out.keep (by repeat' (first | exact Below.refl _ _ | refine balloc ?_ _ | refine below_drewN ?_ _))).keep hb25)
    replace R3 := Lib.hid ((R3.out.keep (by repeat' (first | exact Below.refl _ _ | refine balloc ?_ _ | refine below_drewN ?_ _))).keep hb25)
    replace acc := bnext (w := w) (by repeat' (first | exact acc | refine balloc ?_ _ | refine below_drewN ?_ _)) hb25
    clear hb25
    clear R1 R2 R3
    go_wp2_with fail
    refine (range_any (F + a1) T _ (by omega) (by omega) (by omega) (by omega)).mono ?_
    rintro e w26 ⟨u26, rfl, h26, hb26⟩
    obtain ⟨p26, q26, rfl, _, _⟩ := h26.out
    replace RL := Lib.hid ((RL.out.keep (by repeat' (first | exact Below.refl _ _ | refine balloc ?_ _ | refine below_drewN ?_ _))).keep hb26)
    replace acc := bnext (w := w) (by repeat' (first | exact acc | refine balloc ?_ _ | refine below_drewN ?_ _)) hb26
    have R1 := Lib.hid (h26)
    clear h26 hb26
    go_wp2_with fail
    refine (range_any F (F + a1) _ (by omega) (by omega) (by omega) (by omega)).mono ?_
    rintro e w27 ⟨u27, rfl, h27, hb27⟩
    obtain ⟨p27, q27, rfl, _, _⟩ := h27.out
    replace RL := Lib.hid ((RL.out.keep (by repeat' (first | exact Below.refl _ _ | refine balloc ?_ _ | refine below_drewN ?_ _))).keep hb27)
    replace R1 := Lib.hid ((R1.out.keep (by repeat' (first | exact Below.refl _ _ | refine balloc ?_ _ | refine below_drewN ?_ _))).keep hb27)
    replace acc := bnext (w := w) (by repeat' (first | exact acc | refine balloc ?_ _ | refine below_drewN ?_ _)) hb27
    have R2 := Lib.hid (h27)
    clear h27 hb27
    go_wp2_with fail
    refine (overlap_t _ _ (SP.span (F + a1) T) (SP.span F (F + a1)) false _ (R1.out.keep (by repeat' (first | exact Below.refl _ _ | refine balloc ?_ _ | refine below_drewN ?_ _))).row (R2.out.keep (by repeat' (first | exact Below.refl _ _ | refine balloc ?_ _ | refine below_drewN ?_ _))).row HI1.out HI2.out hover.out).mono ?_
    rintro e w28 ⟨rfl, hb28⟩
    replace RL := Lib.hid ((RL.out.keep (by repeat' (first | exact Below.refl _ _ | refine balloc ?_ _ | refine below_drewN ?_ _))).keep hb28)
    replace R1 := Lib.hid ((R1.out.keep (by repeat' (first | exact Below.refl _ _ | refine balloc ?_ _ | refine below_drewN ?_ _))).keep hb28)
    replace R2 := Lib.hid ((R2.out.keep (by repeat' (first | exact Below.refl _ _ | refine balloc ?_ _ | refine below_drewN ?_ _))).keep hb28)
    replace acc := bnext (w := w) (by repeat' (first | exact acc | refine balloc ?_ _ | refine below_drewN ?_ _)) hb28
    clear hb28
    go_wp2_with fail
    go_ret
    exact ⟨rfl, acc⟩
  · exfalso; omega

set_option maxRecDepth 100000 in
theorem lifted (os : Os) (started : os.Started) (H : Type) (enc : TypeId × Value → H) :
    ReturnsInHanded {} Try.checked os 8 .any (Rows.setsSpansSpec.pre6 enc Try.prog Try.f8 Rows.setsSpansRow.domain false) (Rows.setsSpansSpec.post enc Try.prog Try.f8 false true false false) := by
  refine returnsInHanded_of_change (C := Try.checked) own started (by kernel_rfl) Try.func8
    (ChangeSpec.witness6 (enc := enc) (C := Try.checked) false ⟨#[], #[.int .i64 0, .agg #[.int .u8 0, .int .u8 0, .int .u8 0]], []⟩ 8 (by kernel_rfl) (by kernel_rfl) (by kernel_rfl) (by kernel_rfl)) ?_
  intro W base args ds gs before hval0 hW hcnd _
  have hval : ∀ (j : Nat) t v, Try.f8.params[j]? = some t → args[j]? = some v → Value.okWide Try.prog W .any base t v := hval0
  have hW' := hW
  obtain ⟨p, q, hA0, hV, rfl, hfz, hnd⟩ := hW
  have hA : DataW.TrodAll enc Try.prog W 0 (fun _ => true) true Try.f8.params.toList args.toList ds p := hA0
  rw [Try.params8] at hA hval
  obtain ⟨v0, vs0, d0, ds0, p0, q0, hargs, rfl, rfl, h0, r0⟩ := trodAll_cons hA
  obtain ⟨v1, vs1, d1, ds1, p1, q1, rfl, rfl, rfl, h1, r1⟩ := trodAll_cons r0
  obtain ⟨rfl, rfl, rfl⟩ := trodAll_nil r1
  obtain rfl : args = #[v0, v1] := by cases args; simp_all
  obtain ⟨rfl, rfl⟩ := trodVars_none hV
  have k0 := h0
  have lt0 : ∀ x ∈ p0, x.block < W.heap.size := by obtain ⟨m, hm⟩ := k0; exact DataW.trod_lt m _ _ _ hm
  have k1 := h1
  have lt1 : ∀ x ∈ p1, x.block < W.heap.size := by obtain ⟨m, hm⟩ := k1; exact DataW.trod_lt m _ _ _ hm
  obtain ⟨a0, rfl, rfl, rfl, wa0⟩ := open_int Try.underlying3 (hval 0 3 v0 rfl rfl) h0
  obtain ⟨a1, b1, c1, rfl, wa1, wb1, wc1⟩ := open_arr3 Try.underlying35 Try.underlying5 (by kernel_rfl) (by kernel_rfl) (hval 1 35 v1 rfl rfl) h1
  clear hA0 hval0
  refine (walk a0 a1 b1 c1 wa0 wa1 wb1 wc1 W).mono fun e W' ⟨he, bel⟩ => ?_
  subst he
  exact ⟨_, rfl, _, _, _, [], _, [], hW', trodAll_mk1 (shut_bool Try.underlying4 _), (trodAll_cons_mk (Below.trod laidOut (by kernel_rfl) (of_decide_eq_true (by kernel_rfl)) k0 bel lt0) (trodAll_cons_mk (Below.trod laidOut (by kernel_rfl) (of_decide_eq_true (by kernel_rfl)) k1 bel lt1) trodAll_mk0)), rfl, bel.frame _, fun h => by cases h⟩

theorem over : Rows.setsSpansRow.holds Try.pinned (OpenSpec.ofChange Rows.setsSpansSpec) :=
  OpenClaim.holds_of_wide 8 Try.f8 rfl rfl rfl rfl rfl rfl rfl ⟨rfl, rfl, rfl, rfl, rfl⟩ rfl rfl rfl rfl rfl (by kernel_rfl) Try.func8 (by kernel_rfl)
    (of_decide_eq_true (by kernel_rfl)) (by unfold Func.isWrapper; first | (rw [if_pos (by decide +kernel)]; kernel_rfl) | (rw [if_neg (by decide +kernel)]; exact ⟨rfl, rfl⟩))
    (fun os started H enc _ => lifted os started H enc)

end Go.Proofs.Ytamhhbgakaokgaa.setsSpans
namespace Go.Proofs.Ytamhhbgakaokgaa
theorem setsSpans_proved : Rows.SetsSpansSaid := setsSpans.over
#print axioms setsSpans_proved
end Go.Proofs.Ytamhhbgakaokgaa
