/- The reference's row. No conditions. -/
import Derived.Test.YtmiennkldkcnfaaDoorPn14
namespace Go.Proofs.YtmiennkldkcnfaaDoor
set_option linter.unusedVariables false
open Go.RowKit
theorem plan_any (w : World) (t0 : Nat × Nat) (hld : Laid w t0) (va vb : Value) (A B : List Nat) (pw most : Int) (ha : UA w va A) (hb : UA w vb B) (hA : A.length ≤ 1000000) (hB : B.length ≤ 1000000) (hm2 : most ≤ 9223372036854775807) (hal : ∀ x ∈ A, x < 18446744073709551616) (hbl : ∀ x ∈ B, x < 18446744073709551616) :
    Calls Tryd.prog 22 #[va, vb, .int .i64 pw, .int .i64 most] w fun e W' => ∃ v', e = .returned v' ∧ W'.ownsRow w.heap.size 31 4 v' (planP A B pw most).length (rcs (planP A B pw most)) ∧ Below w.heap.size w W' := by
  by_cases h : planOk A B pw most
  · have e : planP A B pw most = PN.plan A B pw.toNat most.toNat := by unfold planP; rw [if_pos h]
    obtain ⟨h1, h2, h3, h4, h5⟩ := h
    rw [e]
    have := callsIn_wide.1 (plan_in 3 (Nat.le_refl _) w t0 hld va vb A B pw.toNat most.toNat ha hb (by omega) (by omega) h3 h4 (by omega) (by omega) hal hbl)
    rw [Int.toNat_of_nonneg (by omega : (0 : Int) ≤ pw), Int.toNat_of_nonneg (by omega : (0 : Int) ≤ most)] at this
    exact this
  · have e : planP A B pw most = [] := by unfold planP; rw [if_neg h]
    rw [e]
    refine (plan_none w va vb A B pw most ha hb hA hB h).mono ?_
    rintro e w' ⟨rfl, rfl⟩
    exact ⟨_, rfl, World.ownsRow_nil _ _ _ _, Below.refl _ _⟩
namespace PN
theorem ctz_is {x c m : Nat} (h : x = 2 ^ c * (2 * m + 1)) (hx : x < 2 ^ 64) : Lib.ctz 64 x = c := by
  have hp : 0 < 2 ^ c := Nat.two_pow_pos c
  have h0 : x ≠ 0 := by
    rw [h]
    exact Nat.ne_of_gt (Nat.mul_pos hp (by omega))
  have hz : Lib.ctz 64 x = Lib.ctzFrom 64 x := by unfold Lib.ctz; rw [if_neg h0]
  obtain ⟨m2, h2, -⟩ := Lib.ctzFrom_spec 64 x (by omega) hx
  rw [hz]
  obtain ⟨c2, hc2⟩ : ∃ c2, Lib.ctzFrom 64 x = c2 := ⟨_, rfl⟩
  rw [hc2] at h2 ⊢
  have key : ∀ a b p q : Nat, 2 ^ a * (2 * p + 1) = 2 ^ b * (2 * q + 1) → ¬ a < b := fun a b p q e hab => by
    rw [show b = a + (b - a - 1) + 1 by omega, Nat.pow_succ, Nat.pow_add, Nat.mul_assoc, Nat.mul_assoc] at e
    have := Nat.eq_of_mul_eq_mul_left (Nat.two_pow_pos a) e
    rw [← Nat.mul_assoc, Nat.mul_comm (2 ^ (b - a - 1)) 2, Nat.mul_assoc] at this
    omega
  have e := h.symm.trans h2
  have h3 := key _ _ _ _ e
  have h4 := key _ _ _ _ e.symm
  omega
theorem len_is {x n : Nat} (h1 : 2 ^ n ≤ x) (h2 : x < 2 ^ (n + 1)) (hx : x < 2 ^ 64) : Lib.bitLen x = n + 1 := by
  have h0 : x ≠ 0 := by have := Nat.two_pow_pos n; omega
  obtain ⟨b1, b2, b3⟩ := Lib.bitLenAux_bounds 64 x hx h0
  have e : Lib.bitLenAux 64 x = Lib.bitLen x := rfl
  rw [e] at b1 b2 b3
  have a1 := (Nat.pow_lt_pow_iff_right (a := 2) (by decide)).1 (Nat.lt_of_le_of_lt h1 b3)
  have a2 := (Nat.pow_lt_pow_iff_right (a := 2) (by decide)).1 (Nat.lt_of_le_of_lt b2 h2)
  omega
/-- A row's rectangle, or none. -/
def rowQ (y d : Nat) : Rc := if d = 0 then ⟨0, y, 0, 0⟩ else rowR y d
theorem rowQ_same {d i : Nat} (h : d.testBit i = false) : d % 2 ^ (i + 1) = d % 2 ^ i := Nat.eq_of_testBit_eq fun j => by
  rw [Nat.testBit_mod_two_pow, Nat.testBit_mod_two_pow]
  by_cases e : j = i
  · subst e
    rw [h]
    simp
  · by_cases h2 : j < i
    · simp [h2, show j < i + 1 by omega]
    · simp [h2, show ¬ j < i + 1 by omega]
theorem mod_add {d i : Nat} (h : d.testBit i = true) : d % 2 ^ (i + 1) = d % 2 ^ i + 2 ^ i := by
  have h1 := Nat.mod_pow_succ (b := 2) (x := d) (k := i)
  rw [Nat.testBit_eq_decide_div_mod_eq] at h
  rw [h1, of_decide_eq_true h]
  omega
theorem rowQ_first {y d i : Nat} (hi : i < 64) (h : d.testBit i = true) (h0 : d % 2 ^ i = 0) : rowQ y (d % 2 ^ (i + 1)) = ⟨i, y, 1, 1⟩ := by
  have e := mod_add h
  rw [h0, Nat.zero_add] at e
  have hp : 2 ^ i < 2 ^ 64 := (Nat.pow_lt_pow_iff_right (by decide)).2 hi
  rw [e]
  unfold rowQ rowR
  rw [if_neg (Nat.ne_of_gt (Nat.two_pow_pos i)), ctz_is (c := i) (m := 0) (by simp) hp, len_is (Nat.le_refl _) (by rw [Nat.pow_succ]; have := Nat.two_pow_pos i; omega) hp]
  congr 1
  omega
theorem rowQ_next {y d i : Nat} (hi : i < 64) (h : d.testBit i = true) (h0 : d % 2 ^ i ≠ 0) : rowQ y (d % 2 ^ (i + 1)) = ⟨(Lib.ctz 64 (d % 2 ^ i) : Nat), y, (i : Int) - (Lib.ctz 64 (d % 2 ^ i) : Nat) + 1, 1⟩ ∧ Lib.ctz 64 (d % 2 ^ i) < i := by
  have e := mod_add h
  have hp : 2 ^ i < 2 ^ 64 := (Nat.pow_lt_pow_iff_right (by decide)).2 hi
  have hp2 : 2 ^ (i + 1) ≤ 2 ^ 64 := Nat.pow_le_pow_right (by decide) hi
  have hlt : d % 2 ^ i < 2 ^ i := Nat.mod_lt _ (Nat.two_pow_pos i)
  rw [e]
  obtain ⟨x, hx⟩ : ∃ x, d % 2 ^ i = x := ⟨_, rfl⟩
  rw [hx] at h0 hlt ⊢
  obtain ⟨m, hm, -⟩ := Lib.ctzFrom_spec 64 x (by omega) (by omega)
  have hz : Lib.ctz 64 x = Lib.ctzFrom 64 x := by unfold Lib.ctz; rw [if_neg h0]
  rw [← hz] at hm
  obtain ⟨c, hc⟩ : ∃ c, Lib.ctz 64 x = c := ⟨_, rfl⟩
  rw [hc] at hm ⊢
  have hci : c < i := by
    have h1 : 2 ^ c * 1 ≤ x := by rw [hm]; exact Nat.mul_le_mul_left _ (by omega)
    exact (Nat.pow_lt_pow_iff_right (a := 2) (by decide)).1 (by omega)
  have h2 : x + 2 ^ i = 2 ^ c * (2 * (m + 2 ^ (i - c - 1)) + 1) := by
    have h3 : 2 ^ i = 2 ^ c * (2 * 2 ^ (i - c - 1)) := by
      rw [← Nat.pow_succ', ← Nat.pow_add]
      congr 1
      omega
    rw [h3, hm, ← Nat.mul_add]
    congr 1
    omega
  have h4 : x + 2 ^ i < 2 ^ (i + 1) := by rw [Nat.pow_succ]; omega
  refine ⟨?_, hci⟩
  unfold rowQ rowR
  rw [if_neg (by omega), ctz_is h2 (by omega), len_is (n := i) (by omega) h4 (by omega)]
  congr 1
  omega
theorem rowQ_end {y d w : Nat} (h : d < 2 ^ w) : rowQ y (d % 2 ^ w) = rowQ y d := by rw [Nat.mod_eq_of_lt h]
end PN
set_option maxRecDepth 100000
open Go.RowKit Go.Deep
theorem neq_bool (W : World) (x y : Bool) : (binOp .neq 4 (.bool x) (.bool y)).run Tryd.prog W = .ok (.bool (x != y)) W := by
  cases x <;> cases y <;> kernel_rfl
set_option maxHeartbeats 4000000 in
theorem rrow_any (W : World) (a b w y : Nat) (ha : a < 18446744073709551616) (hb : b < 18446744073709551616) (hw : w ≤ 64) (hy : y ≤ 1000000) :
    Calls Tryd.prog 44 #[U6 a, U6 b, .int .i64 (w : Int), .int .i64 (y : Int)] W fun e w' => e = .returned (rcV (PN.rowQ y ((a ^^^ b) &&& (2 ^ w - 1)))) ∧ Below W.heap.size W w' := by
  obtain ⟨d, hd⟩ : ∃ d, (a ^^^ b) &&& (2 ^ w - 1) = d := ⟨_, rfl⟩
  have HBT : Hid (∀ i, i < w → d.testBit i = (a.testBit i != b.testBit i)) := Lib.hid fun i hi => by
    rw [← hd, Nat.testBit_and, PN.msk_bit, Nat.testBit_xor, decide_eq_true hi, Bool.and_true]
  have HDL : Hid (d < 2 ^ w) := Lib.hid (by
    rw [← hd]
    have h1 : (a ^^^ b) &&& (2 ^ w - 1) ≤ 2 ^ w - 1 := Nat.and_le_right
    have h2 := @Nat.one_le_two_pow w
    omega)
  rw [hd]
  clear hd
  have hb1 := balloc (balloc (Below.refl _ W) (.cells #[.int .i64 0, .int .i64 0, .int .i64 0, .int .i64 0] 31)) (.cells #[.int .i64 0, .int .i64 (y : Int), .int .i64 0, .int .i64 0] 31)
  have hx9 := heap_alloc_new (W.alloc (.cells #[.int .i64 0, .int .i64 0, .int .i64 0, .int .i64 0] 31)) (.cells #[.int .i64 0, .int .i64 (y : Int), .int .i64 0, .int .i64 0] 31)
  have hx8 := heap_alloc_new W (.cells #[.int .i64 0, .int .i64 0, .int .i64 0, .int .i64 0] 31)
  have hs1 : (W.alloc (.cells #[.int .i64 0, .int .i64 0, .int .i64 0, .int .i64 0] 31)).heap.size = W.heap.size + 1 := by simp
  rw [hs1] at hx9
  obtain ⟨V1, hV1⟩ : ∃ V1, (W.alloc (.cells #[.int .i64 0, .int .i64 0, .int .i64 0, .int .i64 0] 31)).alloc (.cells #[.int .i64 0, .int .i64 (y : Int), .int .i64 0, .int .i64 0] 31) = V1 := ⟨_, rfl⟩
  have HX8 : Hid (V1.heap[W.heap.size]? = some (.cells #[.int .i64 0, .int .i64 0, .int .i64 0, .int .i64 0] 31 (0, 0))) := Lib.hid (by
    rw [← hV1]
    exact ((balloc (Below.refl _ _) _).block W.heap.size (by rw [hs1]; omega)).trans hx8)
  rw [hV1] at hb1 hx9
  have HX9 : Hid (V1.heap[W.heap.size + 1]? = some (.cells (rcL (PN.rowQ y (d % 2 ^ 0))).toArray 31 (0, 0))) := Lib.hid (by rw [hx9, Nat.pow_zero, Nat.mod_one]; rfl)
  have HB1 := Lib.hid hb1
  have HV1 := Lib.hid hV1
  obtain ⟨B, hB⟩ : ∃ B, W.heap.size = B := ⟨_, rfl⟩
  rw [hB] at HX8 HX9
  have HB := Lib.hid hB
  clear hb1 hx8 hx9 hs1 hV1
  go_enter Tryd.func44, Tryd.ntmps44
  go_upto_region 3 with fail
  rw [HV1.out]
  clear hB HV1
  go_loopw [10] (fun v10 wr => ∃ i : Nat, v10 = .int .i64 (i : Int) ∧ i ≤ w ∧ Hid (wr.heap[B + 1]? = some (.cells (rcL (PN.rowQ y (d % 2 ^ i))).toArray 31 (0, 0))) ∧ Hid (wr.heap[B]? = some (.cells #[.int .i64 0, .int .i64 0, .int .i64 0, .int .i64 0] 31 (0, 0))) ∧ Hid (Below W.heap.size W wr)) (fun v _ => w - (intOf v).toNat)
  case atStart => exact ⟨0, rfl, by omega, HX9, HX8, HB1⟩
  case round =>
    clear HX8 HX9 HB1
    obtain ⟨i, rfl, hi, HX9, HX8, HBW⟩ := hrel
    by_cases hiw : i < w
    · have hiz : (i : Int) < (w : Int) := by omega
      have HBA := Lib.hid fun U => bit_any U a i ha (by omega)
      have HBB := Lib.hid fun U => bit_any U b i hb (by omega)
      have HBI : Hid (d.testBit i = (a.testBit i != b.testBit i)) := Lib.hid (HBT.out i hiw)
      obtain ⟨p, hp⟩ : ∃ p, a.testBit i = p := ⟨_, rfl⟩
      obtain ⟨q, hq⟩ : ∃ q, b.testBit i = q := ⟨_, rfl⟩
      rw [hp] at HBA HBI
      rw [hq] at HBB HBI
      clear hp hq
      have hnb := neq_bool wr p q
      obtain ⟨z, hz⟩ : ∃ z, (p != q) = z := ⟨_, rfl⟩
      rw [hz] at hnb HBI
      clear hz
      cases z with
      | false =>
        have HX92 : Hid (wr.heap[B + 1]? = some (.cells (rcL (PN.rowQ y (d % 2 ^ (i + 1)))).toArray 31 (0, 0))) := Lib.hid (by rw [PN.rowQ_same HBI.out]; exact HX9.out)
        go_wp2_with fail
        go_at_call 50
        refine (HBA.out _).mono ?_
        rintro e wz ⟨rfl, he⟩
        have he' := he.symm
        subst he'
        go_wp2_with fail
        go_at_call 50
        refine (HBB.out _).mono ?_
        rintro e wz ⟨rfl, he⟩
        have he' := he.symm
        subst he'
        go_wp2
        go_roundw
        case rel => exact ⟨i + 1, by go_num, hiw, HX92, HX8, HBW⟩
        case measure => simp [intOf]; omega
      | true =>
        by_cases h0 : d % 2 ^ i = 0
        · have hx := HX9.out
          rw [h0] at hx
          have c0 : wr.cell? ⟨B + 1, 0, none⟩ = some (.int .i64 0) := nd_cell hx rfl
          have c2 : wr.cell? ⟨B + 1, 2, none⟩ = some (.int .i64 0) := nd_cell hx rfl
          have c3 : wr.cell? ⟨B + 1, 3, none⟩ = some (.int .i64 0) := nd_cell hx rfl
          have f0 := nd_froz hx 0
          have f2 := nd_froz hx 2
          have f3 := nd_froz hx 3
          have HE : Hid ((((wr.setCell ⟨B + 1, 0, none⟩ (.int .i64 (i : Int))).setCell ⟨B + 1, 3, none⟩ (.int .i64 1)).setCell ⟨B + 1, 2, none⟩ (.int .i64 1)).heap[B + 1]? = some (.cells (rcL (PN.rowQ y (d % 2 ^ (i + 1)))).toArray 31 (0, 0)) ∧ FrS (fun b => b = B + 1) wr (((wr.setCell ⟨B + 1, 0, none⟩ (.int .i64 (i : Int))).setCell ⟨B + 1, 3, none⟩ (.int .i64 1)).setCell ⟨B + 1, 2, none⟩ (.int .i64 1))) := Lib.hid (by
            rw [PN.rowQ_first (by omega) HBI.out h0]
            exact ⟨heap_setCell_same _ _ 2 _ _ _ (heap_setCell_same _ _ 3 _ _ _ (heap_setCell_same _ _ 0 _ _ _ hx)), ((FrS.set (S := fun b => b = B + 1) _ (b := B + 1) rfl _).trans (FrS.set (S := fun b => b = B + 1) _ (b := B + 1) rfl _)).trans (FrS.set (S := fun b => b = B + 1) _ (b := B + 1) rfl _)⟩)
          have hii : (i : Int) - (i : Int) + 1 = 1 := by omega
          clear hx h0
          go_wp2_with fail
          go_at_call 50
          refine (HBA.out _).mono ?_
          rintro e wz ⟨rfl, he⟩
          have he' := he.symm
          subst he'
          go_wp2_with fail
          go_at_call 50
          refine (HBB.out _).mono ?_
          rintro e wz ⟨rfl, he⟩
          have he' := he.symm
          subst he'
          go_wp2
          go_roundw
          case rel => exact ⟨i + 1, by go_num, hiw, Lib.hid HE.out.1, Lib.hid (HE.out.2.nd HX8.out (by omega)), Lib.hid (HE.out.2.below W HBW.out (fun b hb => by rw [hb, HB.out]; omega))⟩
          case measure => simp [intOf]; omega
        · have hnx := PN.rowQ_next (y := y) (by omega) HBI.out h0
          have hrq : PN.rowQ y (d % 2 ^ i) = PN.rowR y (d % 2 ^ i) := by unfold PN.rowQ; rw [if_neg h0]
          have hx := HX9.out
          rw [hrq] at hx
          unfold PN.rowR at hx
          obtain ⟨c, hc⟩ : ∃ c, Lib.ctz 64 (d % 2 ^ i) = c := ⟨_, rfl⟩
          rw [hc] at hx hnx
          have hci := hnx.2
          have c0 : wr.cell? ⟨B + 1, 0, none⟩ = some (.int .i64 (c : Int)) := nd_cell hx rfl
          have c2 : wr.cell? ⟨B + 1, 2, none⟩ = some (.int .i64 (((Lib.bitLen (d % 2 ^ i) : Nat) : Int) - (c : Int))) := nd_cell hx rfl
          have c3 : wr.cell? ⟨B + 1, 3, none⟩ = some (.int .i64 1) := nd_cell hx rfl
          have f2 := nd_froz hx 2
          have HE : Hid ((wr.setCell ⟨B + 1, 2, none⟩ (.int .i64 ((i : Int) - (c : Int) + 1))).heap[B + 1]? = some (.cells (rcL (PN.rowQ y (d % 2 ^ (i + 1)))).toArray 31 (0, 0)) ∧ FrS (fun b => b = B + 1) wr (wr.setCell ⟨B + 1, 2, none⟩ (.int .i64 ((i : Int) - (c : Int) + 1)))) := Lib.hid (by
            rw [hnx.1]
            exact ⟨heap_setCell_same _ _ 2 _ _ _ hx, FrS.set (S := fun b => b = B + 1) _ (b := B + 1) rfl _⟩)
          obtain ⟨bl, hbl⟩ : ∃ bl, ((Lib.bitLen (d % 2 ^ i) : Nat) : Int) - (c : Int) = bl := ⟨_, rfl⟩
          rw [hbl] at c2
          clear hx h0 hnx hrq hc hbl
          go_wp2_with fail
          go_at_call 50
          refine (HBA.out _).mono ?_
          rintro e wz ⟨rfl, he⟩
          have he' := he.symm
          subst he'
          go_wp2_with fail
          go_at_call 50
          refine (HBB.out _).mono ?_
          rintro e wz ⟨rfl, he⟩
          have he' := he.symm
          subst he'
          go_wp2
          go_roundw
          case rel => exact ⟨i + 1, by go_num, hiw, Lib.hid HE.out.1, Lib.hid (HE.out.2.nd HX8.out (by omega)), Lib.hid (HE.out.2.below W HBW.out (fun b hb => by rw [hb, HB.out]; omega))⟩
          case measure => simp [intOf]; omega
    · obtain rfl : i = w := by omega
      have hiz : ¬ (i : Int) < (i : Int) := by omega
      have hx := HX9.out
      rw [PN.rowQ_end HDL.out] at hx
      obtain ⟨⟨px, py, pw, ph⟩, hR⟩ : ∃ R, PN.rowQ y d = R := ⟨_, rfl⟩
      rw [hR] at hx
      have HR := Lib.hid hR
      have c0 : wr.cell? ⟨B + 1, 0, none⟩ = some (.int .i64 px) := nd_cell hx rfl
      have c1 : wr.cell? ⟨B + 1, 1, none⟩ = some (.int .i64 py) := nd_cell hx rfl
      have c2 : wr.cell? ⟨B + 1, 2, none⟩ = some (.int .i64 pw) := nd_cell hx rfl
      have c3 : wr.cell? ⟨B + 1, 3, none⟩ = some (.int .i64 ph) := nd_cell hx rfl
      have f0 := nd_froz HX8.out 0
      have f1 := nd_froz HX8.out 1
      have f2 := nd_froz HX8.out 2
      have f3 := nd_froz HX8.out 3
      have e0 : wr.cell? ⟨B, 0, none⟩ = some (.int .i64 0) := nd_cell HX8.out rfl
      have e1 : wr.cell? ⟨B, 1, none⟩ = some (.int .i64 0) := nd_cell HX8.out rfl
      have e2 : wr.cell? ⟨B, 2, none⟩ = some (.int .i64 0) := nd_cell HX8.out rfl
      have e3 : wr.cell? ⟨B, 3, none⟩ = some (.int .i64 0) := nd_cell HX8.out rfl
      obtain ⟨w5, hw5, hx5, hf5⟩ := set4 HX8.out (.int .i64 px) (.int .i64 py) (.int .i64 pw) (.int .i64 ph)
      have HX5 := Lib.hid hx5
      have HB5 : Hid (Below W.heap.size W w5) := Lib.hid (hf5.below W HBW.out (fun b hb => by rw [hb, HB.out]; omega))
      have HW5 := Lib.hid hw5
      clear hw5 hx5 hf5 hiw hx hR
      go_wp2
      try rw [HW5.out]
      refine bodyPost_ret (v := rcV ⟨px, py, pw, ph⟩) (results_cell_row Tryd.results44 _ _ B 31 _ (0, 0) _ rfl HX5.out Tryd.underlying31 rfl (by kernel_rfl)) rfl ?_
      exact ⟨by rw [HR.out], by first | exact HB5.out | (rw [← HB.out]; exact HB5.out)⟩
end Go.Proofs.YtmiennkldkcnfaaDoor

