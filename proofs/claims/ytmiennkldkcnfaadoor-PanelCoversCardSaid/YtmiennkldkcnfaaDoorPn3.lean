/- The panel's closures and the search over rows; its power. No conditions. -/
import Derived.Test.YtmiennkldkcnfaaDoorPn2
namespace Go.Proofs.YtmiennkldkcnfaaDoor.PN
theorem high_zero {r n : Nat} (hr : r < 2 ^ 64) (hn : n ≤ 64) : (r &&& (18446744073709551615 - (2 ^ n - 1)) = 0) ↔ r < 2 ^ n := by
  have hp : 2 ^ n ≤ 2 ^ 64 := Nat.pow_le_pow_right (by decide) hn
  have hp1 : 1 ≤ 2 ^ n := Nat.one_le_two_pow
  have hb : ∀ i, (r &&& (18446744073709551615 - (2 ^ n - 1))).testBit i = (r.testBit i && !decide (i < n)) := fun i => by
    rw [Nat.testBit_and, not_bit i (by omega), msk_bit]
    by_cases h : i < 64
    · simp [h]
    · rw [bit_ge hr (by omega)]
      simp
  constructor
  · intro h
    refine lt_of_bits fun i hi => ?_
    have := hb i
    rw [h, Nat.zero_testBit] at this
    have h2 : decide (i < n) = false := decide_eq_false (by omega)
    rw [h2] at this
    simpa using this.symm
  · intro h
    refine Nat.eq_of_testBit_eq fun i => ?_
    rw [hb, Nat.zero_testBit]
    by_cases h2 : i < n
    · simp [h2]
    · rw [bit_ge h (by omega)]
      rfl
end Go.Proofs.YtmiennkldkcnfaaDoor.PN
namespace Go.Proofs.YtmiennkldkcnfaaDoor
set_option maxRecDepth 100000
set_option linter.unusedVariables false
open Go.RowKit Go.Deep
def anyW (n : Nat) (L : List Nat) : Bool := L.any fun r => decide (2 ^ n ≤ r)
theorem wide_any (W : World) (r X n : Nat) (hr : r < 18446744073709551616) (hn : n ≤ 64) (c2 : W.cell? ⟨X, 2, none⟩ = some (.int .i64 (n : Int))) :
    Calls Tryd.prog 51 #[U6 r, .pointer (some ⟨X, 0, none⟩)] W fun e w' => e = .returned (.bool (decide (2 ^ n ≤ r))) ∧ w' = W := by
  have hp : 2 ^ n ≤ 2 ^ 64 := Nat.pow_le_pow_right (by decide) hn
  have hp1 : 1 ≤ 2 ^ n := Nat.one_le_two_pow
  have hb := u64_andNot_nat r (2 ^ n - 1) hr (by omega)
  have hz := PN.high_zero hr hn
  have HM := Lib.hid (mask_any W n hn)
  obtain ⟨m, hm⟩ : ∃ m, 2 ^ n - 1 = m := ⟨_, rfl⟩
  rw [hm] at hb hz HM
  obtain ⟨q, hq⟩ : ∃ q, (r &&& (18446744073709551615 - m)) = q := ⟨_, rfl⟩
  rw [hq] at hb hz
  obtain ⟨B, hB⟩ : ∃ B, decide (2 ^ n ≤ r) = B := ⟨_, rfl⟩
  have HB : Hid (B = !decide (q = 0)) := Lib.hid (by rw [← hB, Bool.eq_iff_iff, Bool.not_eq_true', decide_eq_false_iff_not, hz, decide_eq_true_eq]; omega)
  rw [hB]
  clear hz hm hq hB hp hp1
  go_enter Tryd.func51, Tryd.ntmps51
  go_wp2_with fail
  go_at_call 48
  refine HM.out.mono ?_
  rintro e wz ⟨rfl, he⟩
  have he' := he.symm
  subst he'
  go_wp2
  go_ret
  refine ⟨retb ?_, rfl⟩
  rw [HB.out, Bool.eq_iff_iff]
  simp
theorem index_any (W : World) (X n : Nat) (hn : n ≤ 64) (c2 : W.cell? ⟨X, 2, none⟩ = some (.int .i64 (n : Int))) (v : Value) (L : List Nat) (hL : UA W v L) (hl : L.length ≤ 1000000) (hr : ∀ r ∈ L, r < 18446744073709551616) :
    Calls Tryd.prog 62 #[v, .func (.func 51) #[] #[.pointer (some ⟨X, 0, none⟩)]] W fun e w' => (∃ i : Int, e = .returned (.int .i64 i) ∧ decide (0 ≤ i) = anyW n L) ∧ w' = W := by
  obtain ⟨a, c, rfl⟩ := hL.shape
  have HL := Lib.hid hL
  have HR := Lib.hid hr
  obtain ⟨N, hN⟩ : ∃ N, L.length = N := ⟨_, rfl⟩
  have HN := Lib.hid hN
  rw [hN] at HL hl ⊢
  clear hL hr hN
  have hC : Hid (∀ r, r < 18446744073709551616 → Calls Tryd.prog 51 #[U6 r, .pointer (some ⟨X, 0, none⟩)] W fun e w' => e = .returned (.bool (decide (2 ^ n ≤ r))) ∧ w' = W) := Lib.hid fun r h => wide_any W r X n h hn c2
  clear c2
  go_enter Tryd.func62, Tryd.ntmps62
  go_upto_region 2 with fail
  go_loopw [8] (fun v8 wr => wr = W ∧ ∃ k : Nat, v8 = .int .i64 (k : Int) ∧ k ≤ N ∧ Hid (∀ j x, j < k → L[j]? = some x → x < 2 ^ n)) (fun v _ => N - (intOf v).toNat)
  case atStart => exact ⟨by trivial, 0, rfl, by omega, Lib.hid fun j x h => by omega⟩
  case round =>
    obtain ⟨rfl, k, rfl, hk, HJ⟩ := hrel
    by_cases hkn : k < N
    · have hkz : (k : Int) < (N : Int) := by omega
      have hk0 : (0 : Int) ≤ (k : Int) := by omega
      obtain ⟨x, hx⟩ : ∃ x, L[k]? = some x := ⟨_, List.getElem?_eq_getElem (by rw [HN.out]; exact hkn)⟩
      obtain ⟨g, o, rfl, hg, hcell⟩ := HL.out.cell hx
      have HX := Lib.hid hx
      have hxl := HR.out x (List.mem_of_getElem? hx)
      have HCX := Lib.hid (hC.out x hxl)
      clear hx
      go_wp2_with fail
      go_at_call 51
      refine HCX.out.mono ?_
      rintro e wz ⟨rfl, he⟩
      have he' := he.symm
      subst he'
      by_cases hb : 2 ^ n ≤ x
      · have hd : decide (2 ^ n ≤ x) = true := decide_eq_true hb
        have HA : Hid (decide ((0 : Int) ≤ (k : Int)) = anyW n L) := Lib.hid (by rw [decide_eq_true hk0]; exact (List.any_eq_true.2 ⟨x, List.mem_of_getElem? HX.out, hd⟩).symm)
        rw [hd]
        go_wp2
        go_ret
        exact ⟨⟨_, rfl, HA.out⟩, rfl⟩
      · have hd : decide (2 ^ n ≤ x) = false := decide_eq_false hb
        have HJ2 : Hid (∀ j x, j < k + 1 → L[j]? = some x → x < 2 ^ n) := Lib.hid fun j y hj hy => by
          by_cases e : j = k
          · subst e
            obtain rfl := Option.some.inj (hy.symm.trans HX.out)
            omega
          · exact HJ.out j y (by omega) hy
        rw [hd]
        clear hb hd
        go_wp2
        go_roundw
        case rel => exact ⟨by trivial, k + 1, by go_num, hkn, HJ2⟩
        case measure => simp [intOf]; omega
    · have hkz : ¬ (k : Int) < (N : Int) := by omega
      have HA : Hid (decide ((0 : Int) ≤ -1) = anyW n L) := Lib.hid (by
        rw [decide_eq_false (by omega)]
        refine (List.any_eq_false.2 fun x hx => ?_).symm
        obtain ⟨j, hj⟩ := List.getElem?_of_mem hx
        have hjl := (List.getElem?_eq_some_iff.1 hj).1
        rw [HN.out] at hjl
        have := HJ.out j x (by omega) hj
        simp
        omega)
      clear hkn
      go_wp2
      go_ret
      exact ⟨⟨_, rfl, HA.out⟩, rfl⟩
theorem contains_any (W : World) (X n : Nat) (hn : n ≤ 64) (c2 : W.cell? ⟨X, 2, none⟩ = some (.int .i64 (n : Int))) (v : Value) (L : List Nat) (hL : UA W v L) (hl : L.length ≤ 1000000) (hr : ∀ r ∈ L, r < 18446744073709551616) :
    Calls Tryd.prog 52 #[v, .func (.func 51) #[] #[.pointer (some ⟨X, 0, none⟩)]] W fun e w' => e = .returned (.bool (anyW n L)) ∧ w' = W := by
  have HI := Lib.hid (index_any W X n hn c2 v L hL hl hr)
  obtain ⟨a, c, rfl⟩ := hL.shape
  clear hL hr c2
  go_enter Tryd.func52, Tryd.ntmps52
  go_wp2_with fail
  go_at_call 62
  refine HI.out.mono ?_
  rintro e wz ⟨⟨i, rfl, hi⟩, he⟩
  have he' := he.symm
  subst he'
  have HII := Lib.hid hi
  clear hi
  go_wp2
  go_ret
  exact ⟨retb HII.out, rfl⟩
/-- A panel: its width, its rows, its updates, whether its power fails, and how many rows are left. -/
structure Pn where
  w : Nat
  R : List Nat
  upd : Nat
  fa : Bool
  left : Nat
structure PnAt (V : World) (b g : Nat) (P : Pn) : Prop where
  hd : V.heap[b]? = some (.cells #[.int .i64 (P.w : Int), .slice (some ⟨g, 0, none⟩) P.R.length P.R.length, .int .i64 (P.upd : Int), .bool P.fa, .int .i64 (P.left : Int)] 70 (0, 0))
  row : V.heap[g]? = some (.cells (P.R.map U6).toArray 63 (0, 0))
  ne : b ≠ g
structure PnOk (P : Pn) : Prop where
  w1 : 1 ≤ P.w
  w64 : P.w ≤ 64
  h1 : 1 ≤ P.R.length
  h64 : P.R.length ≤ 64
  bits : ∀ r ∈ P.R, r < 2 ^ P.w
  upd : P.upd ≤ 1000000
  left : P.left ≤ 9223372036854775807
abbrev FP (b g : Nat) : Nat → Prop := fun q => q = b ∨ q = g
section
variable {V V' : World} {b g : Nat} {P : Pn}
theorem PnAt.below (h : PnAt V b g P) (hb : Below V.heap.size V V') : PnAt V' b g P := ⟨(hb.block b (Array.getElem?_eq_some_iff.1 h.hd).1).trans h.hd, (hb.block g (Array.getElem?_eq_some_iff.1 h.row).1).trans h.row, h.ne⟩
theorem PnAt.frame {S : Nat → Prop} (h : PnAt V b g P) (hf : FrS S V V') (h1 : ¬ S b) (h2 : ¬ S g) : PnAt V' b g P := ⟨hf.nd h.hd h1, hf.nd h.row h2, h.ne⟩
theorem PnAt.cell (h : PnAt V b g P) {k x : Nat} (hk : P.R[k]? = some x) : V.cell? ⟨g, k, none⟩ = some (U6 x) := nd_cell h.row (by simp [hk])
theorem isZero_no (h : PnAt V b g P) (ho : PnOk P) : Calls Tryd.prog 37 #[.pointer (some ⟨b, 0, none⟩)] V fun e w' => e = .returned (.bool false) ∧ w' = V := by
  have c1 : V.cell? ⟨b, 1, none⟩ = some (.slice (some ⟨g, 0, none⟩) P.R.length P.R.length) := nd_cell h.hd rfl
  have h1 := ho.h1
  obtain ⟨n, hn⟩ : ∃ n, P.R.length = n := ⟨_, rfl⟩
  rw [hn] at c1 h1
  have hnz : ((n : Int) == 0) = false := by simp; omega
  clear hn h ho
  go_enter Tryd.func37, Tryd.ntmps37
  go_wp2
  go_ret
  exact ⟨rfl, rfl⟩
theorem hasPower_on (h : PnAt V b g P) (hf : P.fa = false) : Calls Tryd.prog 54 #[.pointer (some ⟨b, 0, none⟩)] V fun e w' => e = .returned (.bool true) ∧ w' = V := by
  have c3 : V.cell? ⟨b, 3, none⟩ = some (.bool P.fa) := nd_cell h.hd rfl
  rw [hf] at c3
  clear h
  go_enter Tryd.func54, Tryd.ntmps54
  go_wp2
  go_ret
  exact ⟨rfl, rfl⟩
theorem hasPower_off (h : PnAt V b g P) (hf : P.fa = true) (h0 : P.left = 0) : Calls Tryd.prog 54 #[.pointer (some ⟨b, 0, none⟩)] V fun e w' => e = .returned (.bool false) ∧ w' = V := by
  have c3 : V.cell? ⟨b, 3, none⟩ = some (.bool P.fa) := nd_cell h.hd rfl
  have c4 : V.cell? ⟨b, 4, none⟩ = some (.int .i64 (P.left : Int)) := nd_cell h.hd rfl
  rw [hf] at c3
  rw [h0] at c4
  clear h
  go_enter Tryd.func54, Tryd.ntmps54
  go_wp2
  go_ret
  exact ⟨rfl, rfl⟩
theorem hasPower_left (h : PnAt V b g P) (hf : P.fa = true) (n : Nat) (h0 : P.left = n + 1) (hn : n < 9223372036854775807) : Calls Tryd.prog 54 #[.pointer (some ⟨b, 0, none⟩)] V fun e w' => e = .returned (.bool true) ∧ PnAt w' b g { P with left := n } ∧ FrS (FP b g) V w' := by
  have c3 : V.cell? ⟨b, 3, none⟩ = some (.bool P.fa) := nd_cell h.hd rfl
  have c4 : V.cell? ⟨b, 4, none⟩ = some (.int .i64 (P.left : Int)) := nd_cell h.hd rfl
  have f4 := nd_froz h.hd 4
  rw [hf] at c3
  rw [h0] at c4
  have hz : (((n + 1 : Nat) : Int) == 0) = false := by simp; omega
  have HE : Hid (PnAt (V.setCell ⟨b, 4, none⟩ (.int .i64 (n : Int))) b g { P with left := n } ∧ FrS (FP b g) V (V.setCell ⟨b, 4, none⟩ (.int .i64 (n : Int)))) := Lib.hid ⟨⟨by rw [heap_setCell_same _ b 4 _ _ _ h.hd]; rfl, by rw [Below.heap_setCell V ⟨b, 4, none⟩ _ g (fun e => h.ne e.symm)]; exact h.row, h.ne⟩, FrS.set V (.inl rfl) _⟩
  have hsub : ((n + 1 : Nat) : Int) - 1 = (n : Int) := by omega
  clear h h0
  go_enter Tryd.func54, Tryd.ntmps54
  go_wp2
  go_ret
  exact ⟨rfl, HE.out⟩
end
end Go.Proofs.YtmiennkldkcnfaaDoor
