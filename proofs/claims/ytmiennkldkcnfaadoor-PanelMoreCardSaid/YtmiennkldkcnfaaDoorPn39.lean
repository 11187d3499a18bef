/- What is left of the pixels that differ, rectangle by rectangle. No conditions. -/
import Derived.Test.YtmiennkldkcnfaaDoorPn36
namespace Go.Proofs.YtmiennkldkcnfaaDoor
set_option maxRecDepth 100000
set_option linter.unusedVariables false
open Go.ChangeShapes Go.WideShapes Go.ChangeAt Go.RowKit Go.Joins Go.Deep
/-- What is left behind some rectangles. -/
structure Cov (D : List Nat) (l : List Rc) (R : List Nat) : Prop where
  len : R.length = D.length
  lt : ∀ r ∈ R, r < 2 ^ 64
  bit : ∀ j i : Nat, (R.getD j 0).testBit i = true ↔ PN.Px D i j ∧ ¬ ∃ c ∈ l, InR c j i
/-- What is left behind some rectangles, and the first rows of one more; the columns that were seen in it. -/
structure CovI (D : List Nat) (l : List Rc) (c : Rc) (n : Nat) (R : List Nat) (all : Nat) : Prop where
  len : R.length = D.length
  lt : ∀ r ∈ R, r < 2 ^ 64
  alt : all < 2 ^ 64
  bit : ∀ j i : Nat, (R.getD j 0).testBit i = true ↔ PN.Px D i j ∧ (¬ ∃ c ∈ l, InR c j i) ∧ ¬ (c.y.toNat ≤ j ∧ j < c.y.toNat + n ∧ c.x.toNat ≤ i ∧ i < c.x.toNat + c.w.toNat)
  all : ∀ i : Nat, all.testBit i = true ↔ i < c.w.toNat ∧ ∃ j, c.y.toNat ≤ j ∧ j < c.y.toNat + n ∧ PN.Px D (c.x.toNat + i) j
theorem Cov.first {D : List Nat} {l : List Rc} {R : List Nat} (h : Cov D l R) (c : Rc) : CovI D l c 0 R 0 := by
  refine ⟨h.len, h.lt, Nat.two_pow_pos _, fun j i => ?_, fun i => ?_⟩
  · rw [h.bit]
    constructor
    · exact fun ⟨a, b⟩ => ⟨a, b, fun x => by omega⟩
    · exact fun ⟨a, b, _⟩ => ⟨a, b⟩
  · rw [Nat.zero_testBit]
    constructor
    · intro h; exact absurd h (by simp)
    · rintro ⟨-, j, h1, h2, -⟩; omega
theorem cov_zero {D : List Nat} (hD : ∀ r ∈ D, r < 2 ^ 64) : Cov D [] D := ⟨rfl, hD, fun j i => ⟨fun h => ⟨h, fun ⟨c, hc, _⟩ => by simp at hc⟩, fun h => h.1⟩⟩
theorem getD_lt' {S : List Nat} {n : Nat} (hS : ∀ r ∈ S, r < n) (h0 : 0 < n) (j : Nat) : S.getD j 0 < n := by
  rw [List.getD_eq_getElem?_getD]
  cases h : S[j]? with
  | none => exact h0
  | some y => exact hS y (List.mem_of_getElem? h)
section
variable {D R : List Nat} {l : List Rc} {c : Rc} {n a : Nat}
/-- The columns of the next row. -/
theorem CovI.row (h : CovI D l c n R a) (hn : n < c.h.toNat) (ho : ∀ c' ∈ l, 0 ≤ c'.y ∧ c'.y + c'.h ≤ c.y) (hc : wiP c 64 R.length) (i : Nat) :
    (PN.cutb (R.getD (c.y.toNat + n) 0) c.x.toNat c.w.toNat).testBit i = true ↔ i < c.w.toNat ∧ PN.Px D (c.x.toNat + i) (c.y.toNat + n) := by
  rw [PN.cut_bit, Bool.and_eq_true, decide_eq_true_eq, h.bit]
  constructor
  · exact fun ⟨q1, q2, _⟩ => ⟨q1, q2⟩
  · rintro ⟨q1, q2⟩
    refine ⟨q1, q2, ?_, by omega⟩
    rintro ⟨c', hc', g1, g2, -⟩
    have := ho c' hc'
    have := hc.2.1
    omega
theorem CovI.next (h : CovI D l c n R a) (hn : n < c.h.toNat) (ho : ∀ c' ∈ l, 0 ≤ c'.y ∧ c'.y + c'.h ≤ c.y) (hc : wiP c 64 R.length) :
    CovI D l c (n + 1) (R.set (c.y.toNat + n) (R.getD (c.y.toNat + n) 0 &&& (18446744073709551615 - PN.shl (PN.cutb (R.getD (c.y.toNat + n) 0) c.x.toNat c.w.toNat) c.x.toNat))) (a ||| PN.cutb (R.getD (c.y.toNat + n) 0) c.x.toNat c.w.toNat) := by
  have hr := h.row hn ho hc
  obtain ⟨h1, h2, h3, h4, h5, h6, h7, h8⟩ := hc
  obtain ⟨y, hy⟩ : ∃ y, c.y.toNat + n = y := ⟨_, rfl⟩
  have hyR : y < R.length := by omega
  have hlt : R.getD y 0 < 2 ^ 64 := getD_lt h.lt y
  have hcl : PN.cutb (R.getD y 0) c.x.toNat c.w.toNat < 2 ^ 64 := Nat.lt_of_lt_of_le (PN.cut_lt _ _ _) (Nat.pow_le_pow_right (by decide) (by omega))
  have hnew : ∀ i, (R.getD y 0 &&& (18446744073709551615 - PN.shl (PN.cutb (R.getD y 0) c.x.toNat c.w.toNat) c.x.toNat)).testBit i = ((R.getD y 0).testBit i && !decide (c.x.toNat ≤ i ∧ i < c.x.toNat + c.w.toNat)) := fun i => by
    rw [Nat.testBit_and, PN.not_bit _ (PN.shl_lt _ _), PN.shl_bit, PN.cut_bit]
    by_cases hi : i < 64
    · rw [decide_eq_true hi]
      by_cases hx : c.x.toNat ≤ i ∧ i < c.x.toNat + c.w.toNat
      · rw [decide_eq_true hx, decide_eq_true hx.1, decide_eq_true (show i - c.x.toNat < c.w.toNat by omega), show c.x.toNat + (i - c.x.toNat) = i by omega]
        cases (R.getD y 0).testBit i <;> rfl
      · rw [decide_eq_false hx]
        by_cases hx1 : c.x.toNat ≤ i
        · rw [decide_eq_true hx1, decide_eq_false (show ¬ i - c.x.toNat < c.w.toNat by omega)]
          simp
        · rw [decide_eq_false hx1]
          simp
    · rw [PN.bit_ge hlt (by omega)]
      rfl
  rw [hy] at hr ⊢
  refine ⟨by rw [List.length_set]; exact h.len, fun r hrm => ?_, Nat.or_lt_two_pow h.alt hcl, fun j i => ?_, fun i => ?_⟩
  · rcases List.mem_or_eq_of_mem_set hrm with q | rfl
    · exact h.lt r q
    · exact Nat.lt_of_le_of_lt Nat.and_le_left hlt
  · rw [List.getD_eq_getElem?_getD (l := R.set _ _), List.getElem?_set]
    by_cases e : y = j
    · subst e
      rw [if_pos rfl, if_pos hyR]
      show (R.getD y 0 &&& _ : Nat).testBit i = true ↔ _
      rw [hnew, Bool.and_eq_true, h.bit]
      simp only [Bool.not_eq_true', decide_eq_false_iff_not]
      constructor
      · rintro ⟨⟨q1, q2, q3⟩, q4⟩
        exact ⟨q1, q2, fun q => q4 ⟨q.2.2.1, q.2.2.2⟩⟩
      · rintro ⟨q1, q2, q3⟩
        exact ⟨⟨q1, q2, by omega⟩, fun q => q3 ⟨by omega, by omega, q.1, q.2⟩⟩
    · rw [if_neg e, ← List.getD_eq_getElem?_getD, h.bit]
      constructor
      · rintro ⟨q1, q2, q3⟩
        exact ⟨q1, q2, by omega⟩
      · rintro ⟨q1, q2, q3⟩
        exact ⟨q1, q2, by omega⟩
  · rw [Nat.testBit_or, Bool.or_eq_true, h.all, hr]
    constructor
    · rintro (⟨q1, j, q2, q3, q4⟩ | ⟨q1, q2⟩)
      · exact ⟨q1, j, q2, by omega, q4⟩
      · exact ⟨q1, y, by omega, by omega, q2⟩
    · rintro ⟨q1, j, q2, q3, q4⟩
      by_cases e : j = y
      · subst e; exact .inr ⟨q1, q4⟩
      · exact .inl ⟨q1, j, q2, by omega, q4⟩
theorem CovI.last (h : CovI D l c c.h.toNat R a) : Cov D (l ++ [c]) R := by
  refine ⟨h.len, h.lt, fun j i => ?_⟩
  rw [h.bit]
  constructor
  · rintro ⟨q1, q2, q3⟩
    refine ⟨q1, ?_⟩
    rintro ⟨c', hc', hi⟩
    rcases List.mem_append.1 hc' with q | q
    · exact q2 ⟨c', q, hi⟩
    · rw [List.mem_singleton.1 q] at hi
      exact q3 hi
  · rintro ⟨q1, q2⟩
    exact ⟨q1, fun ⟨c', hc', hi⟩ => q2 ⟨c', by simp [hc'], hi⟩, fun hi => q2 ⟨c, by simp, hi⟩⟩
theorem CovI.left (h : CovI D l c c.h.toNat R a) (ht : PN.Tight D c) : a.testBit 0 = true := by
  obtain ⟨⟨g1, g2, g3, g4⟩, -, -, ⟨y, hy, y1, y2⟩, -⟩ := ht
  exact (h.all 0).2 ⟨by omega, y, by omega, by omega, hy⟩
theorem CovI.right (h : CovI D l c c.h.toNat R a) (ht : PN.Tight D c) : a.testBit (c.w.toNat - 1) = true := by
  obtain ⟨⟨g1, g2, g3, g4⟩, -, -, -, ⟨y, hy, y1, y2⟩⟩ := ht
  refine (h.all _).2 ⟨by omega, y, by omega, by omega, ?_⟩
  rw [show c.x.toNat + (c.w.toNat - 1) = (c.x + c.w - 1).toNat by omega]
  exact hy
/-- The first and the last row have something. -/
theorem CovI.some (h : CovI D l c n R a) (hn : n < c.h.toNat) (ho : ∀ c' ∈ l, 0 ≤ c'.y ∧ c'.y + c'.h ≤ c.y) (hc : wiP c 64 R.length) (ht : PN.Tight D c) (he : n = 0 ∨ n + 1 = c.h.toNat) : PN.cutb (R.getD (c.y.toNat + n) 0) c.x.toNat c.w.toNat ≠ 0 := fun e => by
  have hr := h.row hn ho hc
  rw [e] at hr
  obtain ⟨⟨g1, g2, g3, g4⟩, ⟨x, hx, x1, x2⟩, ⟨x', hx', x1', x2'⟩, -⟩ := ht
  rcases he with e | e
  · have := (hr (x - c.x.toNat)).2 ⟨by omega, by rw [show c.x.toNat + (x - c.x.toNat) = x by omega, e, Nat.add_zero]; exact hx⟩
    rw [Nat.zero_testBit] at this
    exact absurd this (by simp)
  · have := (hr (x' - c.x.toNat)).2 ⟨by omega, by rw [show c.x.toNat + (x' - c.x.toNat) = x' by omega, show c.y.toNat + n = (c.y + c.h - 1).toNat by omega]; exact hx'⟩
    rw [Nat.zero_testBit] at this
    exact absurd this (by simp)
end
/-- Behind all rectangles nothing is left. -/
theorem cov_all {A B R : List Nat} {w m : Nat} (hw : w ≤ 64) (hl : A.length = B.length) (hA : ∀ r ∈ A, r < 2 ^ w) (hB : ∀ r ∈ B, r < 2 ^ w) (hm : 1 ≤ m) (h : Cov (PN.df A B w) (PN.plan A B w m) R) : R = List.replicate A.length 0 := by
  obtain ⟨h1, -, -, h4⟩ := plan_facts (A := A) (B := B) m hw hl hA hB hm
  have hlen : R.length = A.length := by rw [h.len, PN.df_len w hl]
  refine List.ext_getElem? fun j => ?_
  by_cases hj : j < A.length
  · rw [List.getElem?_replicate, if_pos hj, List.getElem?_eq_getElem (by omega)]
    refine congrArg Option.some (Nat.eq_of_testBit_eq fun i => ?_)
    have e2 : R.getD j 0 = R[j]'(by omega) := by rw [List.getD_eq_getElem?_getD, List.getElem?_eq_getElem (by omega)]; rfl
    rw [← e2, Nat.zero_testBit, Bool.eq_false_iff]
    intro hb
    obtain ⟨q1, q2⟩ := (h.bit j i).1 hb
    obtain ⟨c, hc, g1, g2, g3, g4⟩ := h4 i j ((df_px hl hA hB i j).1 q1)
    have hwi := (h1 c hc).1
    unfold wiP at hwi
    exact q2 ⟨c, hc, by unfold InR; omega⟩
  · rw [List.getElem?_eq_none (by omega), List.getElem?_eq_none (by simp; omega)]
end Go.Proofs.YtmiennkldkcnfaaDoor
