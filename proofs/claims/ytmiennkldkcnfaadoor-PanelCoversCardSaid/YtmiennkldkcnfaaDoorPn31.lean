/- Each pixel that differs lies in a rectangle of the rows; each rectangle is tight. No conditions. -/
import Derived.Test.YtmiennkldkcnfaaDoorPn30
namespace Go.Proofs.YtmiennkldkcnfaaDoor.PN
set_option linter.unusedVariables false
theorem row_bits {d : Nat} (h0 : d ≠ 0) (hd : d < 2 ^ 64) : d.testBit (Lib.ctz 64 d) = true ∧ d.testBit (Lib.bitLen d - 1) = true ∧ 1 ≤ Lib.bitLen d ∧ ∀ i, d.testBit i = true → Lib.ctz 64 d ≤ i ∧ i < Lib.bitLen d := by
  obtain ⟨b1, b2, b3⟩ := Lib.bitLenAux_bounds 64 d hd h0
  have e : Lib.bitLenAux 64 d = Lib.bitLen d := rfl
  rw [e] at b1 b2 b3
  obtain ⟨m, hm, hc⟩ := Lib.ctzFrom_spec 64 d (by omega) hd
  have hcz : Lib.ctz 64 d = Lib.ctzFrom 64 d := by unfold Lib.ctz; rw [if_neg h0]
  rw [hcz]
  refine ⟨?_, ?_, b1, fun i hi => ⟨?_, ?_⟩⟩
  · rw [Nat.testBit_eq_decide_div_mod_eq]
    have : d / 2 ^ Lib.ctzFrom 64 d = 2 * m + 1 := by
      conv => lhs; lhs; rw [hm]
      exact Nat.mul_div_cancel_left _ (Nat.two_pow_pos _)
    rw [this]
    exact decide_eq_true (by omega)
  · exact Nat.testBit_of_two_pow_le_and_two_pow_add_one_gt b2 (by rw [Nat.sub_add_cancel b1]; exact b3)
  · refine Nat.le_of_not_lt fun hlt => ?_
    have : d.testBit i = false := by
      rw [hm, Nat.testBit_two_pow_mul]
      simp
      omega
    rw [this] at hi
    exact absurd hi (by simp)
  · refine Nat.lt_of_not_le fun hle => ?_
    rw [Nat.testBit_lt_two_pow (Nat.lt_of_lt_of_le b3 (Nat.pow_le_pow_right (by decide) hle))] at hi
    exact absurd hi (by simp)
/-- A pixel that differs. -/
def Px (D : List Nat) (x y : Nat) : Prop := (D.getD y 0).testBit x = true
theorem pl_has (D : List Nat) (hD : ∀ r ∈ D, r < 2 ^ 64) (n : Nat) : ∀ x y, y < n → Px D x y → Has (pl D n).1 x y := by
  refine pl_ind (D := D) (M := fun k l => ∀ x y, y < k → Px D x y → Has l x y) (fun x y h => by omega) (fun k A p q C h x y hy hp => has_join A p q C x y (h x y hy hp)) (fun k l hz h x y hy hp => ?_) (fun k l hz h x y hy hp => ?_) n
  · by_cases e : y = k
    · subst e
      unfold Px at hp
      rw [hz] at hp
      simp at hp
    · exact h x y (by omega) hp
  · by_cases e : y = k
    · subst e
      have hd : D.getD y 0 < 2 ^ 64 := by
        rw [List.getD_eq_getElem?_getD]
        cases hh : D[y]? with
        | none => exact Nat.two_pow_pos _
        | some r => exact hD r (List.mem_of_getElem? hh)
      obtain ⟨-, -, -, hr⟩ := row_bits hz hd
      have := hr x hp
      refine ⟨rowR y (D.getD y 0), by simp, ?_⟩
      unfold rowR
      dsimp only
      omega
    · obtain ⟨r, hr, hx⟩ := h x y (by omega) hp
      exact ⟨r, by simp [hr], hx⟩
/-- It has a pixel that differs in its first and last row, and in its first and last column. -/
def Tight (D : List Nat) (r : Rc) : Prop := (0 ≤ r.x ∧ 0 ≤ r.y ∧ 1 ≤ r.w ∧ 1 ≤ r.h) ∧ (∃ x : Nat, Px D x r.y.toNat ∧ r.x ≤ x ∧ x < r.x + r.w) ∧ (∃ x : Nat, Px D x (r.y + r.h - 1).toNat ∧ r.x ≤ x ∧ x < r.x + r.w) ∧ (∃ y : Nat, Px D r.x.toNat y ∧ r.y ≤ y ∧ y < r.y + r.h) ∧ (∃ y : Nat, Px D (r.x + r.w - 1).toNat y ∧ r.y ≤ y ∧ y < r.y + r.h)
theorem tight_both {D : List Nat} {p q : Rc} (hp : Tight D p) (hq : Tight D q) : Tight D (both p q) := by
  obtain ⟨hp0, ⟨a1, hp1, a2⟩, ⟨b1, hp2, b2⟩, ⟨c1, hp3, c2⟩, ⟨d1, hp4, d2⟩⟩ := hp
  obtain ⟨hq0, ⟨e1, hq1, e2⟩, ⟨f1, hq2, f2⟩, ⟨g1, hq3, g2⟩, ⟨i1, hq4, i2⟩⟩ := hq
  unfold Tight both
  dsimp only
  refine ⟨by omega, ?_, ?_, ?_, ?_⟩
  · by_cases h : p.y ≤ q.y
    · exact ⟨a1, by rw [Int.min_eq_left h]; exact hp1, by omega, by omega⟩
    · exact ⟨e1, by rw [Int.min_eq_right (by omega)]; exact hq1, by omega, by omega⟩
  · by_cases h : p.y + p.h ≤ q.y + q.h
    · exact ⟨f1, by rw [show min p.y q.y + (max (p.y + p.h) (q.y + q.h) - min p.y q.y) - 1 = q.y + q.h - 1 by omega]; exact hq2, by omega, by omega⟩
    · exact ⟨b1, by rw [show min p.y q.y + (max (p.y + p.h) (q.y + q.h) - min p.y q.y) - 1 = p.y + p.h - 1 by omega]; exact hp2, by omega, by omega⟩
  · by_cases h : p.x ≤ q.x
    · exact ⟨c1, by rw [Int.min_eq_left h]; exact hp3, by omega, by omega⟩
    · exact ⟨g1, by rw [Int.min_eq_right (by omega)]; exact hq3, by omega, by omega⟩
  · by_cases h : p.x + p.w ≤ q.x + q.w
    · exact ⟨i1, by rw [show min p.x q.x + (max (p.x + p.w) (q.x + q.w) - min p.x q.x) - 1 = q.x + q.w - 1 by omega]; exact hq4, by omega, by omega⟩
    · exact ⟨d1, by rw [show min p.x q.x + (max (p.x + p.w) (q.x + q.w) - min p.x q.x) - 1 = p.x + p.w - 1 by omega]; exact hp4, by omega, by omega⟩
theorem tight_join {D : List Nat} (A : List Rc) (p q : Rc) (C : List Rc) (h : ∀ r ∈ A ++ p :: q :: C, Tight D r) : ∀ r ∈ A ++ both p q :: C, Tight D r := fun r hr => by
  rcases List.mem_append.1 hr with hr | hr
  · exact h r (by simp [hr])
  · rcases List.mem_cons.1 hr with rfl | hr
    · exact tight_both (h p (by simp)) (h q (by simp))
    · exact h r (by simp [hr])
theorem red_tight {D : List Nat} {most : Nat} {l : List Rc} (h : ∀ r ∈ l, Tight D r) : ∀ r ∈ red most l, Tight D r := red_ind (M := fun l => ∀ r ∈ l, Tight D r) tight_join most l.length l (Nat.le_refl _) h
theorem row_tight {D : List Nat} {k : Nat} (h0 : D.getD k 0 ≠ 0) (hd : D.getD k 0 < 2 ^ 64) : Tight D (rowR k (D.getD k 0)) := by
  obtain ⟨r1, r2, r3, r4⟩ := row_bits h0 hd
  have r5 := r4 _ r1
  have r6 := r4 _ r2
  unfold Tight rowR
  dsimp only
  refine ⟨by omega, ⟨_, by rw [Int.toNat_natCast]; exact r1, by omega, by omega⟩, ⟨_, by rw [show ((k : Int) + 1 - 1).toNat = k by omega]; exact r1, by omega, by omega⟩, ⟨k, by rw [Int.toNat_natCast]; exact r1, by omega, by omega⟩, ⟨k, ?_, by omega, by omega⟩⟩
  rw [show (((Lib.ctz 64 (D.getD k 0) : Nat) : Int) + (((Lib.bitLen (D.getD k 0) : Nat) : Int) - (Lib.ctz 64 (D.getD k 0) : Nat)) - 1).toNat = Lib.bitLen (D.getD k 0) - 1 by omega]
  exact r2
theorem pl_tight (D : List Nat) (hD : ∀ r ∈ D, r < 2 ^ 64) (n : Nat) : ∀ r ∈ (pl D n).1, Tight D r := by
  refine pl_ind (D := D) (M := fun _ l => ∀ r ∈ l, Tight D r) (fun r h => by simp at h) (fun k A p q C h => tight_join A p q C h) (fun k l _ h => h) (fun k l hz h r hr => ?_) n
  rcases List.mem_append.1 hr with hr | hr
  · exact h r hr
  · rw [List.mem_singleton.1 hr]
    refine row_tight hz ?_
    rw [List.getD_eq_getElem?_getD]
    cases hh : D[k]? with
    | none => exact Nat.two_pow_pos _
    | some y => exact hD y (List.mem_of_getElem? hh)
end Go.Proofs.YtmiennkldkcnfaaDoor.PN
