/- Plans of more rectangles have less to write; a plan of one pixel. No conditions. -/
import Derived.Test.YtmiennkldkcnfaaDoorPn36
namespace Go.Proofs.YtmiennkldkcnfaaDoor
set_option maxRecDepth 100000
set_option linter.unusedVariables false
open Go.ChangeShapes Go.WideShapes Go.ChangeAt Go.RowKit Go.Joins Go.Deep
namespace PN
theorem red_red {m : Nat} (h1 : 1 ≤ m) : ∀ (n : Nat) (l : List Rc), l.length ≤ n → red m (red (m + 1) l) = red m l
  | 0, l, h => by rw [red_end (most := m + 1) (by omega)]
  | n + 1, l, h => by
    by_cases hm : m + 1 < l.length
    · have hl := jn1_len (l := l) (by omega)
      rw [red_go hm (by omega), red_go (most := m) (l := l) (by omega) h1]
      exact red_red h1 n _ (by omega)
    · rw [red_end (most := m + 1) hm]
/-- How much is to be written. -/
def areas (l : List Rc) : Int := (l.map area).sum
theorem areas_app (a b : List Rc) : areas (a ++ b) = areas a + areas b := by
  unfold areas
  rw [List.map_append, List.sum_append]
theorem areas_cons (a : Rc) (b : List Rc) : areas (a :: b) = area a + areas b := by
  unfold areas
  rw [List.map_cons, List.sum_cons]
def Wid (l : List Rc) : Prop := ∀ r ∈ l, 1 ≤ r.w
theorem area_both {p q : Rc} (hp : 1 ≤ p.w) (hq : 1 ≤ q.w) (hp2 : 1 ≤ p.h) (hq2 : 1 ≤ q.h) (h : p.y + p.h ≤ q.y) : area p + area q ≤ area (both p q) := by
  unfold area both
  dsimp only
  obtain ⟨X, hX⟩ : ∃ X, max (p.x + p.w) (q.x + q.w) - min p.x q.x = X := ⟨_, rfl⟩
  obtain ⟨Y, hY⟩ : ∃ Y, max (p.y + p.h) (q.y + q.h) - min p.y q.y = Y := ⟨_, rfl⟩
  rw [hX, hY]
  have h1 : p.w ≤ X := by omega
  have h2 : q.w ≤ X := by omega
  have h3 : p.h + q.h ≤ Y := by omega
  have a1 : p.w * p.h ≤ X * p.h := Int.mul_le_mul_of_nonneg_right h1 (by omega)
  have a2 : q.w * q.h ≤ X * q.h := Int.mul_le_mul_of_nonneg_right h2 (by omega)
  have a3 : X * (p.h + q.h) ≤ X * Y := Int.mul_le_mul_of_nonneg_left h3 (by omega)
  rw [Int.mul_add] at a3
  omega
/-- Joining never lessens what is to be written. -/
theorem areas_red {m : Nat} {l : List Rc} (ho : Ord l) (hw : Wid l) : areas l ≤ areas (red m l) := by
  have h := red_ind (M := fun l' => Ord l' ∧ Wid l' ∧ areas l ≤ areas l') (fun A p q C ⟨h1, h2, h3⟩ => ?_) m l.length l (Nat.le_refl _) ⟨ho, hw, Int.le_refl _⟩
  · exact h.2.2
  · refine ⟨ord_join A p q C h1, fun r hr => ?_, ?_⟩
    · rcases List.mem_append.1 hr with hr | hr
      · exact h2 r (by simp [hr])
      · rcases List.mem_cons.1 hr with rfl | hr
        · have hp := h2 p (by simp)
          have hq := h2 q (by simp)
          unfold both
          dsimp only
          omega
        · exact h2 r (by simp [hr])
    · rw [areas_app, areas_cons, areas_cons] at h3
      rw [areas_app, areas_cons]
      have hp := h2 p (by simp)
      have hq := h2 q (by simp)
      have hp2 := (h1.2 p (by simp)).2
      have hq2 := (h1.2 q (by simp)).2
      have hpq : p.y + p.h ≤ q.y := by
        have := (List.pairwise_append.1 h1.1).2.1
        exact (List.pairwise_cons.1 this).1 q (by simp)
      have := area_both hp hq hp2 hq2 hpq
      omega
end PN
theorem plan_more {A B : List Nat} {w : Nat} (m : Nat) (hw : w ≤ 64) (hl : A.length = B.length) (hA : ∀ r ∈ A, r < 2 ^ w) (hB : ∀ r ∈ B, r < 2 ^ w) (hm : 1 ≤ m) : PN.areas (PN.plan A B w (m + 1)) ≤ PN.areas (PN.plan A B w m) := by
  obtain ⟨h1, h2, -, -⟩ := plan_facts (A := A) (B := B) (m + 1) hw hl hA hB (by omega)
  have e : PN.plan A B w m = PN.red m (PN.plan A B w (m + 1)) := (PN.red_red hm _ _ (Nat.le_refl _)).symm
  rw [e]
  exact PN.areas_red h2 fun r hr => (h1 r hr).2.1.2.2.1
theorem rect_area {A B : List Nat} {w m : Nat} (hw : w ≤ 64) (hl : A.length = B.length) (h64 : A.length ≤ 64) (hA : ∀ r ∈ A, r < 2 ^ w) (hB : ∀ r ∈ B, r < 2 ^ w) (hm : 1 ≤ m) : ∀ c ∈ PN.plan A B w m, rb c := fun c hc => by
  have h := ((plan_facts (A := A) (B := B) m hw hl hA hB hm).1 c hc).1
  unfold wiP at h
  unfold rb
  omega
theorem areas_some {l : List Rc} (h : ∀ c ∈ l, rb c) : (l.length : Int) ≤ PN.areas l ∧ PN.areas l ≤ 4096 * (l.length : Int) := by
  induction l with
  | nil => exact ⟨Int.le_refl _, Int.le_refl _⟩
  | cons a l ih =>
    have h1 := PN.area_le (h a (by simp))
    have h2 := ih fun c hc => h c (by simp [hc])
    rw [PN.areas_cons]
    simp only [List.length_cons]
    omega
/-- Nothing is to be written exactly if nothing differs. -/
theorem areas_same {A B : List Nat} {w m : Nat} (hw : w ≤ 64) (hl : A.length = B.length) (h64 : A.length ≤ 64) (hA : ∀ r ∈ A, r < 2 ^ w) (hB : ∀ r ∈ B, r < 2 ^ w) (hm : 1 ≤ m) : PN.areas (PN.plan A B w m) = 0 ↔ A = B := by
  have hs := areas_some (rect_area hw hl h64 hA hB hm)
  constructor
  · intro h
    have hn : PN.plan A B w m = [] := List.length_eq_zero_iff.1 (by omega)
    have := plan_brings m hw hl hA hB hm
    rw [hn] at this
    exact this
  · rintro rfl
    obtain ⟨h1, -, -, -⟩ := plan_facts (A := A) (B := A) m hw hl hA hA hm
    have hn : PN.plan A A w m = [] := by
      match hp : PN.plan A A w m with
      | [] => rfl
      | c :: l =>
        obtain ⟨-, -, ⟨x, hx, -⟩, -⟩ := h1 c (by rw [hp]; simp)
        exact absurd rfl ((df_px rfl hA hA _ _).1 hx)
    rw [hn]
    rfl
/-- Of one pixel. -/
theorem plan_pixel {A : List Nat} {w i k : Nat} (hw : w ≤ 64) (hA : ∀ r ∈ A, r < 2 ^ w) (hi : i < w) (hk : k < A.length) : (∀ r ∈ A.set k (A.getD k 0 ^^^ 2 ^ i), r < 2 ^ w) ∧ PN.plan A (A.set k (A.getD k 0 ^^^ 2 ^ i)) w 1 = [⟨i, k, 1, 1⟩] := by
  have hB : ∀ r ∈ A.set k (A.getD k 0 ^^^ 2 ^ i), r < 2 ^ w := fun r hr => by
    rcases List.mem_or_eq_of_mem_set hr with h | rfl
    · exact hA r h
    · exact Nat.xor_lt_two_pow (getD_lt hA k) (Nat.pow_lt_pow_right (by decide) hi)
  refine ⟨hB, ?_⟩
  obtain ⟨B, hBe⟩ : ∃ B, A.set k (A.getD k 0 ^^^ 2 ^ i) = B := ⟨_, rfl⟩
  have hl : A.length = B.length := by rw [← hBe, List.length_set]
  rw [hBe] at hB ⊢
  have hd : ∀ x y : Nat, PN.Px (PN.df A B w) x y ↔ x = i ∧ y = k := fun x y => by
    rw [df_px hl hA hB, ← hBe]
    rw [List.getD_eq_getElem?_getD (l := A.set _ _), List.getElem?_set]
    by_cases hy : k = y
    · subst hy
      rw [if_pos rfl, if_pos hk]
      show (A.getD k 0).testBit x ≠ (A.getD k 0 ^^^ 2 ^ i).testBit x ↔ _
      rw [Nat.testBit_xor, Nat.testBit_two_pow]
      by_cases hx : x = i
      · subst hx
        simp
      · rw [decide_eq_false (show ¬ i = x from fun e => hx e.symm)]
        simp [hx]
    · rw [if_neg hy, ← List.getD_eq_getElem?_getD]
      simp
      intro _ e
      exact absurd e.symm hy
  obtain ⟨h1, h2, h3, h4⟩ := plan_facts (A := A) (B := B) 1 hw hl hA hB (Nat.le_refl _)
  obtain ⟨c, hc, -⟩ := h4 i k ((df_px hl hA hB i k).1 ((hd i k).2 ⟨rfl, rfl⟩))
  have hp : PN.plan A B w 1 = [c] := by
    match hq : PN.plan A B w 1, h3 with
    | [], _ => rw [hq] at hc; simp at hc
    | [d], _ => rw [hq] at hc; rw [List.mem_singleton.1 hc]
    | _ :: _ :: _, h => simp at h
  rw [hp]
  obtain ⟨-, ⟨g1, g2, g3, g4⟩, ⟨x1, q1, -⟩, ⟨x2, q2, -⟩, ⟨y1, q3, -⟩, ⟨y2, q4, -⟩⟩ := h1 c hc
  have r1 := (hd _ _).1 q1
  have r2 := (hd _ _).1 q2
  have r3 := (hd _ _).1 q3
  have r4 := (hd _ _).1 q4
  obtain ⟨cx, cy, cw, ch⟩ := c
  dsimp only at *
  have e1 : cx = i := by omega
  have e2 : cy = k := by omega
  have e3 : cw = 1 := by omega
  have e4 : ch = 1 := by omega
  rw [e1, e2, e3, e4]
end Go.Proofs.YtmiennkldkcnfaaDoor
