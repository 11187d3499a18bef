/- Products of strengths: plain. No conditions. -/
import Derived.Test.YtanppbdlcinpfaaAx19
set_option linter.unusedSimpArgs false
namespace Go.Proofs.Ytanppbdlcinpfaa.AX
set_option linter.unusedVariables false
theorem times_F {an ad bn bd : Int} (ha : F.FP.rgt an ad) (hb : F.FP.rgt bn bd) (hc : ad * bd ≤ 262144) : ∃ p : Int × Int, F.FP.timesS an ad bn bd = (p, true) ∧ F.FP.rgt p.1 p.2 ∧ p.2 ≤ ad * bd ∧ p.1 * (ad * bd) = p.2 * (an * bn) ∧ (0 < p.1 ↔ 0 < an ∧ 0 < bn) := by
  obtain ⟨a1, a2, a3, a4, a5⟩ := ha
  obtain ⟨b1, b2, b3, b4, b5⟩ := hb
  have hn : 0 ≤ an * bn := Int.mul_nonneg a3 b3
  have hd : 1 ≤ ad * bd := by have := Int.mul_le_mul a1 b1 (by omega) (by omega); omega
  have hnd : an * bn ≤ ad * bd := Int.mul_le_mul a4 b4 b3 (by omega)
  obtain ⟨g1, g2, g3, g4, g5, g6, g7, g8, g9, g10⟩ := F.FP.gc_parts (an * bn) (ad * bd) hn hnd hd
  refine ⟨_, if_pos ⟨⟨⟨a1, a2, a3, a4, a5⟩, ⟨b1, b2, b3, b4, b5⟩⟩, by omega⟩, ⟨g5, by omega, g3, g4, g7⟩, g6, ?_, ?_⟩
  · show an * bn / _ * (ad * bd) = ad * bd / _ * (an * bn)
    generalize F.FP.gc (an * bn) (ad * bd) = g at *
    generalize an * bn / g = u at *
    generalize ad * bd / g = v at *
    rw [← g9, ← g10, ← Int.mul_assoc, ← Int.mul_assoc, Int.mul_comm u v]
  · show 0 < an * bn / _ ↔ _
    constructor
    · intro h
      have h1 : 0 < an * bn := by
        rw [← g9]
        exact Int.mul_pos h (by omega)
      constructor
      · rcases Int.lt_or_eq_of_le a3 with h2 | h2
        · exact h2
        · rw [← h2, Int.zero_mul] at h1
          omega
      · rcases Int.lt_or_eq_of_le b3 with h2 | h2
        · exact h2
        · rw [← h2, Int.mul_zero] at h1
          omega
    · rintro ⟨h1, h2⟩
      have h3 : 0 < an * bn := Int.mul_pos h1 h2
      rcases Int.lt_or_eq_of_le g3 with h4 | h4
      · exact h4
      · rw [← h4, Int.zero_mul] at g9
        omega
theorem fr_rgt {a b : Int} (h0 : 0 ≤ a) (h1 : a ≤ b) (h2 : 1 ≤ b) (h3 : b ≤ 64) : F.FP.rgt (fr a b).1 (fr a b).2 ∧ (fr a b).2 ≤ 64 := by
  obtain ⟨g1, g2, g3, g4, g5, g6, g7, g8, g9, g10⟩ := F.FP.gc_parts a b h0 h1 h2
  exact ⟨⟨g5, by show b / _ ≤ _; omega, g3, g4, g7⟩, by show b / _ ≤ _; omega⟩
theorem str_rgt {t : Tn} {n : Int} (ht : tent t = true) (hn : coord n = true) : F.FP.rgt (strength t n).1 (strength t n).2 ∧ (strength t n).2 ≤ 64 := by
  rw [tent_iff] at ht
  unfold strength
  have r1 : F.FP.rgt 1 1 := by constructor <;> first | decide | omega | (unfold F.FP.gc; decide)
  have r0 : F.FP.rgt 0 1 := by constructor <;> first | decide | omega | (unfold F.FP.gc; decide)
  by_cases h1 : t.2.1 = 0 ∨ n = t.2.1
  · rw [if_pos h1]
    exact ⟨r1, by decide⟩
  · rw [if_neg h1]
    by_cases h2 : n ≤ t.1 ∨ t.2.2 ≤ n
    · rw [if_pos h2]
      exact ⟨r0, by decide⟩
    · rw [if_neg h2]
      by_cases h3 : n < t.2.1
      · rw [if_pos h3]
        exact fr_rgt (by omega) (by omega) (by omega) (by omega)
      · rw [if_neg h3]
        exact fr_rgt (by omega) (by omega) (by omega) (by omega)
def np (xs : List (Tn × Int)) : Nat → Int
  | 0 => 1
  | k + 1 => np xs k * (strength (xs.getD k ((0, 0, 0), 0)).1 (xs.getD k ((0, 0, 0), 0)).2).1
def dp (xs : List (Tn × Int)) : Nat → Int
  | 0 => 1
  | k + 1 => dp xs k * (strength (xs.getD k ((0, 0, 0), 0)).1 (xs.getD k ((0, 0, 0), 0)).2).2
def pw : Nat → Int
  | 0 => 1
  | k + 1 => pw k * 64
theorem getD_of {α : Type} {l : List α} {k : Nat} {x d : α} (h : l[k]? = some x) : l.getD k d = x := by rw [List.getD_eq_getElem?_getD, h]; rfl
theorem prod_tk {xs : List (Tn × Int)} {i : Nat} {x : Tn × Int} (hx : xs[i]? = some x) : prod (xs.take (i + 1)) = (F.FP.timesS (prod (xs.take i)).1 (prod (xs.take i)).2 (strength x.1 x.2).1 (strength x.1 x.2).2).1 := by
  rw [List.take_add_one, hx]
  exact prod_snoc _ _
/-- The product of the first k strengths. -/
theorem prod_S {xs : List (Tn × Int)} (h : ∀ x ∈ xs, tent x.1 = true ∧ coord x.2 = true) (hl : xs.length ≤ 3) : ∀ k, k ≤ xs.length →
    F.FP.rgt (prod (xs.take k)).1 (prod (xs.take k)).2 ∧ (prod (xs.take k)).2 ≤ pw k ∧ (prod (xs.take k)).1 * dp xs k = (prod (xs.take k)).2 * np xs k ∧ 0 < dp xs k ∧ 0 ≤ np xs k ∧ ((0 < (prod (xs.take k)).1) ↔ ∀ (j : Nat) (x : Tn × Int), j < k → xs[j]? = some x → 0 < (strength x.1 x.2).1) ∧
    (∀ x, xs[k]? = some x → (F.FP.timesS (prod (xs.take k)).1 (prod (xs.take k)).2 (strength x.1 x.2).1 (strength x.1 x.2).2).2 = true)
  | 0, _ => by
    have r1 : F.FP.rgt 1 1 := by constructor <;> first | decide | omega | (unfold F.FP.gc; decide)
    refine ⟨r1, show (1 : Int) ≤ 1 by decide, show (1 : Int) * 1 = 1 * 1 by decide, show (0 : Int) < 1 by decide, show (0 : Int) ≤ 1 by decide, ⟨fun _ j x hj => by omega, fun _ => show (0 : Int) < 1 by decide⟩, fun x hx => ?_⟩
    obtain ⟨s1, s2⟩ := str_rgt (h x (List.mem_of_getElem? hx)).1 (h x (List.mem_of_getElem? hx)).2
    obtain ⟨p, e, -⟩ := times_F r1 s1 (by rw [Int.one_mul]; omega)
    show (F.FP.timesS 1 1 _ _).2 = true
    rw [e]
  | k + 1, hk => by
    obtain ⟨h1, h2, h3, h4, h5, h6, -⟩ := prod_S h hl k (by omega)
    obtain ⟨x, hx⟩ : ∃ x, xs[k]? = some x := ⟨xs[k]'(by omega), List.getElem?_eq_getElem _⟩
    obtain ⟨s1, s2⟩ := str_rgt (h x (List.mem_of_getElem? hx)).1 (h x (List.mem_of_getElem? hx)).2
    have hk3 : k = 0 ∨ k = 1 ∨ k = 2 := by omega
    have hpw : pw k ≤ 4096 ∧ 0 < pw k := by rcases hk3 with e | e | e <;> subst e <;> decide
    have hden : (prod (xs.take k)).2 * (strength x.1 x.2).2 ≤ pw k * 64 := Int.mul_le_mul h2 s2 (by have := s1.d1; omega) (by omega)
    obtain ⟨p, e, p1, p2, p3, p4⟩ := times_F h1 s1 (by omega)
    have hp : prod (xs.take (k + 1)) = p := by rw [prod_tk hx, e]
    have ed : dp xs (k + 1) = dp xs k * (strength x.1 x.2).2 := by show dp xs k * _ = _; rw [getD_of hx]
    have en : np xs (k + 1) = np xs k * (strength x.1 x.2).1 := by show np xs k * _ = _; rw [getD_of hx]
    rw [hp, ed, en]
    refine ⟨p1, by show p.2 ≤ pw k * 64; omega, ?_, Int.mul_pos h4 (by have := s1.d1; omega), Int.mul_nonneg h5 s1.n0, ?_, fun y hy => ?_⟩
    · have q1 : 0 < (prod (xs.take k)).2 := by have := h1.d1; omega
      have q2 : p.1 * ((prod (xs.take k)).2 * (strength x.1 x.2).2) * dp xs k = p.2 * ((prod (xs.take k)).1 * (strength x.1 x.2).1) * dp xs k := by rw [p3]
      have q3 : p.1 * (dp xs k * (strength x.1 x.2).2) * (prod (xs.take k)).2 = p.2 * (np xs k * (strength x.1 x.2).1) * (prod (xs.take k)).2 := by
        have e1 : p.1 * ((prod (xs.take k)).2 * (strength x.1 x.2).2) * dp xs k = p.1 * (dp xs k * (strength x.1 x.2).2) * (prod (xs.take k)).2 := by
          simp only [Int.mul_assoc, Int.mul_comm, Int.mul_left_comm]
        have e2 : p.2 * ((prod (xs.take k)).1 * (strength x.1 x.2).1) * dp xs k = p.2 * (((prod (xs.take k)).1 * dp xs k) * (strength x.1 x.2).1) := by
          simp only [Int.mul_assoc, Int.mul_comm, Int.mul_left_comm]
        have e3 : p.2 * (((prod (xs.take k)).2 * np xs k) * (strength x.1 x.2).1) = p.2 * (np xs k * (strength x.1 x.2).1) * (prod (xs.take k)).2 := by
          simp only [Int.mul_assoc, Int.mul_comm, Int.mul_left_comm]
        rw [← e1, q2, e2, h3, e3]
      exact Int.eq_of_mul_eq_mul_right (by omega) q3
    · rw [p4, h6]
      constructor
      · rintro ⟨a, b⟩ j y hj hy
        by_cases hjk : j < k
        · exact a j y hjk hy
        · obtain rfl : j = k := by omega
          rw [hx] at hy
          obtain rfl := Option.some.inj hy
          exact b
      · intro a
        exact ⟨fun j y hj hy => a j y (by omega) hy, a k x (by omega) hx⟩
    · obtain ⟨t1, t2⟩ := str_rgt (h y (List.mem_of_getElem? hy)).1 (h y (List.mem_of_getElem? hy)).2
      have hk1 := (List.getElem?_eq_some_iff.1 hy).1
      have hpw2 : pw k ≤ 64 := by
        have : k = 0 ∨ k = 1 := by omega
        rcases this with e | e <;> subst e <;> decide
      have hp2 : p.2 ≤ 4096 := by omega
      have hd2 : p.2 * (strength y.1 y.2).2 ≤ 4096 * 64 := Int.mul_le_mul hp2 t2 (by have := t1.d1; omega) (by omega)
      obtain ⟨p', e', -⟩ := times_F p1 t1 (by omega)
      rw [e']
/-- A region's scalar is more than nothing where the strengths of all its tents are. -/
theorem scalar_pos {l : List Tn} {at' : List Int} (hr : right l (at'.length : Int) = true) (hc : coords at' = true) : 0 < (scalar l at').1 ↔ ∀ (j : Nat) (t : Tn) (x : Int), l[j]? = some t → at'[j]? = some x → 0 < (strength t x).1 := by
  have hrr := (right_iff _ _).1 hr
  have hcc := (coords_iff _).1 hc
  have hlen : (l.zip at').length = at'.length := by rw [List.length_zip]; omega
  have hz : ∀ x ∈ l.zip at', tent x.1 = true ∧ coord x.2 = true := fun x hx => ⟨hrr.2 _ (List.of_mem_zip hx).1, hcc.1 _ (List.of_mem_zip hx).2⟩
  have hS := (prod_S hz (by omega) (l.zip at').length (Nat.le_refl _)).2.2.2.2.2.1
  rw [List.take_length] at hS
  unfold scalar
  rw [if_pos ⟨hr, hc⟩, hS]
  constructor
  · intro h j t x h1 h2
    have hj := (List.getElem?_eq_some_iff.1 h2).1
    exact h j (t, x) (by omega) (by rw [List.getElem?_zip_eq_some]; exact ⟨h1, h2⟩)
  · intro h j x hj hx
    obtain ⟨h1, h2⟩ := List.getElem?_zip_eq_some.1 hx
    exact h j x.1 x.2 h1 h2
theorem scalar_one {t : Tn} {x : Int} (ht : tent t = true) (hx : coord x = true) : scalar [t] [x] = strength t x := by
  have hr : right [t] (([x] : List Int).length : Int) = true := by
    rw [right_iff]
    exact ⟨⟨by simp, by simp, by simp⟩, fun u hu => by rw [List.mem_singleton.1 hu]; exact ht⟩
  have hc : coords [x] = true := by
    rw [coords_iff]
    exact ⟨fun u hu => by rw [List.mem_singleton.1 hu]; exact hx, by simp⟩
  unfold scalar
  rw [if_pos ⟨hr, hc⟩]
  show (F.FP.timesS 1 1 (strength t x).1 (strength t x).2).1 = strength t x
  obtain ⟨s1, s2⟩ := str_rgt ht hx
  have r1 : F.FP.rgt 1 1 := by constructor <;> first | decide | omega | (unfold F.FP.gc; decide)
  unfold F.FP.timesS
  rw [Int.one_mul, Int.one_mul, s1.g, Int.ediv_one, Int.ediv_one, if_pos ⟨⟨r1, s1⟩, by omega⟩]
end Go.Proofs.Ytanppbdlcinpfaa.AX
