/- Heaps, as lists. No conditions. -/
import Derived.Test.YtgphdgalcbcamaaLn1
namespace Go.Proofs.Ytgphdgalcbcamaa.LN
set_option linter.unusedVariables false
/-- One comes before the other, or at its time and number. -/
def le (p q : Pc) : Prop := p.t < q.t ∨ (p.t = q.t ∧ p.n ≤ q.n)
theorem le_refl (p : Pc) : le p p := .inr ⟨rfl, Int.le_refl _⟩
theorem le_trans {p q r : Pc} (h : le p q) (k : le q r) : le p r := by
  unfold le at *
  omega
theorem lt_true {p q : Pc} (h : ltB p q = true) : le p q := by
  unfold ltB at h
  unfold le
  split at h
  · have := of_decide_eq_true h
    omega
  · have := of_decide_eq_true h
    omega
theorem lt_false {p q : Pc} (h : ltB p q = false) : le q p := by
  unfold ltB at h
  unfold le
  split at h
  · have := of_decide_eq_false h
    omega
  · have := of_decide_eq_false h
    omega
def swp (A : List Pc) (i j : Nat) (p q : Pc) : List Pc := (A.set i q).set j p
theorem swp_at {A : List Pc} {i j : Nat} {p q : Pc} (hi : A[i]? = some p) (hj : A[j]? = some q) (k : Nat) : (swp A i j p q)[k]? = if k = j then some p else if k = i then some q else A[k]? := by
  have h1 := (List.getElem?_eq_some_iff.1 hi).1
  have h2 := (List.getElem?_eq_some_iff.1 hj).1
  unfold swp
  rw [List.getElem?_set, List.getElem?_set]
  by_cases e1 : k = j
  · subst e1
    simp [h2]
  · have e1' : ¬ j = k := fun e => e1 e.symm
    by_cases e2 : k = i
    · subst e2
      simp [e1, e1', h1]
    · have e2' : ¬ i = k := fun e => e2 e.symm
      simp [e1, e1', e2, e2']
theorem swp_len (A : List Pc) (i j : Nat) (p q : Pc) : (swp A i j p q).length = A.length := by simp [swp]
theorem swp_perm {A : List Pc} {i j : Nat} {p q : Pc} (hi : A[i]? = some p) (hj : A[j]? = some q) : (swp A i j p q).Perm A := by
  obtain ⟨h1, rfl⟩ := List.getElem?_eq_some_iff.1 hi
  obtain ⟨h2, rfl⟩ := List.getElem?_eq_some_iff.1 hj
  exact List.set_set_perm h1 h2
/-- Each one comes behind the one over it. -/
def Hp (A : List Pc) : Prop := ∀ i p q, 0 < i → A[i]? = some q → A[(i - 1) / 2]? = some p → le p q
/-- The same, but for the one at j. -/
structure UpI (C : List Pc) (j : Nat) : Prop where
  a : ∀ i p q, 0 < i → i ≠ j → C[i]? = some q → C[(i - 1) / 2]? = some p → le p q
  b : ∀ i p q, 0 < i → 0 < j → (i - 1) / 2 = j → C[i]? = some q → C[(j - 1) / 2]? = some p → le p q
theorem UpI.zero {C : List Pc} (h : UpI C 0) : Hp C := fun i p q h0 hq hp => h.a i p q h0 (by omega) hq hp
theorem UpI.stop {C : List Pc} {j : Nat} {p q : Pc} (h : UpI C j) (hq : C[j]? = some q) (hp : C[(j - 1) / 2]? = some p) (hl : ltB q p = false) : Hp C := fun i p' q' h0 hq' hp' => by
  by_cases e : i = j
  · subst e
    rw [hq] at hq'
    rw [hp] at hp'
    cases hq'
    cases hp'
    exact lt_false hl
  · exact h.a i p' q' h0 e hq' hp'
theorem UpI.step {C : List Pc} {j i : Nat} {p q : Pc} (h : UpI C j) (h0 : 0 < j) (hi : (j - 1) / 2 = i) (hq : C[j]? = some q) (hp : C[i]? = some p) (hl : ltB q p = true) : UpI (swp C i j p q) i := by
  have hle := lt_true hl
  have at' := swp_at hp hq
  have hij : i ≠ j := by omega
  refine ⟨fun k p' q' hk hki hq' hp' => ?_, fun k p' q' hk h0i hki hq' hp' => ?_⟩
  · rw [at'] at hq' hp'
    by_cases e1 : k = j
    · subst e1
      rw [if_pos rfl] at hq'
      rw [if_neg (by omega), if_pos (by omega)] at hp'
      cases hq'
      cases hp'
      exact hle
    · rw [if_neg e1, if_neg hki] at hq'
      by_cases e2 : (k - 1) / 2 = j
      · rw [if_pos e2] at hp'
        cases hp'
        exact h.b k p q' hk h0 e2 hq' (by rw [hi]; exact hp)
      · by_cases e3 : (k - 1) / 2 = i
        · rw [if_neg e2, if_pos e3] at hp'
          cases hp'
          exact le_trans hle (h.a k p q' hk e1 hq' (by rw [e3]; exact hp))
        · rw [if_neg e2, if_neg e3] at hp'
          exact h.a k p' q' hk e1 hq' hp'
  · rw [at'] at hq' hp'
    rw [if_neg (by omega), if_neg (by omega)] at hp'
    have hpp : le p' p := h.a i p' p h0i hij hp hp'
    by_cases e1 : k = j
    · rw [if_pos e1] at hq'
      cases hq'
      exact hpp
    · rw [if_neg e1, if_neg (by omega)] at hq'
      exact le_trans hpp (h.a k p q' hk e1 hq' (by rw [hki]; exact hp))
theorem UpI.new {A : List Pc} {p : Pc} (h : Hp A) : UpI (A ++ [p]) A.length := by
  refine ⟨fun i p' q' h0 hi hq hp => ?_, fun i p' q' h0 hj hi hq hp => ?_⟩
  · have hl := (List.getElem?_eq_some_iff.1 hq).1
    rw [List.length_append, List.length_singleton] at hl
    rw [List.getElem?_append_left (by omega)] at hq hp
    exact h i p' q' h0 hq hp
  · have hl := (List.getElem?_eq_some_iff.1 hq).1
    rw [List.length_append, List.length_singleton] at hl
    omega
/-- Of the first n each one comes behind the one over it, but for those under i. -/
structure DnI (C : List Pc) (n i : Nat) : Prop where
  a : ∀ k p q, 0 < k → k < n → (k - 1) / 2 ≠ i → C[k]? = some q → C[(k - 1) / 2]? = some p → le p q
  b : ∀ k p q, 0 < k → k < n → (k - 1) / 2 = i → 0 < i → C[k]? = some q → C[(i - 1) / 2]? = some p → le p q
/-- The first n are a heap. -/
def HpN (C : List Pc) (n : Nat) : Prop := ∀ k p q, 0 < k → k < n → C[k]? = some q → C[(k - 1) / 2]? = some p → le p q
theorem DnI.leaf {C : List Pc} {n i : Nat} (h : DnI C n i) (hn : n ≤ 2 * i + 1) : HpN C n := fun k p q h0 hk hq hp => h.a k p q h0 hk (by omega) hq hp
/-- The child j of i comes first of its two. -/
def Chs (C : List Pc) (n i j : Nat) (q : Pc) : Prop := (j = 2 * i + 1 ∨ j = 2 * i + 2) ∧ j < n ∧ C[j]? = some q ∧ ∀ k r, k < n → (k = 2 * i + 1 ∨ k = 2 * i + 2) → C[k]? = some r → le q r
theorem chs_one {C : List Pc} {n i : Nat} {q : Pc} (hq : C[2 * i + 1]? = some q) (h1 : 2 * i + 1 < n) (h2 : n ≤ 2 * i + 2) : Chs C n i (2 * i + 1) q :=
  ⟨.inl rfl, h1, hq, fun k r hk hkk hr => by
    obtain rfl : k = 2 * i + 1 := by omega
    rw [hq] at hr
    cases hr
    exact le_refl _⟩
theorem chs_left {C : List Pc} {n i : Nat} {q r : Pc} (hq : C[2 * i + 1]? = some q) (hr : C[2 * i + 2]? = some r) (h1 : 2 * i + 1 < n) (hl : ltB r q = false) : Chs C n i (2 * i + 1) q :=
  ⟨.inl rfl, h1, hq, fun k s hk hkk hs => by
    rcases hkk with rfl | rfl
    · rw [hq] at hs
      cases hs
      exact le_refl _
    · rw [hr] at hs
      cases hs
      exact lt_false hl⟩
theorem chs_right {C : List Pc} {n i : Nat} {q r : Pc} (hq : C[2 * i + 1]? = some q) (hr : C[2 * i + 2]? = some r) (h1 : 2 * i + 2 < n) (hl : ltB r q = true) : Chs C n i (2 * i + 2) r :=
  ⟨.inr rfl, h1, hr, fun k s hk hkk hs => by
    rcases hkk with rfl | rfl
    · rw [hq] at hs
      cases hs
      exact lt_true hl
    · rw [hr] at hs
      cases hs
      exact le_refl _⟩
theorem DnI.stop {C : List Pc} {n i j : Nat} {p q : Pc} (h : DnI C n i) (hp : C[i]? = some p) (hc : Chs C n i j q) (hl : ltB q p = false) : HpN C n := fun k p' q' h0 hk hq' hp' => by
  by_cases e : (k - 1) / 2 = i
  · rw [e, hp] at hp'
    cases hp'
    exact le_trans (lt_false hl) (hc.2.2.2 k q' hk (by omega) hq')
  · exact h.a k p' q' h0 hk e hq' hp'
theorem DnI.step {C : List Pc} {n i j : Nat} {p q : Pc} (h : DnI C n i) (hp : C[i]? = some p) (hc : Chs C n i j q) (hl : ltB q p = true) : DnI (swp C i j p q) n j := by
  have hle := lt_true hl
  obtain ⟨hj, hjn, hq, hch⟩ := hc
  have at' := swp_at hp hq
  refine ⟨fun k p' q' hk hkn hkj hq' hp' => ?_, fun k p' q' hk hkn hkj h0 hq' hp' => ?_⟩
  · rw [at'] at hq' hp'
    rw [if_neg hkj] at hp'
    by_cases e : (k - 1) / 2 = i
    · rw [if_pos e] at hp'
      cases hp'
      by_cases e1 : k = j
      · rw [if_pos e1] at hq'
        cases hq'
        exact hle
      · rw [if_neg e1, if_neg (by omega)] at hq'
        exact hch k q' hkn (by omega) hq'
    · rw [if_neg e] at hp'
      have e1 : k ≠ j := by omega
      rw [if_neg e1] at hq'
      by_cases e2 : k = i
      · subst e2
        rw [if_pos rfl] at hq'
        cases hq'
        exact h.b j p' q (by omega) hjn (by omega) hk hq hp'
      · rw [if_neg e2] at hq'
        exact h.a k p' q' hk hkn e hq' hp'
  · rw [at'] at hq' hp'
    rw [if_neg (by omega), if_neg (by omega)] at hq'
    rw [if_neg (by omega), if_pos (by omega)] at hp'
    cases hp'
    exact h.a k q q' hk hkn (by omega) hq' (by rw [hkj]; exact hq)
theorem DnI.start {A : List Pc} {n : Nat} {p q : Pc} (h : Hp A) (hp : A[0]? = some p) (hq : A[n]? = some q) : DnI (swp A 0 n p q) n 0 := by
  have at' := swp_at hp hq
  refine ⟨fun k p' q' hk hkn hki hq' hp' => ?_, fun k p' q' hk hkn hki h0 _ _ => absurd h0 (by omega)⟩
  rw [at', if_neg (by omega), if_neg (by omega)] at hq' hp'
  exact h k p' q' hk hq' hp'
theorem Hp.root {A : List Pc} {p : Pc} (h : Hp A) (hp : A[0]? = some p) : ∀ (i : Nat) (q : Pc), A[i]? = some q → le p q := by
  intro i
  induction i using Nat.strongRecOn with
  | _ i ih =>
    intro q hq
    by_cases h0 : i = 0
    · subst h0
      rw [hp] at hq
      cases hq
      exact le_refl _
    · have hl := (List.getElem?_eq_some_iff.1 hq).1
      obtain ⟨r, hr⟩ : ∃ r, A[(i - 1) / 2]? = some r := ⟨_, List.getElem?_eq_getElem (show (i - 1) / 2 < A.length by omega)⟩
      exact le_trans (ih ((i - 1) / 2) (by omega) r hr) (h i r q (by omega) hq hr)
theorem HpN.hp {C : List Pc} {p : Pc} {n : Nat} (h : HpN (C ++ [p]) n) (hn : C.length = n) : Hp C := fun k p' q' h0 hq hp => by
  have hl := (List.getElem?_eq_some_iff.1 hq).1
  exact h k p' q' h0 (by omega) (by rw [List.getElem?_append_left hl]; exact hq) (by rw [List.getElem?_append_left (by omega)]; exact hp)
theorem Hp.nil : Hp [] := fun i p q _ hq => by simp at hq
end Go.Proofs.Ytgphdgalcbcamaa.LN
