/- Plain facts: runs turned around, in steps from the highest level to the lowest one. No conditions. -/
import Derived.Test.YtbgmbcngkmlfeaaDoorBase
namespace Go.Proofs.YtbgmbcngkmlfeaaDoor.OP
set_option linter.unusedVariables false
/-- The runs of what p says are turned around. -/
def rra (p : Nat → Bool) : List Nat → List Nat → List Nat
  | acc, [] => acc
  | acc, x :: l => if p x then rra p (x :: acc) l else acc ++ x :: rra p [] l
def rr (p : Nat → Bool) (l : List Nat) : List Nat := rra p [] l
theorem rra_yes {p : Nat → Bool} {x : Nat} (h : p x = true) (acc l : List Nat) : rra p acc (x :: l) = rra p (x :: acc) l := by rw [rra, if_pos h]
theorem rra_no {p : Nat → Bool} {x : Nat} (h : p x = false) (acc l : List Nat) : rra p acc (x :: l) = acc ++ x :: rra p [] l := by rw [rra, if_neg (by simp [h])]
theorem rra_run {p : Nat → Bool} : ∀ (R acc l : List Nat), (∀ x ∈ R, p x = true) → rra p acc (R ++ l) = rra p (R.reverse ++ acc) l
  | [], _, _, _ => rfl
  | x :: R, acc, l, h => by
    rw [List.cons_append, rra_yes (h x (by simp)), rra_run R _ _ (fun y hy => h y (by simp [hy]))]
    simp
theorem rr_all {p : Nat → Bool} {R : List Nat} (h : ∀ x ∈ R, p x = true) : rr p R = R.reverse := by
  have := rra_run R [] [] h
  rw [List.append_nil, List.append_nil] at this
  exact this
theorem rra_cut {p : Nat → Bool} {x : Nat} (hx : p x = false) : ∀ (A acc C : List Nat), rra p acc (A ++ x :: C) = rra p acc A ++ x :: rr p C
  | [], acc, C => rra_no hx acc C
  | a :: A, acc, C => by
    rw [List.cons_append]
    cases h : p a with
    | true => rw [rra_yes h, rra_yes h, rra_cut hx A]
    | false => rw [rra_no h, rra_no h, rra_cut hx A, List.append_assoc, List.cons_append]
theorem rr_cut {p : Nat → Bool} {x : Nat} (hx : p x = false) (A C : List Nat) : rr p (A ++ x :: C) = rr p A ++ x :: rr p C := rra_cut hx A [] C
theorem rra_none {p : Nat → Bool} : ∀ (l acc : List Nat), (∀ x ∈ l, p x = false) → rra p acc l = acc ++ l
  | [], acc, _ => by simp [rra]
  | x :: l, acc, h => by rw [rra_no (h x (by simp)), rra_none l [] (fun y hy => h y (by simp [hy]))]; simp
theorem rr_none {p : Nat → Bool} {l : List Nat} (h : ∀ x ∈ l, p x = false) : rr p l = l := by
  have := rra_none l [] h
  simpa [rr] using this
theorem rra_perm {p : Nat → Bool} : ∀ (l acc : List Nat), (rra p acc l).Perm (acc ++ l)
  | [], acc => by simp [rra]
  | x :: l, acc => by
    cases h : p x with
    | true =>
      rw [rra_yes h]
      refine (rra_perm l (x :: acc)).trans ?_
      rw [List.cons_append]
      exact (List.perm_middle (a := x) (l₁ := acc) (l₂ := l)).symm
    | false =>
      rw [rra_no h]
      exact List.Perm.append_left acc ((rra_perm l []).cons x)
theorem rr_perm (p : Nat → Bool) (l : List Nat) : (rr p l).Perm l := rra_perm l []
theorem rra_congr {p q : Nat → Bool} : ∀ (l acc : List Nat), (∀ x ∈ l, p x = q x) → rra p acc l = rra q acc l
  | [], _, _ => rfl
  | x :: l, acc, h => by
    have hx := h x (by simp)
    have hl : ∀ y ∈ l, p y = q y := fun y hy => h y (by simp [hy])
    unfold rra
    rw [hx, rra_congr l _ hl, rra_congr l _ hl]
theorem rr_congr {p q : Nat → Bool} {l : List Nat} (h : ∀ x ∈ l, p x = q x) : rr p l = rr q l := rra_congr l [] h
/-- Whether the level at a place is n or more. -/
def hi (L : List Int) (n : Nat) (i : Nat) : Bool := decide ((n : Int) ≤ L.getD i 0)
def visF (L : List Int) : Nat → List Nat → List Nat
  | 0, l => l
  | n + 1, l => visF L n (rr (hi L (n + 1)) l)
def vis (L : List Int) : List Nat := visF L 9 (List.range L.length)
theorem visF_perm (L : List Int) : ∀ n l, (visF L n l).Perm l
  | 0, l => List.Perm.refl _
  | n + 1, l => (visF_perm L n _).trans (rr_perm _ l)
theorem vis_perm (L : List Int) : (vis L).Perm (List.range L.length) := visF_perm L 9 _
theorem vis_len (L : List Int) : (vis L).length = L.length := by rw [(vis_perm L).length_eq, List.length_range]
theorem vis_mem {L : List Int} {i : Nat} : i ∈ vis L ↔ i < L.length := by rw [(vis_perm L).mem_iff, List.mem_range]
theorem vis_nodup (L : List Int) : (vis L).Nodup := (vis_perm L).nodup_iff.2 List.nodup_range
/-- All levels one higher. -/
theorem hi_up {L M : List Int} {l : List Nat} (h : ∀ i ∈ l, M.getD i 0 = L.getD i 0 + 1) (n : Nat) : ∀ i ∈ l, hi M (n + 1) i = hi L n i := fun i hi' => by
  unfold hi
  rw [h i hi', decide_eq_decide]
  omega
theorem visF_up {L M : List Int} (h0 : ∀ i, 0 ≤ L.getD i 0) : ∀ (n : Nat) (l : List Nat), (∀ i ∈ l, M.getD i 0 = L.getD i 0 + 1) → visF M (n + 1) l = (visF L n l).reverse
  | 0, l, h => by
    show rr (hi M (0 + 1)) l = l.reverse
    refine rr_all fun x hx => ?_
    unfold hi
    rw [h x hx, decide_eq_true_iff]
    have := h0 x
    omega
  | n + 1, l, h => by
    show visF M (n + 1) (rr (hi M (n + 1 + 1)) l) = _
    rw [rr_congr (hi_up h (n + 1))]
    exact visF_up h0 n _ (fun i hi' => h i ((rr_perm _ l).mem_iff.1 hi'))
theorem visF_low {L : List Int} {n : Nat} (h : ∀ i, L.getD i 0 < ((n + 1 : Nat) : Int)) (l : List Nat) : visF L (n + 1) l = visF L n l := by
  show visF L n (rr (hi L (n + 1)) l) = _
  rw [rr_none]
  intro x _
  unfold hi
  rw [decide_eq_false_iff_not]
  have := h x
  omega
theorem getD_map {L : List Int} {f : Int → Int} {i : Nat} (h : i < L.length) : (L.map f).getD i 0 = f (L.getD i 0) := by
  simp [List.getD, List.getElem?_map, List.getElem?_eq_getElem h]
theorem vis_one {L : List Int} (h0 : ∀ i, 0 ≤ L.getD i 0) (h8 : ∀ i, L.getD i 0 ≤ 8) : vis (L.map (· + 1)) = (vis L).reverse := by
  unfold vis
  rw [List.length_map, visF_up h0 8 _ (fun i hi' => getD_map (List.mem_range.1 hi')), visF_low (n := 8) (fun i => by have := h8 i; omega)]
theorem vis_two {L : List Int} (h0 : ∀ i, 0 ≤ L.getD i 0) (h7 : ∀ i, L.getD i 0 ≤ 7) : vis (L.map (· + 2)) = vis L := by
  have e : L.map (· + 2) = (L.map (· + 1)).map (· + 1) := by rw [List.map_map]; congr 1; funext x; simp only [Function.comp]; omega
  have g0 : ∀ i, 0 ≤ (L.map (· + 1)).getD i 0 ∧ (L.map (· + 1)).getD i 0 ≤ 8 := fun i => by
    by_cases h : i < L.length
    · rw [getD_map h]; have := h0 i; have := h7 i; omega
    · simp [List.getD, List.getElem?_eq_none (Nat.le_of_not_lt h)]
  rw [e, vis_one (fun i => (g0 i).1) (fun i => (g0 i).2), vis_one h0 (fun i => by have := h7 i; omega), List.reverse_reverse]
/-- y stands just behind x. -/
def Adj (x y : Nat) (l : List Nat) : Prop := ∃ A C, l = A ++ x :: y :: C
theorem rra_adj {p : Nat → Bool} {x y : Nat} (hx : p x = true) (hy : p y = true) : ∀ (A acc C : List Nat), Adj y x (rra p acc (A ++ x :: y :: C))
  | [], acc, C => by
    rw [List.nil_append, rra_yes hx, rra_yes hy]
    have : ∀ (C X acc : List Nat), Adj y x (rra p (X ++ y :: x :: acc) C) := by
      intro C
      induction C with
      | nil => exact fun X acc => ⟨X, acc, rfl⟩
      | cons c C ih =>
        intro X acc
        cases h : p c with
        | true => rw [rra_yes h]; exact ih (c :: X) acc
        | false => rw [rra_no h]; exact ⟨X, acc ++ c :: rra p [] C, by simp⟩
    exact this C [] acc
  | a :: A, acc, C => by
    rw [List.cons_append]
    cases h : p a with
    | true => rw [rra_yes h]; exact rra_adj hx hy A _ C
    | false =>
      rw [rra_no h]
      obtain ⟨A', C', e⟩ := rra_adj hx hy A [] C
      exact ⟨acc ++ a :: A', C', by rw [e]; simp⟩
theorem rr_adj_yes {p : Nat → Bool} {x y : Nat} {l : List Nat} (h : Adj x y l) (hx : p x = true) (hy : p y = true) : Adj y x (rr p l) := by
  obtain ⟨A, C, rfl⟩ := h
  exact rra_adj hx hy A [] C
theorem rr_adj_no {p : Nat → Bool} {x y : Nat} {l : List Nat} (h : Adj x y l) (hx : p x = false) (hy : p y = false) : Adj x y (rr p l) := by
  obtain ⟨A, C, rfl⟩ := h
  refine ⟨rr p A, rr p C, ?_⟩
  rw [rr_cut hx]
  have := rr_cut hy [] C
  rw [List.nil_append] at this
  rw [this]
  rfl
theorem visF_adj {L : List Int} {x y : Nat} {v : Nat} (hx : L.getD x 0 = (v : Int)) (hy : L.getD y 0 = (v : Int)) : ∀ (n : Nat) (l : List Nat), Adj x y l → if min v n % 2 = 0 then Adj x y (visF L n l) else Adj y x (visF L n l)
  | 0, l, h => by simpa [visF] using h
  | n + 1, l, h => by
    show if min v (n + 1) % 2 = 0 then Adj x y (visF L n _) else Adj y x (visF L n _)
    by_cases hv : n + 1 ≤ v
    · have e1 : hi L (n + 1) x = true := by unfold hi; rw [hx, decide_eq_true_iff]; omega
      have e2 : hi L (n + 1) y = true := by unfold hi; rw [hy, decide_eq_true_iff]; omega
      have := visF_adj hy hx n _ (rr_adj_yes h e1 e2)
      rw [Nat.min_eq_right (by omega : n ≤ v)] at this
      rw [Nat.min_eq_right hv]
      by_cases hn : n % 2 = 0
      · rw [if_pos hn] at this
        rw [if_neg (by omega)]
        exact this
      · rw [if_neg hn] at this
        rw [if_pos (by omega)]
        exact this
    · have e1 : hi L (n + 1) x = false := by unfold hi; rw [hx, decide_eq_false_iff_not]; omega
      have e2 : hi L (n + 1) y = false := by unfold hi; rw [hy, decide_eq_false_iff_not]; omega
      have := visF_adj hx hy n _ (rr_adj_no h e1 e2)
      rw [Nat.min_eq_left (by omega : v ≤ n)] at this
      rw [Nat.min_eq_left (by omega : v ≤ n + 1)]
      exact this
theorem range_adj {n i : Nat} (h : i + 1 < n) : Adj i (i + 1) (List.range n) := by
  refine ⟨List.range i, (List.range (n - (i + 2))).map (· + (i + 2)), ?_⟩
  refine List.ext_getElem? fun j => ?_
  by_cases hj : j < i
  · rw [List.getElem?_append_left (by simpa using hj), List.getElem?_range hj, List.getElem?_range (by omega)]
  · rw [List.getElem?_append_right (by simp; omega), List.length_range]
    obtain ⟨k, rfl⟩ : ∃ k, j = i + k := ⟨j - i, by omega⟩
    rw [Nat.add_sub_cancel_left]
    match k with
    | 0 => rw [List.getElem?_range (by omega)]; rfl
    | 1 => rw [List.getElem?_range (by omega)]; rfl
    | k + 2 =>
      rw [List.getElem?_cons_succ, List.getElem?_cons_succ, List.getElem?_map]
      by_cases hk : i + (k + 2) < n
      · rw [List.getElem?_range hk, List.getElem?_range (by omega)]
        simp
        omega
      · rw [List.getElem?_eq_none (by simp; omega), List.getElem?_eq_none (by simp; omega)]
        rfl
/-- Neighbours with the same level are neighbours still, turned around if it is odd. -/
theorem vis_adj {L : List Int} {i v : Nat} (h : i + 1 < L.length) (hx : L.getD i 0 = (v : Int)) (hy : L.getD (i + 1) 0 = (v : Int)) (hv : v ≤ 9) : if v % 2 = 0 then Adj i (i + 1) (vis L) else Adj (i + 1) i (vis L) := by
  have := visF_adj hx hy 9 _ (range_adj h)
  rwa [Nat.min_eq_left hv] at this
/-- What S says stands together. -/
def Tog (S : Nat → Prop) (l : List Nat) : Prop := ∃ A B C, l = A ++ (B ++ C) ∧ (∀ x ∈ B, S x) ∧ (∀ x ∈ A, ¬ S x) ∧ ∀ x ∈ C, ¬ S x
theorem rra_keep {p : Nat → Bool} {S : Nat → Prop} : ∀ (C X B Y : List Nat), (∀ x ∈ B, S x) → (∀ x ∈ X, ¬ S x) → (∀ x ∈ Y, ¬ S x) → (∀ x ∈ C, ¬ S x) → Tog S (rra p (X ++ (B ++ Y)) C)
  | [], X, B, Y, hB, hX, hY, _ => ⟨X, B, Y, rfl, hB, hX, hY⟩
  | c :: C, X, B, Y, hB, hX, hY, hC => by
    cases h : p c with
    | true =>
      rw [rra_yes h]
      exact rra_keep C (c :: X) B Y hB (fun x hx => by rcases List.mem_cons.1 hx with rfl | hx; exact hC _ (by simp); exact hX x hx) hY (fun x hx => hC x (by simp [hx]))
    | false =>
      rw [rra_no h]
      refine ⟨X, B, Y ++ c :: rra p [] C, by simp, hB, hX, fun x hx => ?_⟩
      rcases List.mem_append.1 hx with hx | hx
      · exact hY x hx
      · rcases List.mem_cons.1 hx with rfl | hx
        · exact hC _ (by simp)
        · exact hC x (by have := (rra_perm (p := p) C []).mem_iff.1 hx; simp at this; simp [this])
theorem rra_tog {p : Nat → Bool} {S : Nat → Prop} {B C : List Nat} (hp : ∀ x ∈ B, p x = true) (hB : ∀ x ∈ B, S x) (hC : ∀ x ∈ C, ¬ S x) : ∀ (A acc : List Nat), (∀ x ∈ A, ¬ S x) → (∀ x ∈ acc, ¬ S x) → Tog S (rra p acc (A ++ (B ++ C)))
  | [], acc, _, ha => by
    rw [List.nil_append, rra_run B acc C hp]
    exact rra_keep C [] B.reverse acc (fun x hx => hB x (by simpa using hx)) (fun x hx => by cases hx) ha hC
  | a :: A, acc, hA, ha => by
    have h1 := hA a (by simp)
    have h2 : ∀ x ∈ A, ¬ S x := fun x hx => hA x (by simp [hx])
    rw [List.cons_append]
    cases h : p a with
    | true =>
      rw [rra_yes h]
      exact rra_tog hp hB hC A (a :: acc) h2 (fun x hx => by rcases List.mem_cons.1 hx with rfl | hx; exact h1; exact ha x hx)
    | false =>
      rw [rra_no h]
      obtain ⟨A', B', C', e, e1, e2, e3⟩ := rra_tog hp hB hC A [] h2 (fun x hx => by cases hx)
      refine ⟨acc ++ a :: A', B', C', by rw [e]; simp, e1, fun x hx => ?_, e3⟩
      rcases List.mem_append.1 hx with hx | hx
      · exact ha x hx
      · rcases List.mem_cons.1 hx with rfl | hx
        · exact h1
        · exact e2 x hx
theorem rr_tog {p : Nat → Bool} {S : Nat → Prop} {l : List Nat} (h : Tog S l) (hp : ∀ x, S x → p x = true) : Tog S (rr p l) := by
  obtain ⟨A, B, C, rfl, hB, hA, hC⟩ := h
  exact rra_tog (fun x hx => hp x (hB x hx)) hB hC A [] hA (fun x hx => by cases hx)
theorem visF_tog {L : List Int} {S : Nat → Prop} : ∀ (n : Nat) (l : List Nat), (∀ x, S x → (n : Int) ≤ L.getD x 0) → Tog S l → Tog S (visF L n l)
  | 0, l, _, h => h
  | n + 1, l, hS, h => visF_tog n _ (fun x hx => by have := hS x hx; omega) (rr_tog h (fun x hx => by unfold hi; rw [decide_eq_true_iff]; exact hS x hx))
/-- A run of what is n or more, between others. -/
def Cut (L : List Int) (n : Nat) (S : Nat → Prop) (l : List Nat) : Prop := ∃ A B C, l = A ++ (B ++ C) ∧ (∀ x ∈ B, S x) ∧ (∀ x ∈ A, ¬ S x) ∧ (∀ x ∈ C, ¬ S x) ∧ (∀ x, A.getLast? = some x → hi L n x = false) ∧ (∀ x, C.head? = some x → hi L n x = false)
theorem rr_last {p : Nat → Bool} {A : List Nat} {a : Nat} (h : p a = false) : rr p (A ++ [a]) = rr p A ++ [a] := by
  have := rr_cut h A []
  simpa [rr, rra] using this
theorem rr_head {p : Nat → Bool} {C : List Nat} {c : Nat} (h : p c = false) : rr p (c :: C) = c :: rr p C := by
  have := rr_cut h [] C
  simpa [rr, rra] using this
theorem list_last : ∀ (A : List Nat), A = [] ∨ ∃ A' a, A = A' ++ [a] := fun A => by
  rcases List.eq_nil_or_concat A with h | ⟨A', a, h⟩
  · exact .inl h
  · exact .inr ⟨A', a, by simpa using h⟩
theorem rr_cut3 {L : List Int} {n m : Nat} {S : Nat → Prop} {l : List Nat} (hm : n ≤ m) (h : Cut L n S l) : Cut L n S (rr (hi L m) l) := by
  obtain ⟨A, B, C, rfl, hB, hA, hC, h1, h2⟩ := h
  have low : ∀ x, hi L n x = false → hi L m x = false := fun x hx => by
    unfold hi at hx ⊢
    rw [decide_eq_false_iff_not] at hx ⊢
    omega
  have right : ∃ B' C', rr (hi L m) (B ++ C) = B' ++ C' ∧ (∀ x ∈ B', S x) ∧ (∀ x ∈ C', ¬ S x) ∧ ∀ x, C'.head? = some x → hi L n x = false := by
    cases C with
    | nil => exact ⟨rr (hi L m) B, [], by simp, fun x hx => hB x ((rr_perm _ B).mem_iff.1 hx), fun x hx => (by cases hx), fun x hx => (by cases hx)⟩
    | cons c C =>
      have hc := h2 c rfl
      refine ⟨rr (hi L m) B, c :: rr (hi L m) C, rr_cut (low c hc) B C, fun x hx => hB x ((rr_perm _ B).mem_iff.1 hx), fun x hx => ?_, fun x hx => ?_⟩
      · rcases List.mem_cons.1 hx with rfl | hx
        · exact hC _ (by simp)
        · exact hC x (by have := (rr_perm _ C).mem_iff.1 hx; simp [this])
      · obtain rfl : c = x := by simpa using hx
        exact hc
  obtain ⟨B', C', e, r1, r2, r3⟩ := right
  rcases list_last A with rfl | ⟨A', a, rfl⟩
  · exact ⟨[], B', C', by rw [List.nil_append, List.nil_append]; exact e, r1, fun x hx => (by cases hx), r2, fun x hx => (by cases hx), r3⟩
  · have ha := h1 a (by simp)
    refine ⟨rr (hi L m) A' ++ [a], B', C', ?_, r1, fun x hx => ?_, r2, fun x hx => ?_, r3⟩
    · rw [List.append_assoc, List.singleton_append, rr_cut (low a ha), e, List.append_assoc, List.singleton_append]
    · rcases List.mem_append.1 hx with hx | hx
      · exact hA x (by have := (rr_perm _ A').mem_iff.1 hx; simp [this])
      · exact hA x (by simp at hx; simp [hx])
    · obtain rfl : a = x := by simpa using hx
      exact ha
theorem visF_cut {L : List Int} {n : Nat} {S : Nat → Prop} (hS : ∀ x, S x → (n : Int) ≤ L.getD x 0) : ∀ (m : Nat) (l : List Nat), n ≤ m → Cut L (n + 1) S l ∨ Cut L n S l → n ≤ m → Cut L n S l → Tog S (visF L m l)
  | 0, l, h, _, _, hc => by
    obtain ⟨A, B, C, e, hB, hA, hC, _⟩ := hc
    exact ⟨A, B, C, e, hB, hA, hC⟩
  | m + 1, l, h, _, _, hc => by
    by_cases hn : n = m + 1
    · subst hn
      obtain ⟨A, B, C, e, hB, hA, hC, _⟩ := hc
      exact visF_tog (m + 1) l hS ⟨A, B, C, e, hB, hA, hC⟩
    · exact visF_cut hS m _ (by omega) (.inr (rr_cut3 h hc)) (by omega) (rr_cut3 h hc)
/-- What stands together with n or more is seen together. -/
theorem vis_tog {L : List Int} {n i e : Nat} (hn : n ≤ 9) (hie : i ≤ e) (heL : e ≤ L.length) (hin : ∀ x, i ≤ x → x < e → (n : Int) ≤ L.getD x 0) (hb : 0 < i → hi L n (i - 1) = false) (he : e < L.length → hi L n e = false) : Tog (fun x => i ≤ x ∧ x < e) (vis L) := by
  have hc : Cut L n (fun x => i ≤ x ∧ x < e) (List.range L.length) := by
    refine ⟨List.range i, (List.range (e - i)).map (· + i), (List.range (L.length - e)).map (· + e), ?_, ?_, ?_, ?_, ?_, ?_⟩
    · refine List.ext_getElem? fun j => ?_
      by_cases hj : j < i
      · rw [List.getElem?_append_left (by simpa using hj), List.getElem?_range hj, List.getElem?_range (by omega)]
      · rw [List.getElem?_append_right (by simp; omega), List.length_range]
        by_cases hj2 : j < e
        · rw [List.getElem?_append_left (by simp; omega), List.getElem?_map, List.getElem?_range (by omega), List.getElem?_range (by omega)]
          simp; omega
        · rw [List.getElem?_append_right (by simp; omega)]
          simp only [List.length_map, List.length_range, List.getElem?_map]
          by_cases hj3 : j < L.length
          · rw [List.getElem?_range hj3, List.getElem?_range (by omega)]
            simp; omega
          · rw [List.getElem?_eq_none (by simp; omega), List.getElem?_eq_none (by simp; omega)]
            rfl
    · intro x hx
      simp at hx
      omega
    · intro x hx
      simp at hx
      omega
    · intro x hx
      simp at hx
      omega
    · intro x hx
      have h0 : 0 < i := by
        rcases Nat.eq_zero_or_pos i with h | h
        · subst h; simp at hx
        · exact h
      have : x = i - 1 := by
        rw [List.getLast?_range] at hx
        rw [if_neg (by omega)] at hx
        exact (Option.some.inj hx).symm
      rw [this]; exact hb h0
    · intro x hx
      by_cases h : e < L.length
      · have : x = e := by
          obtain ⟨k, hk⟩ : ∃ k, L.length - e = k + 1 := ⟨L.length - e - 1, by omega⟩
          rw [hk, List.range_succ_eq_map] at hx
          simp at hx
          omega
        rw [this]; exact he h
      · rw [show L.length - e = 0 by omega] at hx
        simp at hx
  exact visF_cut (fun x hx => hin x hx.1 hx.2) 9 _ hn (.inr hc) hn hc
end Go.Proofs.YtbgmbcngkmlfeaaDoor.OP
