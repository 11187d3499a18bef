/- Without some bytes at its end nothing can be read. Plain facts. -/
import Derived.Test.YtkakjpkgbbpjdaaWireRound
namespace Go.Proofs.Ytkakjpkgbbpjdaa.WP
open Go.RowKit

theorem rd_cut : ∀ (f c k acc : Nat) (q t : List UInt8), t ≠ [] → E f c = q ++ t → rd q k acc = none := by
  have one : ∀ (b : UInt8) (k acc : Nat) (q t : List UInt8), t ≠ [] → [b] = q ++ t → rd q k acc = none := by
    intro b k acc q t ht h
    cases q with
    | nil => rfl
    | cons x q =>
      simp only [List.cons_append, List.cons.injEq] at h
      have h2 := h.2
      rcases List.append_eq_nil_iff.1 h2.symm with ⟨_, h3⟩
      exact absurd h3 ht
  intro f
  induction f with
  | zero => intro c k acc q t ht h; exact one _ k acc q t ht h
  | succ f ih =>
    intro c k acc q t ht h
    rw [E] at h
    split at h
    · exact one _ k acc q t ht h
    · cases q with
      | nil => rfl
      | cons x q =>
        simp only [List.cons_append, List.cons.injEq] at h
        obtain ⟨rfl, h2⟩ := h
        have e : (UInt8.ofNat (c % 128 + 128)).toNat = c % 128 + 128 := by simp; omega
        rw [rd, e]
        split
        · rfl
        · rw [if_neg (by omega)]
          exact ih _ _ _ q t ht h2
theorem int_cut {r : RS} {n : Int} {q t : List UInt8} (hb : r.bad = false) (h : r.s.drop r.p = q) (ht : t ≠ []) (he : int n = q ++ t) : r.int = (0, r.fail) := by
  unfold RS.int
  rw [if_neg (by simp [hb]), h, rd_cut 9 (zz n) 0 0 q t ht (by rw [← enc_E]; exact he)]
theorem count_cut {r : RS} {n : Nat} {q t y : List UInt8} (hb : r.bad = false) (hp : r.p ≤ r.s.length) (h : r.s.drop r.p = q) (ht : t ≠ []) (he : int n ++ y = q ++ t) (h2 : n ≤ 9223372036854775807) :
    r.count.2.bad = true ∨ ∃ q', y = q' ++ t ∧ q = int n ++ q' := by
  have early : ∀ t', t' ≠ [] → int n = q ++ t' → r.count.2.bad = true := fun t' ht' h' => by
    unfold RS.count
    rw [int_cut hb h ht' h']
    simp [RS.fail]
  rcases List.append_eq_append_iff.1 he with ⟨a, h1, h3⟩ | ⟨c, h1, h3⟩
  · exact Or.inr ⟨a, h3, h1⟩
  · by_cases hc : c = []
    · subst hc
      simp at h1 h3
      exact Or.inr ⟨[], by simp [h3], by simp [h1]⟩
    · exact Or.inl (early c hc h1)
theorem count_much {r : RS} {n : Nat} {q' : List UInt8} (hb : r.bad = false) (hp : r.p ≤ r.s.length) (h : r.s.drop r.p = int n ++ q') (h2 : n ≤ 9223372036854775807) (hn : q'.length < n) : r.count.2.bad = true := by
  have hi := int_read (r := r) hb h (by omega) (by omega)
  have hl := drop_len hp h
  unfold RS.count
  rw [hi]
  simp only [hb, Bool.false_eq_true, if_false, RS.left]
  rw [if_pos (by omega)]
  rfl
def Cuts {α : Type} (one : RS → α × RS) (f : α → List UInt8) (ok : α → Prop) : Prop :=
  ∀ (x : α) (r : RS) (q t : List UInt8), ok x → r.bad = false → r.p ≤ r.s.length → r.s.drop r.p = q → t ≠ [] → f x = q ++ t → (one r).2.bad = true
theorem cuts_int : Cuts RS.int int inR := fun _ r _ _ _ hb _ hd ht he => by rw [int_cut hb hd ht he]; rfl
theorem cuts_text : Cuts RS.text text (fun x => x.length ≤ 9223372036854775807) := fun x r q t hx hb hp hd ht he => by
  have key : r.count.2.bad = true := by
    rcases count_cut (n := x.length) (y := x) hb hp hd ht he hx with h | ⟨q', h1, h2⟩
    · exact h
    · refine count_much hb hp (hd.trans h2) hx ?_
      have := congrArg List.length h1
      simp only [List.length_append] at this
      have := List.length_pos_iff.2 ht
      omega
  unfold RS.text
  rw [if_pos key]
  exact key
theorem elems_cut {α : Type} {one : RS → α × RS} {f : α → List UInt8} {ok : α → Prop} (h1 : Reads one f ok) (h2 : Cuts one f ok) : ∀ (L : List α) (acc : List α) (r : RS) (q t : List UInt8), (∀ x, x ∈ L → ok x) → r.bad = false → r.p ≤ r.s.length → r.s.drop r.p = q → t ≠ [] → L.flatMap f = q ++ t →
    (elems one L.length acc r).2.bad = true
  | [], acc, r, q, t, _, _, _, _, ht, he => by
    rcases List.append_eq_nil_iff.1 he.symm with ⟨_, h3⟩
    exact absurd h3 ht
  | x :: L, acc, r, q, t, ho, hb, hp, hd, ht, he => by
    rw [List.flatMap_cons] at he
    rw [List.length_cons, elems_next one _ _ _ hb]
    have go : ∀ a, q = f x ++ a → L.flatMap f = a ++ t → (elems one L.length (acc ++ [(one r).1]) (one r).2).2.bad = true := fun a e1 e2 => by
      have e := h1 x r a (ho x (List.mem_cons_self ..)) hb hp (hd.trans e1)
      have hl := drop_len hp (hd.trans e1)
      rw [e]
      exact elems_cut h1 h2 L _ _ a t (fun y hy => ho y (List.mem_cons_of_mem _ hy)) hb (by simp only; omega) (drop_next (hd.trans e1)) ht e2
    rcases List.append_eq_append_iff.1 he with ⟨a, e1, e2⟩ | ⟨c, e1, e2⟩
    · exact go a e1 e2
    · by_cases hc : c = []
      · subst hc
        simp at e1 e2
        exact go [] (by simp [e1]) (by simp [e2])
      · have hbad := h2 x r q c (ho x (List.mem_cons_self ..)) hb hp hd hc e1
        rw [elems_bad one _ _ _ hbad]
        exact hbad
theorem elements_cut {α : Type} {one : RS → α × RS} {f : α → List UInt8} {ok : α → Prop} (h1 : Reads one f ok) (h2 : Cuts one f ok) {L : List α} {r : RS} {q t : List UInt8} (ho : ∀ x, x ∈ L → ok x) (hb : r.bad = false) (hp : r.p ≤ r.s.length)
    (hd : r.s.drop r.p = q) (ht : t ≠ []) (he : int L.length ++ L.flatMap f = q ++ t) (hL : L.length ≤ 9223372036854775807) : ∃ r', r.elements one = ([], r') ∧ r'.bad = true ∧ r'.s.length ≤ r'.s.length := by
  have key : (elems one r.count.1.toNat [] r.count.2).2.bad = true := by
    rcases count_cut hb hp hd ht he hL with h | ⟨q', e1, e2⟩
    · rw [elems_bad one _ _ _ h]; exact h
    · rcases Nat.lt_or_ge q'.length L.length with g | g
      · have h := count_much hb hp (hd.trans e2) hL g
        rw [elems_bad one _ _ _ h]; exact h
      · have hc := count_read hb hp (hd.trans e2) g hL
        have hl := drop_len hp (hd.trans e2)
        rw [hc]
        exact elems_cut h1 h2 L [] _ q' t ho hb (by simp only; omega) (drop_next (hd.trans e2)) ht e1
  exact ⟨(elems one r.count.1.toNat [] r.count.2).2, by unfold RS.elements; rw [if_pos key], key, Nat.le_refl _⟩
theorem int_of_bad {r : RS} (h : r.bad = true) : r.int = (0, r) := by unfold RS.int; rw [if_pos h]
theorem text_of_bad {r : RS} (h : r.bad = true) : r.text = ([], r) := by
  have hc : r.count = (0, r) := by unfold RS.count; rw [int_of_bad h]; simp [h]
  unfold RS.text; rw [hc]; simp [h]
theorem left_of_bad {r : RS} (h : r.bad = true) : r.left = 0 := by unfold RS.left; rw [if_pos h]
theorem ints_cut {L : List Int} {c : Nat} (ho : ∀ x, x ∈ L → inR x) (hc : c < (ints L).length) (hL : L.length ≤ 9223372036854775807) : ∃ r', (⟨(ints L).take c, 0, false⟩ : RS).ints = ([], r') ∧ r'.bad = true := by
  obtain ⟨r', h1, h2, _⟩ := elements_cut reads_int cuts_int (r := ⟨(ints L).take c, 0, false⟩) (q := (ints L).take c) (t := (ints L).drop c) ho rfl (Nat.zero_le _) (by simp) (by simp; omega) (List.take_append_drop _ _).symm hL
  exact ⟨r', h1, h2⟩
theorem texts_cut {L : List (List UInt8)} {c : Nat} (ho : ∀ x, x ∈ L → x.length ≤ 9223372036854775807) (hc : c < (texts L).length) (hL : L.length ≤ 9223372036854775807) : ∃ r', (⟨(texts L).take c, 0, false⟩ : RS).texts = ([], r') ∧ r'.bad = true := by
  obtain ⟨r', h1, h2, _⟩ := elements_cut reads_text cuts_text (r := ⟨(texts L).take c, 0, false⟩) (q := (texts L).take c) (t := (texts L).drop c) ho rfl (Nat.zero_le _) (by simp) (by simp; omega) (List.take_append_drop _ _).symm hL
  exact ⟨r', h1, h2⟩
end Go.Proofs.Ytkakjpkgbbpjdaa.WP
