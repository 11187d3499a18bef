/- Plain facts: a piece of a list turned around. No conditions. -/
import Derived.Test.YtbgmbcngkmlfeaaDoorOrd1
namespace Go.Proofs.YtbgmbcngkmlfeaaDoor.OP
set_option linter.unusedVariables false
def rev (L : List Int) (f m : Nat) : List Int := L.take f ++ (((L.drop f).take m).reverse ++ L.drop (f + m))
/-- After k exchanges. -/
def sw (L : List Int) (f m k : Nat) : List Int := (List.range L.length).map fun x => if f ≤ x ∧ x < f + m ∧ (x - f < k ∨ m - 1 - k < x - f) then L.getD (f + (m - 1 - (x - f))) 0 else L.getD x 0
theorem sw_len (L : List Int) (f m k : Nat) : (sw L f m k).length = L.length := by simp [sw]
theorem sw_get {L : List Int} {f m k x : Nat} (h : x < L.length) : (sw L f m k)[x]? = some (if f ≤ x ∧ x < f + m ∧ (x - f < k ∨ m - 1 - k < x - f) then L.getD (f + (m - 1 - (x - f))) 0 else L.getD x 0) := by
  unfold sw
  rw [List.getElem?_map, List.getElem?_range h]
  rfl
theorem sw_zero (L : List Int) (f m : Nat) : sw L f m 0 = L := by
  refine List.ext_getElem? fun x => ?_
  by_cases h : x < L.length
  · rw [sw_get h, if_neg (by omega), List.getElem?_eq_getElem h]
    simp [List.getD, h]
  · rw [List.getElem?_eq_none (by rw [sw_len]; omega), List.getElem?_eq_none (by omega)]
theorem sw_lo {L : List Int} {f m k : Nat} (hm : f + m ≤ L.length) (hk : k < m - 1 - k) : (sw L f m k)[f + k]? = some (L.getD (f + k) 0) := by
  rw [sw_get (by omega), if_neg (by omega)]
theorem sw_hi {L : List Int} {f m k : Nat} (hm : f + m ≤ L.length) (hk : k < m - 1 - k) : (sw L f m k)[f + (m - 1 - k)]? = some (L.getD (f + (m - 1 - k)) 0) := by
  rw [sw_get (by omega), if_neg (by omega)]
theorem sw_step {L : List Int} {f m k : Nat} (hm : f + m ≤ L.length) (hk : k < m - 1 - k) : ((sw L f m k).set (f + k) (L.getD (f + (m - 1 - k)) 0)).set (f + (m - 1 - k)) (L.getD (f + k) 0) = sw L f m (k + 1) := by
  refine List.ext_getElem? fun x => ?_
  by_cases h : x < L.length
  · rw [sw_get h]
    by_cases h1 : x = f + (m - 1 - k)
    · subst h1
      rw [List.getElem?_set_self (by rw [List.length_set, sw_len]; omega), if_pos (by omega)]
      congr 2
      omega
    · rw [List.getElem?_set_ne (by omega)]
      by_cases h2 : x = f + k
      · subst h2
        rw [List.getElem?_set_self (by rw [sw_len]; omega), if_pos (by omega)]
        congr 2
        omega
      · rw [List.getElem?_set_ne (by omega), sw_get h]
        by_cases h3 : f ≤ x ∧ x < f + m ∧ (x - f < k ∨ m - 1 - k < x - f)
        · rw [if_pos h3, if_pos (by omega)]
        · rw [if_neg h3, if_neg (by omega)]
  · rw [List.getElem?_eq_none (by simp [sw_len]; omega), List.getElem?_eq_none (by rw [sw_len]; omega)]
theorem sw_end {L : List Int} {f m k : Nat} (hm : f + m ≤ L.length) (hk : ¬ k < m - 1 - k) : sw L f m k = rev L f m := by
  refine List.ext_getElem? fun x => ?_
  by_cases h : x < L.length
  · rw [sw_get h]
    unfold rev
    by_cases h1 : x < f
    · rw [if_neg (by omega), List.getElem?_append_left (by simp; omega), List.getElem?_take_of_lt h1, List.getElem?_eq_getElem h]
      simp [List.getD, h]
    · rw [List.getElem?_append_right (by simp; omega), List.length_take, Nat.min_eq_left (by omega)]
      by_cases h2 : x < f + m
      · rw [List.getElem?_append_left (by simp; omega), List.getElem?_reverse (by simp; omega), List.getElem?_take_of_lt (by simp; omega), List.getElem?_drop]
        have hl : ((L.drop f).take m).length = m := by simp; omega
        rw [hl, List.getElem?_eq_getElem (by omega)]
        by_cases h3 : x - f < k ∨ m - 1 - k < x - f
        · rw [if_pos ⟨by omega, h2, h3⟩]
          simp [List.getD, List.getElem?_eq_getElem (show f + (m - 1 - (x - f)) < L.length by omega)]
        · rw [if_neg (by omega)]
          have e : f + (m - 1 - (x - f)) = x := by omega
          simp [List.getD, h, e]
      · rw [if_neg (by omega), List.getElem?_append_right (by simp; omega), List.getElem?_drop]
        have e : f + m + (x - f - (((L.drop f).take m).reverse).length) = x := by simp; omega
        rw [e, List.getElem?_eq_getElem h]
        simp [List.getD, h]
  · have hl : (rev L f m).length = L.length := by unfold rev; simp; omega
    rw [List.getElem?_eq_none (by rw [sw_len]; omega), List.getElem?_eq_none (by omega)]
theorem rev_len {L : List Int} {f m : Nat} (hm : f + m ≤ L.length) : (rev L f m).length = L.length := by unfold rev; simp; omega
/-- What lies in the row when all before e has been done. -/
def vp (p : Nat → Bool) (l : List Nat) (e : Nat) : List Nat := (rr p l).take e ++ l.drop e
def ints (l : List Nat) : List Int := l.map fun (i : Nat) => (i : Int)
theorem ints_len (l : List Nat) : (ints l).length = l.length := by simp [ints]
theorem rr_len (p : Nat → Bool) (l : List Nat) : (rr p l).length = l.length := (rr_perm p l).length_eq
theorem vp_zero (p : Nat → Bool) (l : List Nat) : vp p l 0 = l := by simp [vp]
theorem vp_end {p : Nat → Bool} {l : List Nat} {n : Nat} (h : l.length = n) : vp p l n = rr p l := by
  unfold vp
  rw [List.take_of_length_le (by rw [rr_len]; omega), List.drop_of_length_le (by omega), List.append_nil]
theorem vp_len {p : Nat → Bool} {l : List Nat} {e : Nat} (h : e ≤ l.length) : (vp p l e).length = l.length := by
  unfold vp
  rw [List.length_append, List.length_take, List.length_drop, rr_len]
  omega
theorem vp_ge {p : Nat → Bool} {l : List Nat} {e i : Nat} (he : e ≤ l.length) (h : e ≤ i) : (vp p l e)[i]? = l[i]? := by
  unfold vp
  rw [List.getElem?_append_right (by rw [List.length_take, rr_len]; omega), List.length_take, rr_len, Nat.min_eq_left he, List.getElem?_drop]
  congr 1
  omega
theorem rr_run {p : Nat → Bool} {A Z D : List Nat} (hA : ∀ x, A.getLast? = some x → p x = false) (hZ : ∀ x ∈ Z, p x = true) (hD : ∀ x, D.head? = some x → p x = false) : rr p (A ++ (Z ++ D)) = rr p A ++ (Z.reverse ++ rr p D) := by
  have right : rr p (Z ++ D) = Z.reverse ++ rr p D := by
    cases D with
    | nil => rw [List.append_nil, rr_all hZ]; simp [rr, rra]
    | cons d D =>
      have hd := hD d rfl
      rw [rr_cut hd, rr_all hZ, rr_head hd]
  rcases list_last A with rfl | ⟨A', a, rfl⟩
  · rw [List.nil_append, right]
    simp [rr, rra]
  · have ha := hA a (by simp)
    rw [List.append_assoc, List.singleton_append, rr_cut ha, right, rr_last ha, List.append_assoc, List.singleton_append]
theorem rr_gap {p : Nat → Bool} : ∀ {Z A D : List Nat}, (∀ x ∈ Z, p x = false) → rr p (A ++ (Z ++ D)) = if Z = [] then rr p (A ++ D) else rr p A ++ (Z ++ rr p D)
  | [], A, D, _ => by simp
  | z :: Z, A, D, h => by
    rw [if_neg (by simp), List.cons_append, rr_cut (h z (by simp))]
    have := rr_gap (p := p) (Z := Z) (A := []) (D := D) (fun x hx => h x (by simp [hx]))
    rw [List.nil_append, List.nil_append] at this
    rw [this]
    split
    · rename_i e; rw [e]; rfl
    · simp [rr, rra]
theorem split3 (l : List Nat) {f t : Nat} (hft : f ≤ t) : l = l.take f ++ ((l.drop f).take (t - f) ++ l.drop t) := by
  conv => lhs; rw [← List.take_append_drop f l]
  congr 1
  conv => lhs; rw [← List.take_append_drop (t - f) (l.drop f)]
  rw [List.drop_drop]
  congr 2
  omega
theorem mid_mem {l : List Nat} {f t x : Nat} (ht : t ≤ l.length) (h : x ∈ (l.drop f).take (t - f)) : ∃ i, f ≤ i ∧ i < t ∧ l[i]? = some x := by
  obtain ⟨i, hi, e⟩ := List.mem_iff_getElem.1 h
  simp at hi
  simp at e
  exact ⟨f + i, by omega, by omega, by rw [List.getElem?_eq_getElem (by omega), e]⟩
theorem vp_true {p : Nat → Bool} {l : List Nat} {f t : Nat} (hft : f < t) (ht : t ≤ l.length) (hz : ∀ i x, f ≤ i → i < t → l[i]? = some x → p x = true) (hb : 0 < f → ∀ x, l[f - 1]? = some x → p x = false) (hn : ∀ x, l[t]? = some x → p x = false) :
    ints (vp p l t) = rev (ints (vp p l f)) f (t - f) := by
  have e := split3 l (Nat.le_of_lt hft)
  have hr := rr_run (p := p) (A := l.take f) (Z := (l.drop f).take (t - f)) (D := l.drop t) (fun x hx => by
      rcases Nat.eq_zero_or_pos f with h0 | h0
      · subst h0; simp at hx
      · refine hb h0 x ?_
        rw [List.getLast?_eq_getElem?, List.length_take, Nat.min_eq_left (by omega), List.getElem?_take_of_lt (by omega)] at hx
        exact hx)
    (fun x hx => by obtain ⟨i, h1, h2, h3⟩ := mid_mem ht hx; exact hz i x h1 h2 h3)
    (fun x hx => by
      rw [List.head?_eq_getElem?, List.getElem?_drop] at hx
      exact hn x (by simpa using hx))
  rw [← e] at hr
  have hA : (rr p (l.take f)).length = f := by rw [rr_len, List.length_take]; omega
  have hZ : ((l.drop f).take (t - f)).length = t - f := by simp; omega
  have e1 : vp p l t = rr p (l.take f) ++ (((l.drop f).take (t - f)).reverse ++ l.drop t) := by
    unfold vp
    rw [hr, ← List.append_assoc, List.take_append_of_le_length (by rw [List.length_append, List.length_reverse, hA, hZ]; omega), List.take_of_length_le (by rw [List.length_append, List.length_reverse, hA, hZ]; omega), List.append_assoc]
  have e2 : vp p l f = rr p (l.take f) ++ ((l.drop f).take (t - f) ++ l.drop t) := by
    unfold vp
    rw [hr, List.take_append_of_le_length (by omega), List.take_of_length_le (by omega)]
    congr 1
    conv => lhs; rw [← List.take_append_drop (t - f) (l.drop f)]
    rw [List.drop_drop]
    congr 2
    omega
  rw [e1, e2]
  generalize (l.drop f).take (t - f) = Z at hZ
  generalize rr p (l.take f) = A at hA
  generalize l.drop t = D
  unfold rev ints
  simp only [List.map_append]
  have hA' : (A.map fun (i : Nat) => (i : Int)).length = f := by simpa using hA
  have hZ' : (Z.map fun (i : Nat) => (i : Int)).length = t - f := by simpa using hZ
  rw [List.take_append_of_le_length (by omega), List.take_of_length_le (by omega), List.drop_append_of_le_length (by omega), List.drop_of_length_le (l := A.map _) (by omega), List.nil_append, List.take_append_of_le_length (by omega), List.take_of_length_le (l := Z.map _) (by omega), List.map_reverse]
  congr 2
  rw [← List.append_assoc, List.drop_append_of_le_length (by rw [List.length_append]; omega), List.drop_of_length_le (by rw [List.length_append]; omega), List.nil_append]
theorem vp_false {p : Nat → Bool} {l : List Nat} {f t : Nat} (hft : f < t) (ht : t ≤ l.length) (hz : ∀ i x, f ≤ i → i < t → l[i]? = some x → p x = false) : vp p l t = vp p l f := by
  have e := split3 l (Nat.le_of_lt hft)
  have hr := rr_gap (p := p) (A := l.take f) (Z := (l.drop f).take (t - f)) (D := l.drop t) (fun x hx => by obtain ⟨i, h1, h2, h3⟩ := mid_mem ht hx; exact hz i x h1 h2 h3)
  have hZ : ((l.drop f).take (t - f)).length = t - f := by simp; omega
  rw [if_neg (fun e => by rw [e] at hZ; simp at hZ; omega), ← e] at hr
  have hA : (rr p (l.take f)).length = f := by rw [rr_len, List.length_take]; omega
  have e1 : vp p l t = rr p (l.take f) ++ ((l.drop f).take (t - f) ++ l.drop t) := by
    unfold vp
    rw [hr, ← List.append_assoc, List.take_append_of_le_length (by rw [List.length_append, hA, hZ]; omega), List.take_of_length_le (by rw [List.length_append, hA, hZ]; omega), List.append_assoc]
  have e2 : vp p l f = rr p (l.take f) ++ ((l.drop f).take (t - f) ++ l.drop t) := by
    unfold vp
    rw [hr, List.take_append_of_le_length (by omega), List.take_of_length_le (by omega)]
    congr 1
    conv => lhs; rw [← List.take_append_drop (t - f) (l.drop f)]
    rw [List.drop_drop]
    congr 2
    omega
  rw [e1, e2]
end Go.Proofs.YtbgmbcngkmlfeaaDoor.OP
