/- Plain facts: gaps and what they are filled with. No conditions. -/
import Derived.Test.YtbgmbcngkmlfeaaDoorOrd2
namespace Go.Proofs.YtbgmbcngkmlfeaaDoor.OP
set_option linter.unusedVariables false
theorem fil_get {b : Int} : ∀ (R : List Int) (prev : Int) (i : Nat) (x : Int), R[i]? = some x → x ≠ 0 → (fil b prev R)[i]? = some x
  | [], _, i, x, h, _ => by simp at h
  | r :: R, prev, 0, x, h, hx => by
    obtain rfl : r = x := by simpa using h
    rw [fil, if_neg hx]
    rfl
  | r :: R, prev, i + 1, x, h, hx => by
    rw [List.getElem?_cons_succ] at h
    unfold fil
    split
    · rw [List.getElem?_cons_succ]; exact fil_get R prev i x h hx
    · rw [List.getElem?_cons_succ]; exact fil_get R r i x h hx
theorem nx_cut {b a : Int} (ha : a ≠ 0) : ∀ (A B C : List Int), nx b (A ++ a :: B) = nx b (A ++ a :: C)
  | [], B, C => by simp [nx, ha]
  | x :: A, B, C => by
    rw [List.cons_append, List.cons_append, nx, nx, nx_cut ha A B C]
theorem fil_cut {b a : Int} (ha : a ≠ 0) : ∀ (A : List Int) (prev : Int) (B : List Int), ∃ X, X.length = A.length ∧ fil b prev (A ++ a :: B) = X ++ a :: fil b a B
  | [], prev, B => ⟨[], rfl, by rw [List.nil_append, List.nil_append, fil, if_neg ha]⟩
  | x :: A, prev, B => by
    rw [List.cons_append, fil]
    split
    · obtain ⟨X, h1, h2⟩ := fil_cut ha A prev B
      exact ⟨_ :: X, by simp [h1], by rw [h2, List.cons_append]⟩
    · obtain ⟨X, h1, h2⟩ := fil_cut ha A x B
      exact ⟨_ :: X, by simp [h1], by rw [h2, List.cons_append]⟩
theorem nx_drop {b : Int} {R : List Int} {t : Nat} (h : ∀ x, R[t]? = some x → x ≠ 0) : nx b (R.drop t) = R.getD t b := by
  by_cases ht : t < R.length
  · rw [List.drop_eq_getElem_cons ht, nx, if_neg (h _ (List.getElem?_eq_getElem ht))]
    simp [List.getD, ht]
  · rw [List.drop_of_length_le (by omega)]
    simp [nx, List.getD, List.getElem?_eq_none (Nat.le_of_not_lt ht)]
theorem zeros_drop {R : List Int} {f t : Nat} (hft : f ≤ t) (htl : t ≤ R.length) (hz : ∀ i, f ≤ i → i < t → R[i]? = some 0) : R.drop f = List.replicate (t - f) 0 ++ R.drop t := by
  have h1 : (R.drop f).take (t - f) = List.replicate (t - f) 0 := by
    refine List.eq_replicate_iff.2 ⟨by simp; omega, fun x hx => ?_⟩
    obtain ⟨i, hi, e⟩ := List.mem_iff_getElem.1 hx
    simp at hi
    have := hz (f + i) (by omega) (by omega)
    simp at e
    rw [List.getElem?_eq_getElem (by omega)] at this
    rw [← e]
    exact Option.some.inj this
  conv => lhs; rw [← List.take_append_drop (t - f) (R.drop f)]
  rw [h1, List.drop_drop]
  congr 2
  omega
/-- What a gap is filled with. -/
def gapd (b : Int) (F R : List Int) (f t : Nat) : Int := if (if f = 0 then b else F.getD (f - 1) b) = R.getD t b then (if f = 0 then b else F.getD (f - 1) b) else b
theorem fil_gap {b : Int} {R : List Int} {f t : Nat} (hft : f < t) (htl : t ≤ R.length) (hz : ∀ i, f ≤ i → i < t → R[i]? = some 0) (hp : 0 < f → ∀ x, R[f - 1]? = some x → x ≠ 0) (hn : ∀ x, R[t]? = some x → x ≠ 0) :
    ∀ i, f ≤ i → i < t → (fil b b R)[i]? = some (gapd b (fil b b R) R f t) := by
  intro i h1 h2
  rcases Nat.eq_zero_or_pos f with h0 | h0
  · subst h0
    have e : R = List.replicate (t - 0) 0 ++ R.drop t := by simpa using zeros_drop (Nat.zero_le t) htl hz
    have : fil b b R = List.replicate (t - 0) (if b = nx b (R.drop t) then b else b) ++ fil b b (R.drop t) := by
      conv => lhs; rw [e]
      exact fil_zeros b b _ _
    rw [this, List.getElem?_append_left (by simp; omega), List.getElem?_replicate_of_lt (by omega)]
    unfold gapd
    simp
  · have hfl : f - 1 < R.length := by omega
    obtain ⟨a, ha⟩ : ∃ a, R[f - 1]? = some a := ⟨_, List.getElem?_eq_getElem hfl⟩
    have ha0 := hp h0 a ha
    have e1 : R = R.take (f - 1) ++ a :: R.drop f := by
      conv => lhs; rw [← List.take_append_drop (f - 1) R]
      rw [List.drop_eq_getElem_cons hfl, show f - 1 + 1 = f by omega]
      rw [List.getElem?_eq_getElem hfl] at ha
      rw [Option.some.inj ha]
    obtain ⟨X, hX, e2⟩ := fil_cut (b := b) ha0 (R.take (f - 1)) b (R.drop f)
    rw [← e1] at e2
    have hXl : X.length = f - 1 := by rw [hX, List.length_take]; omega
    rw [zeros_drop (Nat.le_of_lt hft) htl hz, fil_zeros] at e2
    have g1 : (fil b b R).getD (f - 1) b = a := by
      rw [e2]
      simp [List.getD, ← hXl]
    have g2 : (fil b b R)[i]? = some (if a = nx b (R.drop t) then a else b) := by
      rw [e2, List.getElem?_append_right (by omega), hXl]
      obtain ⟨j, hj⟩ : ∃ j, i - (f - 1) = j + 1 := ⟨i - f, by omega⟩
      rw [hj, List.getElem?_cons_succ, List.getElem?_append_left (by simp; omega), List.getElem?_replicate_of_lt (by omega)]
    rw [g2, nx_drop hn]
    unfold gapd
    simp only [if_neg (show ¬ f = 0 by omega), g1]
theorem res_get : ∀ (last : Int) (K : List Int) (i : Nat) (k : Int), last ≠ 0 → K[i]? = some k → ∃ r, (res last K)[i]? = some r ∧ (r = 0 ↔ k = 0)
  | last, [], i, k, _, h => by simp at h
  | last, x :: K, 0, k, hl, h => by
    obtain rfl : x = k := by simpa using h
    unfold res
    split
    · exact ⟨x, rfl, Iff.rfl⟩
    · by_cases h0 : x = 0
      · exact ⟨0, by simp [h0], by simp [h0]⟩
      · exact ⟨last, by simp [h0], by simp [h0, hl]⟩
  | last, x :: K, i + 1, k, hl, h => by
    rw [List.getElem?_cons_succ] at h
    unfold res
    split
    · rename_i hx
      obtain ⟨r, h1, h2⟩ := res_get x K i k (by omega) h
      exact ⟨r, by rw [List.getElem?_cons_succ]; exact h1, h2⟩
    · obtain ⟨r, h1, h2⟩ := res_get last K i k hl h
      exact ⟨r, by rw [List.getElem?_cons_succ]; exact h1, h2⟩
/-- What lies in the row when all before f has been filled. -/
def part (b : Int) (K : List Int) (f : Nat) : List Int := (dirs b K).take f ++ (res b K).drop f
theorem part_zero (b : Int) (K : List Int) : part b K 0 = res b K := by simp [part]
theorem part_end {b : Int} {K : List Int} {n : Nat} (h : K.length = n) : part b K n = dirs b K := by
  unfold part
  rw [List.take_of_length_le (by rw [dirs_len]; omega), List.drop_of_length_le (by rw [res_len]; omega), List.append_nil]
theorem part_len (b : Int) (K : List Int) (f : Nat) (h : f ≤ K.length) : (part b K f).length = K.length := by
  unfold part
  rw [List.length_append, List.length_take, List.length_drop, dirs_len, res_len]
  omega
theorem part_lt {b : Int} {K : List Int} {f i : Nat} (hf : f ≤ K.length) (h : i < f) : (part b K f)[i]? = (dirs b K)[i]? := by
  unfold part
  rw [List.getElem?_append_left (by rw [List.length_take, dirs_len]; omega), List.getElem?_take_of_lt h]
theorem part_ge {b : Int} {K : List Int} {f i : Nat} (hf : f ≤ K.length) (h : f ≤ i) : (part b K f)[i]? = (res b K)[i]? := by
  unfold part
  rw [List.getElem?_append_right (by rw [List.length_take, dirs_len]; omega), List.length_take, dirs_len, Nat.min_eq_left hf, List.getElem?_drop]
  congr 1
  omega
theorem part_skip {b : Int} {K : List Int} {f t : Nat} (hb : b ≠ 0) (hft : f ≤ t) (ht : t ≤ K.length) (hk : ∀ i y, f ≤ i → i < t → K[i]? = some y → y ≠ 0) : part b K t = part b K f := by
  refine List.ext_getElem? fun i => ?_
  by_cases h1 : i < f
  · rw [part_lt ht (by omega), part_lt (by omega) h1]
  · by_cases h2 : i < t
    · rw [part_lt ht h2, part_ge (by omega) (by omega)]
      obtain ⟨r, h3, h4⟩ := res_get b K i (K[i]'(by omega)) hb (List.getElem?_eq_getElem (by omega))
      have h5 := hk i _ (by omega) h2 (List.getElem?_eq_getElem (by omega))
      rw [h3]
      exact fil_get _ _ _ _ h3 (fun e => h5 (h4.1 e))
    · rw [part_ge ht (by omega), part_ge (by omega) (by omega)]
/-- The gap, as the program sees it. -/
def side (b : Int) (C : List Int) (i : Int) : Int := if i < 0 ∨ (C.length : Int) ≤ i then b else C.getD i.toNat b
def fillD (b : Int) (C : List Int) (f t : Nat) : Int := if side b C ((f : Int) - 1) = side b C (t : Int) then side b C ((f : Int) - 1) else b
/-- After some places of the gap. -/
def some' (b : Int) (K : List Int) (f j : Nat) (d : Int) : List Int := (part b K f).take f ++ List.replicate (j - f) d ++ (part b K f).drop j
theorem part_gap {b : Int} {K : List Int} {f t : Nat} (hb : b ≠ 0) (hft : f < t) (ht : t ≤ K.length) (hk : ∀ i y, f ≤ i → i < t → K[i]? = some y → y = 0) (hp : 0 < f → ∀ y, K[f - 1]? = some y → y ≠ 0) (hn : ∀ y, K[t]? = some y → y ≠ 0) :
    ∀ i, f ≤ i → i < t → (dirs b K)[i]? = some (fillD b (part b K f) f t) := by
  have hR : ∀ (i : Nat) (y : Int), K[i]? = some y → ∃ r : Int, (res b K)[i]? = some r ∧ (r = 0 ↔ y = 0) := fun i y h => res_get b K i y hb h
  have hK : ∀ i : Nat, i < K.length → K[i]? = some (K[i]!) := fun i h => by rw [List.getElem?_eq_getElem h]; simp [h]
  have z1 : ∀ i, f ≤ i → i < t → (res b K)[i]? = some 0 := fun i h1 h2 => by
    obtain ⟨r, h3, h4⟩ := hR i _ (hK i (by omega))
    rw [h3, h4.2 (hk i _ h1 h2 (hK i (by omega)))]
  have z2 : 0 < f → ∀ x, (res b K)[f - 1]? = some x → x ≠ 0 := fun h0 x hx => by
    obtain ⟨r, h3, h4⟩ := hR (f - 1) _ (hK (f - 1) (by omega))
    rw [h3] at hx
    cases hx
    exact fun e => hp h0 _ (hK (f - 1) (by omega)) (h4.1 e)
  have z3 : ∀ x, (res b K)[t]? = some x → x ≠ 0 := fun x hx => by
    by_cases h : t < K.length
    · obtain ⟨r, h3, h4⟩ := hR t _ (hK t h)
      rw [h3] at hx
      cases hx
      exact fun e => hn _ (hK t h) (h4.1 e)
    · rw [List.getElem?_eq_none (by rw [res_len]; omega)] at hx
      cases hx
  have e : fillD b (part b K f) f t = gapd b (fil b b (res b K)) (res b K) f t := by
    have s1 : side b (part b K f) ((f : Int) - 1) = if f = 0 then b else (fil b b (res b K)).getD (f - 1) b := by
      unfold side
      rw [part_len b K f (by omega)]
      by_cases h0 : f = 0
      · rw [if_pos (by omega), if_pos h0]
      · rw [if_neg (by omega), if_neg h0, show ((f : Int) - 1).toNat = f - 1 by omega]
        simp only [List.getD]
        rw [part_lt (by omega) (by omega)]
        rfl
    have s2 : side b (part b K f) (t : Int) = (res b K).getD t b := by
      unfold side
      rw [part_len b K f (by omega)]
      by_cases h0 : t < K.length
      · rw [if_neg (by omega), Int.toNat_natCast]
        simp only [List.getD]
        rw [part_ge (by omega) (by omega)]
      · rw [if_pos (by omega)]
        simp [List.getD, List.getElem?_eq_none (show (res b K).length ≤ t by rw [res_len]; omega)]
    unfold fillD gapd
    rw [s1, s2]
  rw [e]
  exact fil_gap hft (by rw [res_len]; exact ht) z1 z2 z3
theorem some_start (b : Int) (K : List Int) (f : Nat) (d : Int) : some' b K f f d = part b K f := by
  unfold some'
  rw [Nat.sub_self, List.replicate_zero, List.append_nil, List.take_append_drop]
theorem some_len {b : Int} {K : List Int} {f j : Nat} {d : Int} (h : f ≤ j) (hj : j ≤ K.length) : (some' b K f j d).length = K.length := by
  have := part_len b K f (by omega)
  unfold some'
  simp only [List.length_append, List.length_take, List.length_replicate, List.length_drop, this]
  omega
theorem some_step {b : Int} {K : List Int} {f j : Nat} {d : Int} (h : f ≤ j) (hj : j < K.length) : (some' b K f j d).set j d = some' b K f (j + 1) d := by
  have hl := part_len b K f (by omega)
  unfold some'
  have e : (part b K f).drop j = (part b K f)[j]'(by omega) :: (part b K f).drop (j + 1) := List.drop_eq_getElem_cons _
  rw [e, List.set_append_right _ _ (by simp [hl]; omega)]
  have : j - ((part b K f).take f ++ List.replicate (j - f) d).length = 0 := by simp [hl]; omega
  rw [this, List.set_cons_zero, show j + 1 - f = (j - f) + 1 by omega, List.replicate_succ']
  simp
theorem some_end {b : Int} {K : List Int} {f t : Nat} {d : Int} (hft : f ≤ t) (ht : t ≤ K.length) (h : ∀ i, f ≤ i → i < t → (dirs b K)[i]? = some d) : some' b K f t d = part b K t := by
  have hl := part_len b K f (by omega)
  refine List.ext_getElem? fun i => ?_
  unfold some'
  by_cases h1 : i < f
  · rw [List.append_assoc, List.getElem?_append_left (by simp [hl]; omega), List.getElem?_take_of_lt h1, part_lt (by omega) h1, part_lt ht (by omega)]
  · by_cases h2 : i < t
    · rw [List.getElem?_append_left (by simp [hl]; omega), List.getElem?_append_right (by simp [hl]; omega), List.length_take, hl, Nat.min_eq_left (by omega), List.getElem?_replicate_of_lt (by omega), part_lt ht h2, h i (by omega) h2]
    · rw [List.getElem?_append_right (by simp [hl]; omega), part_ge ht (by omega), List.getElem?_drop, part_ge (by omega) (by simp [hl]; omega)]
      congr 1
      simp [hl]
      omega
/-- The first loop. -/
def early (b : Int) (K : List Int) (i : Nat) : List Int := res b (K.take i) ++ K.drop i
theorem early_zero (b : Int) (K : List Int) : early b K 0 = K := by simp [early, res]
theorem early_end {b : Int} {K : List Int} {n : Nat} (h : K.length = n) : early b K n = res b K := by
  unfold early
  rw [List.take_of_length_le (by omega), List.drop_of_length_le (by omega), List.append_nil]
theorem early_len (b : Int) (K : List Int) (i : Nat) (h : i ≤ K.length) : (early b K i).length = K.length := by
  unfold early
  rw [List.length_append, res_len, List.length_take, List.length_drop]
  omega
theorem early_next {b : Int} {K : List Int} {i : Nat} {k : Int} (hk : K[i]? = some k) : early b K (i + 1) = (early b K i).set i (if k = 1 ∨ k = 2 then k else if k = 0 then 0 else lst b (K.take i)) ∧ lst b (K.take (i + 1)) = (if k = 1 ∨ k = 2 then k else lst b (K.take i)) := by
  obtain ⟨hi, e⟩ := List.getElem?_eq_some_iff.1 hk
  have ht : K.take (i + 1) = K.take i ++ [k] := by rw [List.take_add_one, hk]; rfl
  have hl : (res b (K.take i)).length = i := by rw [res_len, List.length_take]; omega
  refine ⟨?_, by rw [ht, lst_snoc]⟩
  unfold early
  rw [ht, res_snoc, List.drop_eq_getElem_cons hi, List.set_append_right _ _ (by omega), hl, Nat.sub_self, List.set_cons_zero, List.append_assoc]
  rfl
theorem early_at {b : Int} {K : List Int} {i : Nat} {k : Int} (hk : K[i]? = some k) : (early b K i)[i]? = some k := by
  obtain ⟨hi, e⟩ := List.getElem?_eq_some_iff.1 hk
  have hl : (res b (K.take i)).length = i := by rw [res_len, List.length_take]; omega
  unfold early
  rw [List.getElem?_append_right (by omega), hl, Nat.sub_self, List.getElem?_drop, Nat.add_zero]
  exact hk
theorem early_same {b : Int} {K : List Int} {i : Nat} {k : Int} (hk : K[i]? = some k) : (early b K i).set i k = early b K i := by
  have h := early_at (b := b) hk
  obtain ⟨hi, e⟩ := List.getElem?_eq_some_iff.1 h
  rw [← e]
  exact List.set_getElem_self hi
end Go.Proofs.YtbgmbcngkmlfeaaDoor.OP
