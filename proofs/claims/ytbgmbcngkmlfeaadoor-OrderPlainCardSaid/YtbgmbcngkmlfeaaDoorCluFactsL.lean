/- Plain facts for the laws of clusters. No conditions. -/
import Derived.Test.YtbgmbcngkmlfeaaDoorCluLst
namespace Go.Proofs.YtbgmbcngkmlfeaaDoor.CP
theorem nxt_no (s : ByteArray) (f : Nat) : ∀ g i j, i ≤ j → j < nxt s f g i → beg s f j = false
  | 0, i, j, h1, h2 => by unfold nxt at h2; omega
  | g + 1, i, j, h1, h2 => by
    cases hb : beg s f i with
    | true =>
      rw [nxt_here hb (by omega)] at h2
      omega
    | false =>
      rw [nxt_on hb (by omega)] at h2
      by_cases e : i = j
      · subst e; exact hb
      · exact nxt_no s f g (i + 1) j (by omega) h2
theorem nxt_yes (s : ByteArray) (f : Nat) : ∀ g i, nxt s f g i < i + g → beg s f (nxt s f g i) = true
  | 0, i, h => by unfold nxt at h; omega
  | g + 1, i, h => by
    cases hb : beg s f i with
    | true => rw [nxt_here hb (by omega)]; exact hb
    | false =>
      rw [nxt_on hb (by omega)] at h ⊢
      exact nxt_yes s f g (i + 1) (by simp at h; omega)
theorem stop_no {s : ByteArray} {f j : Nat} (h1 : f < j) (h2 : j < stop s f) : beg s f j = false := nxt_no s f _ _ j (by omega) h2
theorem stop_yes {s : ByteArray} {f : Nat} (hf : f < s.size) (h : stop s f < s.size) : beg s f (stop s f) = true := nxt_yes s f _ _ (by unfold stop at h; omega)
theorem stop_uniq {s : ByteArray} {f e : Nat} (h1 : f < e) (h2 : e ≤ s.size) (hno : ∀ j, f < j → j < e → beg s f j = false) (hy : e < s.size → beg s f e = true) : stop s f = e := by
  have hb := stop_bd (s := s) (f := f) (by omega)
  rcases Nat.lt_trichotomy (stop s f) e with h | h | h
  · have := stop_yes (s := s) (f := f) (by omega) (by omega)
    rw [hno _ hb.1 h] at this; cases this
  · exact h
  · have := stop_no h1 h
    rw [hy (by omega)] at this; cases this
theorem beg_six (s : ByteArray) (f : Nat) : beg s f (f + 6) = true := by unfold beg; simp
theorem stop_six (s : ByteArray) (f : Nat) : stop s f ≤ f + 6 := by
  by_cases h : f + 6 < stop s f
  · have := stop_no (by omega) h
    rw [beg_six] at this; cases this
  · omega
/-- The clusters from f to the end. -/
def Sp (s : ByteArray) : Nat → List (Nat × Nat) → Prop
  | f, [] => f = s.size
  | f, x :: l => f < s.size ∧ x = (f, stop s f) ∧ Sp s (stop s f) l
theorem sp_spans (s : ByteArray) : ∀ g f, f ≤ s.size → s.size ≤ f + g → Sp s f (spans s g f)
  | 0, f, h, hg => by show f = s.size; omega
  | g + 1, f, h, hg => by
    unfold spans
    by_cases hf : f < s.size
    · rw [if_pos hf]
      have := stop_bd hf
      exact ⟨hf, rfl, sp_spans s g _ this.2 (by omega)⟩
    · rw [if_neg hf]; show f = s.size; omega
theorem sp_split (s : ByteArray) : Sp s 0 (split s) := sp_spans s _ _ (Nat.zero_le _) (by omega)
theorem sp_mem {s : ByteArray} : ∀ {f : Nat} {l : List (Nat × Nat)}, Sp s f l → ∀ x ∈ l, x.1 < x.2 ∧ x.2 ≤ s.size
  | f, [], h, x, hx => by cases hx
  | f, y :: l, h, x, hx => by
    obtain ⟨h1, rfl, h3⟩ := h
    rcases List.mem_cons.1 hx with rfl | hx
    · exact stop_bd h1
    · exact sp_mem h3 x hx
theorem sp_uniq {s : ByteArray} : ∀ {f : Nat} {l m : List (Nat × Nat)}, Sp s f l → Sp s f m → l = m
  | f, [], [], _, _ => rfl
  | f, [], y :: m, h, k => by have h : f = s.size := h; have := k.1; omega
  | f, x :: l, [], h, k => by have k : f = s.size := k; have := h.1; omega
  | f, x :: l, y :: m, h, k => by
    obtain ⟨_, h2, h3⟩ := h
    obtain ⟨_, k2, k3⟩ := k
    rw [h2, k2, sp_uniq h3 k3]
theorem sp_drop {s : ByteArray} {e k : Nat} {l : List (Nat × Nat)} {x : Nat × Nat} (h : Sp s e (l.drop k)) (hx : l[k]? = some x) : e < s.size ∧ x = (e, stop s e) ∧ Sp s (stop s e) (l.drop (k + 1)) := by
  obtain ⟨hk, rfl⟩ := List.getElem?_eq_some_iff.1 hx
  rw [List.drop_eq_getElem_cons hk] at h
  exact h
theorem upto_at {l : List (Nat × Nat)} {k e : Nat} {x : Nat × Nat} (hx : l[k]? = some x) (hs : Sm (l.take k) (e : Int)) {i : Int} (h1 : (e : Int) ≤ i) (h2 : i < (x.2 : Int)) : upto l i = k := by
  obtain ⟨hk, rfl⟩ := List.getElem?_eq_some_iff.1 hx
  have := upto_stop (l := l) (p := l.take k) (x := l[k]) (i := i) ⟨l.drop (k + 1), by rw [List.append_assoc, List.singleton_append, ← List.drop_eq_getElem_cons hk, List.take_append_drop]⟩ (fun y hy => by have := hs y hy; omega) h2
  rw [this, List.length_take]; omega
theorem sm_take {l : List (Nat × Nat)} {k e : Nat} {x : Nat × Nat} (hx : l[k]? = some x) (hs : Sm (l.take k) (e : Int)) (h : e ≤ x.2) : Sm (l.take (k + 1)) (x.2 : Int) := by
  rw [List.take_add_one, hx]
  intro y hy
  rcases List.mem_append.1 hy with hy | hy
  · have := hs y hy; omega
  · simp at hy; subst hy; omega

theorem ch_out {s : ByteArray} {i : Nat} (h : ¬ i < s.size) : ch s i = 0 := dif_neg h
theorem ch_l {s t : ByteArray} {i : Nat} (h : i < s.size) : ch (s ++ t) i = ch s i := by
  have h2 : i < (s ++ t).size := by rw [ByteArray.size_append]; omega
  rw [ch_at h, ch_at h2, ByteArray.getElem_append_left h]
theorem ch_r {s t : ByteArray} {i : Nat} : ch (s ++ t) (s.size + i) = ch t i := by
  by_cases h : i < t.size
  · have h2 : s.size + i < (s ++ t).size := by rw [ByteArray.size_append]; omega
    rw [ch_at h, ch_at h2, ByteArray.getElem_append_right (by omega)]
    congr 3; omega
  · rw [ch_out h, ch_out (by rw [ByteArray.size_append]; omega)]
theorem beg_l {s t : ByteArray} {f i : Nat} (h : i < s.size) : beg (s ++ t) f i = beg s f i := by
  unfold beg cl ex
  rw [ch_l h, ch_l (show i - 1 < s.size by omega)]
theorem beg_r {s t : ByteArray} {f i : Nat} (h : 0 < i) : beg (s ++ t) (s.size + f) (s.size + i) = beg t f i := by
  unfold beg cl ex
  rw [ch_r, show s.size + i - 1 = s.size + (i - 1) by omega, ch_r, show decide (s.size + i = s.size + f + 6) = decide (i = f + 6) by congr 1; simp; omega]
theorem stop_r {s t : ByteArray} {f : Nat} (hf : f < t.size) : stop (s ++ t) (s.size + f) = s.size + stop t f := by
  have hb := stop_bd hf
  refine stop_uniq (by omega) (by rw [ByteArray.size_append]; omega) (fun j h1 h2 => ?_) (fun h => ?_)
  · obtain ⟨j, rfl⟩ : ∃ k, j = s.size + k := ⟨j - s.size, by omega⟩
    rw [beg_r (by omega)]
    exact stop_no (by omega) (by omega)
  · rw [beg_r (by omega)]
    rw [ByteArray.size_append] at h
    exact stop_yes hf (by omega)
def sh (n : Nat) (x : Nat × Nat) : Nat × Nat := (x.1 + n, x.2 + n)
theorem sp_r {s t : ByteArray} : ∀ {f : Nat} {l : List (Nat × Nat)}, Sp t f l → Sp (s ++ t) (s.size + f) (l.map (sh s.size))
  | f, [], h => by show _ = _; rw [show f = t.size from h, ByteArray.size_append]
  | f, x :: l, h => by
    obtain ⟨h1, rfl, h3⟩ := h
    refine ⟨by rw [ByteArray.size_append]; omega, ?_, ?_⟩
    · rw [stop_r h1]; unfold sh; simp; omega
    · rw [stop_r h1]; exact sp_r h3
theorem stop_l {s t : ByteArray} {f : Nat} (hf : f < s.size) (h : stop s f < s.size) : stop (s ++ t) f = stop s f := by
  have hb := stop_bd hf
  refine stop_uniq hb.1 (by rw [ByteArray.size_append]; omega) (fun j h1 h2 => ?_) (fun _ => ?_)
  · rw [beg_l (by omega)]; exact stop_no h1 h2
  · rw [beg_l h]; exact stop_yes hf h
theorem stop_end {s t : ByteArray} {f : Nat} (hf : f < s.size) (h : stop s f = s.size) (hb : 0 < t.size → beg (s ++ t) f s.size = true) : stop (s ++ t) f = s.size := by
  refine stop_uniq hf (by rw [ByteArray.size_append]; omega) (fun j h1 h2 => ?_) (fun h => hb (by rw [ByteArray.size_append] at h; omega))
  rw [beg_l h2]; exact stop_no h1 (by omega)
theorem stop_le {s t : ByteArray} {f : Nat} (hf : f < s.size) : stop s f ≤ stop (s ++ t) f := by
  have hb := stop_bd (s := s ++ t) (f := f) (by rw [ByteArray.size_append]; omega)
  have ha := stop_bd hf
  by_cases h : stop (s ++ t) f < stop s f
  · have h1 := stop_no hb.1 h
    have h2 := stop_yes (s := s ++ t) (f := f) (by rw [ByteArray.size_append]; omega) (by rw [ByteArray.size_append]; omega)
    rw [beg_l (by omega), h1] at h2; cases h2
  · omega
theorem beg_line {s t : ByteArray} {f : Nat} (h : 0 < s.size) (hl : cl s (s.size - 1) = 1) : beg (s ++ t) f s.size = true := by
  unfold beg
  rw [show cl (s ++ t) (s.size - 1) = 1 by unfold cl; rw [ch_l (by omega)]; exact hl]
  simp
theorem sp_line {s t : ByteArray} (h0 : 0 < s.size) (hl : cl s (s.size - 1) = 1) {m : List (Nat × Nat)} (hm : Sp (s ++ t) s.size m) : ∀ {f : Nat} {l : List (Nat × Nat)}, Sp s f l → Sp (s ++ t) f (l ++ m)
  | f, [], h => by have h : f = s.size := h; rw [h]; exact hm
  | f, x :: l, h => by
    obtain ⟨h1, rfl, h3⟩ := h
    have e : stop (s ++ t) f = stop s f := by
      by_cases h : stop s f < s.size
      · exact stop_l h1 h
      · have := stop_bd h1
        have h' : stop s f = s.size := by omega
        rw [h', stop_end h1 h' (fun _ => beg_line h0 hl)]
    refine ⟨by rw [ByteArray.size_append]; omega, by rw [e], ?_⟩
    rw [e]
    exact sp_line h0 hl hm h3
theorem split_lines {s t : ByteArray} (h0 : 0 < s.size) (hl : cl s (s.size - 1) = 1) : split (s ++ t) = split s ++ (split t).map (sh s.size) :=
  sp_uniq (sp_split _) (sp_line h0 hl (sp_r (sp_split t)) (sp_split s))
/-- Whether the last cluster may grow. -/
def grows (s t : ByteArray) : Bool := decide (0 < t.size) && (decide (0 < s.size) && (ex t 0 || (decide (cl t 0 = 9) && decide (cl s (s.size - 1) = 10))))
theorem beg_behind {s t : ByteArray} {f : Nat} (h0 : 0 < s.size) (ht : 0 < t.size) (hg : grows s t = false) : beg (s ++ t) f s.size = true := by
  unfold grows at hg
  rw [decide_eq_true ht, decide_eq_true h0] at hg
  have e1 : ch (s ++ t) s.size = ch t 0 := by have := ch_r (s := s) (t := t) (i := 0); rwa [Nat.add_zero] at this
  have e2 : ch (s ++ t) (s.size - 1) = ch s (s.size - 1) := ch_l (by omega)
  unfold beg cl ex
  rw [e1, e2]
  unfold ex cl at hg
  simp only [Bool.true_and, Bool.or_eq_false_iff] at hg
  rw [hg.1, hg.2]; simp
theorem behind {s t : ByteArray} : ∀ {f : Nat} {l m : List (Nat × Nat)}, Sp s f l → Sp (s ++ t) f m → ∀ (k : Nat) (x : Nat × Nat), l[k]? = some x → ∃ y, m[k]? = some y ∧ y.1 = x.1 ∧ (y = x ∨ (k + 1 = l.length ∧ grows s t = true))
  | f, [], m, h, h2, k, x, hx => by simp at hx
  | f, x :: l, [], h, h2, k, y, hx => by
    have h2 : f = (s ++ t).size := h2
    have := h.1
    rw [ByteArray.size_append] at h2; omega
  | f, x :: l, y :: m, h, h2, k, z, hx => by
    obtain ⟨h1, rfl, h3⟩ := h
    obtain ⟨k1, rfl, k3⟩ := h2
    have hb := stop_bd h1
    have key : stop (s ++ t) f = stop s f ∨ stop s f = s.size ∧ grows s t = true := by
      by_cases h : stop s f < s.size
      · exact .inl (stop_l h1 h)
      · have h' : stop s f = s.size := by omega
        cases hg : grows s t with
        | true => exact .inr ⟨h', rfl⟩
        | false => exact .inl (by rw [h', stop_end h1 h' (fun ht => beg_behind (by omega) ht hg)])
    cases k with
    | zero =>
      obtain rfl : (f, stop s f) = z := by simpa using hx
      refine ⟨_, rfl, rfl, ?_⟩
      rcases key with e | ⟨e, hg⟩
      · exact .inl (by rw [e])
      · refine .inr ⟨?_, hg⟩
        rw [e] at h3
        cases l with
        | nil => rfl
        | cons a l => have := h3.1; omega
    | succ k =>
      rcases key with e | ⟨e, _⟩
      · rw [e] at k3
        obtain ⟨y, h1, h2, h4⟩ := behind h3 k3 k z (by simpa using hx)
        exact ⟨y, by simpa using h1, h2, h4.imp_right fun h => ⟨by simp; omega, h.2⟩⟩
      · rw [e] at h3
        cases l with
        | nil => simp at hx
        | cons a l => have := h3.1; omega
theorem behind_length {s t : ByteArray} : (split s).length ≤ (split (s ++ t)).length := by
  rcases Nat.eq_zero_or_pos (split s).length with h | h
  · omega
  · obtain ⟨y, hy, _⟩ := behind (sp_split s) (sp_split (s ++ t)) ((split s).length - 1) _ (List.getElem?_eq_getElem (by omega))
    have := (List.getElem?_eq_some_iff.1 hy).1
    omega
/-- Inside of a cluster. -/
theorem beg_false {s : ByteArray} {f i : Nat} (h : beg s f i = false) : cl s (i - 1) ≠ 1 ∧ i ≠ f + 6 ∧ (ex s i = true ∨ cl s i = 9 ∧ cl s (i - 1) = 10) := by
  unfold beg at h
  simp only [Bool.or_eq_false_iff, decide_eq_false_iff_not, Bool.and_eq_false_iff, Bool.not_eq_false', Bool.and_eq_true, decide_eq_true_eq] at h
  exact ⟨h.1.1, h.1.2, h.2.elim .inr .inl⟩
theorem beg_true {s : ByteArray} {f i : Nat} (h : beg s f i = true) : cl s (i - 1) = 1 ∨ i = f + 6 ∨ (ex s i = false ∧ ¬ (cl s i = 9 ∧ cl s (i - 1) = 10)) := by
  unfold beg at h
  simp only [Bool.or_eq_true, decide_eq_true_eq, Bool.and_eq_true, Bool.not_eq_true', Bool.and_eq_false_iff, decide_eq_false_iff_not] at h
  rcases h with (h | h) | ⟨h, h2⟩
  · exact .inl h
  · exact .inr (.inl h)
  · exact .inr (.inr ⟨h2, fun k => h.elim (fun h => h k.1) (fun h => h k.2)⟩)
theorem fst_spec (s : ByteArray) : ∀ g i, (∃ b, fst s g i = some b ∧ i ≤ b ∧ b < i + g ∧ ex s b = false ∧ ∀ j, i ≤ j → j < b → ex s j = true) ∨ (fst s g i = none ∧ ∀ j, i ≤ j → j < i + g → ex s j = true)
  | 0, i => .inr ⟨rfl, fun j h1 h2 => by omega⟩
  | g + 1, i => by
    cases he : ex s i with
    | false => exact .inl ⟨i, fst_here he (by omega), by omega, by omega, he, fun j h1 h2 => by omega⟩
    | true =>
      rw [fst_on he (by omega)]
      rcases fst_spec s g (i + 1) with ⟨b, h1, h2, h3, h4, h5⟩ | ⟨h1, h2⟩
      · refine .inl ⟨b, h1, by omega, by omega, h4, fun j a c => ?_⟩
        by_cases e : i = j
        · subst e; exact he
        · exact h5 j (by omega) c
      · refine .inr ⟨h1, fun j a c => ?_⟩
        by_cases e : i = j
        · subst e; exact he
        · exact h2 j (by omega) (by omega)
/-- The base of a piece: a place of it, before which all extend; and it does not, or all do. -/
theorem base_spec {s : ByteArray} {f t : Nat} (h : f < t) (ht : t ≤ s.size) : ∃ b : Nat, base s (f : Int) (t : Int) = (b : Int) ∧ f ≤ b ∧ b < t ∧ (∀ j, f ≤ j → j < b → ex s j = true) ∧ (ex s b = true → b = f ∧ ∀ j, f ≤ j → j < t → ex s j = true) := by
  rcases fst_spec s (t - f) f with ⟨b, h1, h2, h3, h4, h5⟩ | ⟨h1, h2⟩
  · exact ⟨b, base_some h ht h1, h2, by omega, h5, fun e => by rw [h4] at e; cases e⟩
  · exact ⟨f, base_none h ht h1, by omega, h, fun j a c => by omega, fun _ => ⟨rfl, fun j a c => h2 j a (by omega)⟩⟩
end Go.Proofs.YtbgmbcngkmlfeaaDoor.CP
