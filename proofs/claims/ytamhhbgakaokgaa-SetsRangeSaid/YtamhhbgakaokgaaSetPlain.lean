/- Plain facts on sets of integers: rising lists, what is put in, and the set of a list's elements. No conditions. -/
import Derived.WalkKit
namespace Go.Proofs.Ytamhhbgakaokgaa.SP

/-- A rising list with a further number. -/
def put (n : Int) : List Int → List Int
  | [] => [n]
  | x :: l => if x < n then x :: put n l else if x = n then x :: l else n :: x :: l
def norm (l : List Int) : List Int := l.foldl (fun a n => put n a) []
def join (a b : List Int) : List Int := norm (a ++ b)
def meet (a b : List Int) : List Int := norm (a.filter fun x => b.contains x)
def less (a b : List Int) : List Int := norm (a.filter fun x => !b.contains x)
def Rises (l : List Int) : Prop := l.Pairwise (fun x y => x < y)

theorem mem_put {n x : Int} : ∀ {l : List Int}, x ∈ put n l ↔ x = n ∨ x ∈ l
  | [] => by simp [put]
  | y :: l => by
    unfold put
    split
    · rw [List.mem_cons, mem_put, List.mem_cons]; constructor <;> (rintro (h | h | h) <;> simp [h])
    · split
      · rename_i h; subst h; simp
      · simp
theorem rises_put {n : Int} : ∀ {l : List Int}, Rises l → Rises (put n l)
  | [], _ => List.pairwise_singleton _ _
  | y :: l, h => by
    obtain ⟨h1, h2⟩ := List.pairwise_cons.1 h
    unfold put
    split
    · refine List.pairwise_cons.2 ⟨fun x hx => ?_, rises_put h2⟩
      rcases mem_put.1 hx with rfl | hx
      · assumption
      · exact h1 x hx
    · split
      · exact h
      · refine List.pairwise_cons.2 ⟨fun x hx => ?_, h⟩
        rcases List.mem_cons.1 hx with rfl | hx
        · omega
        · have := h1 x hx; omega
theorem put_same {n : Int} : ∀ {l : List Int}, Rises l → n ∈ l → put n l = l
  | [], _, h => by simp at h
  | y :: l, hr, h => by
    obtain ⟨h1, h2⟩ := List.pairwise_cons.1 hr
    unfold put
    rcases List.mem_cons.1 h with rfl | h
    · rw [if_neg (by omega), if_pos rfl]
    · rw [if_pos (h1 n h), put_same h2 h]
theorem fold_mem {x : Int} : ∀ (l a : List Int), x ∈ l.foldl (fun a n => put n a) a ↔ x ∈ l ∨ x ∈ a
  | [], a => by simp
  | y :: l, a => by
    rw [List.foldl_cons, fold_mem l, mem_put, List.mem_cons]
    constructor
    · rintro (h | h | h)
      · exact .inl (.inr h)
      · exact .inl (.inl h)
      · exact .inr h
    · rintro ((h | h) | h)
      · exact .inr (.inl h)
      · exact .inl h
      · exact .inr (.inr h)
theorem fold_rises : ∀ (l a : List Int), Rises a → Rises (l.foldl (fun a n => put n a) a)
  | [], _, h => h
  | _ :: l, _, h => fold_rises l _ (rises_put h)
theorem mem_norm {x : Int} {l : List Int} : x ∈ norm l ↔ x ∈ l := by unfold norm; rw [fold_mem]; simp
theorem rises_norm (l : List Int) : Rises (norm l) := fold_rises l [] List.Pairwise.nil
theorem norm_snoc (l : List Int) (n : Int) : norm (l ++ [n]) = put n (norm l) := by unfold norm; rw [List.foldl_append]; rfl
theorem mem_join {x : Int} {a b : List Int} : x ∈ join a b ↔ x ∈ a ∨ x ∈ b := by unfold join; rw [mem_norm, List.mem_append]
theorem mem_meet {x : Int} {a b : List Int} : x ∈ meet a b ↔ x ∈ a ∧ x ∈ b := by unfold meet; rw [mem_norm, List.mem_filter]; simp
theorem mem_less {x : Int} {a b : List Int} : x ∈ less a b ↔ x ∈ a ∧ x ∉ b := by unfold less; rw [mem_norm, List.mem_filter]; simp
theorem rises_ext : ∀ {a b : List Int}, Rises a → Rises b → (∀ x, x ∈ a ↔ x ∈ b) → a = b
  | [], [], _, _, _ => rfl
  | [], y :: b, _, _, h => by have := (h y).2 (by simp); simp at this
  | x :: a, [], _, _, h => by have := (h x).1 (by simp); simp at this
  | x :: a, y :: b, ha, hb, h => by
    obtain ⟨a1, a2⟩ := List.pairwise_cons.1 ha
    obtain ⟨b1, b2⟩ := List.pairwise_cons.1 hb
    have hxy : x = y := by
      have h1 := (h x).1 (by simp)
      have h2 := (h y).2 (by simp)
      rcases List.mem_cons.1 h1 with h1 | h1
      · exact h1
      · rcases List.mem_cons.1 h2 with h2 | h2
        · exact h2.symm
        · have := b1 x h1; have := a1 y h2; omega
    subst hxy
    rw [rises_ext a2 b2 (fun z => ?_)]
    constructor
    · intro hz
      rcases List.mem_cons.1 ((h z).1 (List.mem_cons_of_mem _ hz)) with rfl | h3
      · have := a1 z hz; omega
      · exact h3
    · intro hz
      rcases List.mem_cons.1 ((h z).2 (List.mem_cons_of_mem _ hz)) with rfl | h3
      · have := b1 z hz; omega
      · exact h3
theorem norm_of_rises {l : List Int} (h : Rises l) : norm l = l := rises_ext (rises_norm l) h fun _ => mem_norm
theorem norm_congr {a b : List Int} (h : ∀ x, x ∈ a ↔ x ∈ b) : norm a = norm b := rises_ext (rises_norm _) (rises_norm _) fun x => by rw [mem_norm, mem_norm]; exact h x
/-- What is sorted is the set, if no number stands twice. -/
theorem sorted_norm {l m : List Int} (hn : l.Nodup) (h : ∀ x, x ∈ l ↔ x ∈ m) : (l.mergeSort fun x y => decide (x ≤ y)) = norm m := by
  have hp := List.mergeSort_perm l (fun x y => decide (x ≤ y))
  have hs : (l.mergeSort fun x y => decide (x ≤ y)).Pairwise (fun x y => decide (x ≤ y) = true) := List.pairwise_mergeSort (fun a b c h1 h2 => by simp at *; omega) (fun a b => by simp; omega) l
  have hnd : (l.mergeSort fun x y => decide (x ≤ y)).Nodup := hp.nodup_iff.2 hn
  refine rises_ext ?_ (rises_norm m) fun x => by rw [hp.mem_iff, mem_norm]; exact h x
  exact (hs.and hnd).imp fun {a b} h => by have h1 := h.1; have h2 := h.2; simp at h1; omega
/-- Where a number is put. -/
theorem put_at (n : Int) : ∀ (l : List Int) (k : Nat), k ≤ l.length → (∀ i (h : i < l.length), i < k → l[i] < n) → (∀ (h : k < l.length), n ≤ l[k]) →
    put n l = if h : k < l.length then (if l[k] = n then l else l.take k ++ n :: l.drop k) else l ++ [n]
  | [], k, hk, _, _ => by simp at hk; subst hk; simp [put]
  | x :: l, 0, _, _, h2 => by
    have := h2 (by simp)
    simp at this
    unfold put
    rw [if_neg (by omega)]
    simp
  | x :: l, k + 1, hk, h1, h2 => by
    have hx := h1 0 (by simp) (by omega)
    simp at hx
    have ih := put_at n l k (by simp at hk; omega) (fun i hi hik => by have := h1 (i + 1) (by simp; omega) (by omega); simpa using this) (fun h => by have := h2 (by simp; omega); simpa using this)
    unfold put
    rw [if_pos hx, ih]
    by_cases hkl : k < l.length
    · rw [dif_pos hkl, dif_pos (by simp; omega)]
      simp only [List.getElem_cons_succ]
      split <;> simp
    · rw [dif_neg hkl, dif_neg (by simp; omega)]
      simp
theorem put_len (n : Int) : ∀ l : List Int, (put n l).length ≤ l.length + 1
  | [] => by simp [put]
  | x :: l => by
    unfold put
    have := put_len n l
    split
    · simp; omega
    · split <;> simp
theorem fold_len : ∀ (l a : List Int), (l.foldl (fun a n => put n a) a).length ≤ l.length + a.length
  | [], a => by simp
  | y :: l, a => by rw [List.foldl_cons]; have := fold_len l (put y a); have := put_len y a; simp; omega
theorem norm_len (l : List Int) : (norm l).length ≤ l.length := by have := fold_len l []; simpa [norm] using this
theorem join_len (a b : List Int) : (join a b).length ≤ a.length + b.length := by have := norm_len (a ++ b); simpa [join] using this
theorem meet_len (a b : List Int) : (meet a b).length ≤ a.length := Nat.le_trans (norm_len _) (List.length_filter_le ..)
theorem less_len (a b : List Int) : (less a b).length ≤ a.length := Nat.le_trans (norm_len _) (List.length_filter_le ..)
theorem rises_nodup {l : List Int} (h : Rises l) : l.Nodup := List.Pairwise.imp (fun {a b} (h : a < b) => by omega) h
theorem filter_rises {l : List Int} (p : Int → Bool) (h : Rises l) : Rises (l.filter p) := List.Pairwise.filter p h
theorem filter_two (p : Int → Bool) : ∀ l : List Int, (l.filter p).length + (l.filter fun x => !p x).length = l.length
  | [] => rfl
  | x :: l => by
    have := filter_two p l
    cases h : p x <;> simp [h] <;> omega
/-- The numbers of two sets add up. -/
theorem sum_len (a b : List Int) : (join a b).length + (meet a b).length = (norm a).length + (norm b).length := by
  have h1 : meet a b = (norm b).filter fun x => (norm a).contains x := rises_ext (rises_norm _) (filter_rises _ (rises_norm _)) fun x => by rw [mem_meet, List.mem_filter]; simp [mem_norm]; exact And.comm
  have h2 : join a b = norm (norm a ++ (norm b).filter fun x => !(norm a).contains x) := norm_congr fun x => by
    simp [mem_norm]
    by_cases h : x ∈ a <;> simp [h]
  have hnd : (norm a ++ (norm b).filter fun x => !(norm a).contains x).Nodup := by
    refine List.nodup_append.2 ⟨rises_nodup (rises_norm a), rises_nodup (filter_rises _ (rises_norm b)), fun x hx y hy => ?_⟩
    rintro rfl
    have := (List.mem_filter.1 hy).2
    simp [mem_norm] at this hx
    exact this hx
  have h3 := sorted_norm hnd (fun x => Iff.rfl)
  have h4 : (join a b).length = (norm a ++ (norm b).filter fun x => !(norm a).contains x).length := by rw [h2, ← h3]; exact List.length_mergeSort _
  rw [h1, h4, List.length_append]
  have := filter_two (fun x => (norm a).contains x) (norm b)
  omega
end Go.Proofs.Ytamhhbgakaokgaa.SP
