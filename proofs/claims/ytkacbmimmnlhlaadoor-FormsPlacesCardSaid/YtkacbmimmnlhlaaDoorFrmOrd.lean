/- Plain facts: the order of the places of a cluster. No conditions. -/
import Derived.Test.YtkacbmimmnlhlaaDoorFrmPlain
namespace Go.Proofs.YtkacbmimmnlhlaaDoor.FP
open CP
theorem plc_inc (s : ByteArray) (P : Int → Bool) : ∀ g i, (plc s P g i).Pairwise (· < ·)
  | 0, i => List.Pairwise.nil
  | g + 1, i => by
    unfold plc
    split
    · refine List.Pairwise.cons (fun y hy => ?_) (plc_inc s P g (i + 1))
      obtain ⟨k, rfl, h, _, _⟩ := plc_mem.1 hy
      omega
    · exact plc_inc s P g (i + 1)
theorem plc_count (s : ByteArray) (P : Int → Bool) (k : Nat) : ∀ g i, (plc s P g i).count (k : Int) = if i ≤ k ∧ k < i + g ∧ P (cl s k) = true then 1 else 0
  | 0, i => by rw [if_neg (by omega)]; rfl
  | g + 1, i => by
    have ih := plc_count s P k g (i + 1)
    unfold plc
    by_cases hp : P (cl s i) = true
    · rw [if_pos hp]
      by_cases e : i = k
      · subst e
        rw [List.count_cons_self, ih, if_neg (by omega), if_pos ⟨Nat.le_refl _, by omega, hp⟩]
      · rw [List.count_cons_of_ne (by omega), ih]
        by_cases c : i + 1 ≤ k ∧ k < i + 1 + g ∧ P (cl s k) = true
        · rw [if_pos c, if_pos ⟨by omega, by omega, c.2.2⟩]
        · rw [if_neg c, if_neg (fun d => c ⟨by omega, by omega, d.2.2⟩)]
    · rw [if_neg hp, ih]
      by_cases c : i + 1 ≤ k ∧ k < i + 1 + g ∧ P (cl s k) = true
      · rw [if_pos c, if_pos ⟨by omega, by omega, c.2.2⟩]
      · rw [if_neg c, if_neg (fun d => c ⟨by
          by_cases e : i = k
          · subst e; exact absurd d.2.2 hp
          · omega, by omega, d.2.2⟩)]
/-- Each place of a cluster stands in its order once, but joiners and breakers. -/
theorem ord_count {s : ByteArray} {f t k : Nat} (h : f < t) (ht : t ≤ s.size) (h1 : f ≤ k) (h2 : k < t) : (ord s f t).count (k : Int) = if cl s k = 13 ∨ cl s k = 14 then 0 else 1 := by
  rw [ord_good h ht, List.count_append, plc_count, plc_count]
  by_cases c : cl s k = 12
  · rw [if_pos ⟨h1, by omega, by unfold isB; simp [c]⟩, if_neg (by unfold isR; simp [c]), if_neg (by omega)]
  · by_cases d : cl s k = 13 ∨ cl s k = 14
    · rw [if_neg (by unfold isB; simp [c]), if_neg (by unfold isR; intro e; rcases d with d | d <;> simp [d] at e), if_pos d]
    · rw [if_neg (by unfold isB; simp [c]), if_pos ⟨h1, by omega, by unfold isR; simp [c]; omega⟩, if_neg d]
/-- How many places below k stand in it. -/
def sn (s : ByteArray) (f k : Nat) : Nat := (plc s isB (k - f) f).length + (plc s isR (k - f) f).length
theorem sn_start (s : ByteArray) (f : Nat) : sn s f f = 0 := by unfold sn; rw [Nat.sub_self]; rfl
theorem sn_step {s : ByteArray} {f k : Nat} (h : f ≤ k) : sn s f (k + 1) = sn s f k + if cl s k = 13 ∨ cl s k = 14 then 0 else 1 := by
  unfold sn
  rw [show k + 1 - f = (k - f) + 1 by omega, plc_snoc, plc_snoc, show f + (k - f) = k by omega, List.length_append, List.length_append]
  by_cases c : cl s k = 12
  · rw [if_pos (by unfold isB; simp [c]), if_neg (by unfold isR; simp [c]), if_neg (by omega)]; simp; omega
  · by_cases d : cl s k = 13 ∨ cl s k = 14
    · rw [if_neg (by unfold isB; simp [c]), if_neg (by unfold isR; intro e; rcases d with d | d <;> simp [d] at e), if_pos d]; simp
    · rw [if_neg (by unfold isB; simp [c]), if_pos (by unfold isR; simp [c]; omega), if_neg d]; simp; omega
theorem sn_all {s : ByteArray} {f t : Nat} (h : f < t) (ht : t ≤ s.size) : sn s f t = (ord s f t).length := by
  rw [ord_good h ht, List.length_append]; rfl
theorem pw_adj {l : List Int} (h : l.Pairwise (· < ·)) {j : Nat} {x y : Int} (hx : l[j]? = some x) (hy : l[j + 1]? = some y) : x < y := by
  have a := (List.getElem?_eq_some_iff.1 hx)
  have b := (List.getElem?_eq_some_iff.1 hy)
  obtain ⟨a1, rfl⟩ := a
  obtain ⟨b1, rfl⟩ := b
  exact List.pairwise_iff_getElem.1 h j (j + 1) a1 b1 (by omega)
theorem ord_get {s : ByteArray} {f t : Nat} (h : f < t) (ht : t ≤ s.size) {j : Nat} (hj : j < (ord s f t).length) : ∃ x : Nat, (ord s f t)[j]? = some (x : Int) ∧ x < s.size := by
  have hm := List.getElem_mem hj
  have e := List.getElem?_eq_getElem hj
  generalize hz : (ord s f t)[j] = z at hm e
  rw [ord_good h ht, List.mem_append, plc_mem, plc_mem] at hm
  rcases hm with ⟨k, rfl, _, h2, _⟩ | ⟨k, rfl, _, h2, _⟩
  · exact ⟨k, e, by omega⟩
  · exact ⟨k, e, by omega⟩
/-- Two neighbours: those that are shown before stand first, and the others increase. -/
theorem ord_adj {s : ByteArray} {f t : Nat} (h : f < t) (ht : t ≤ s.size) {j x y : Nat} (hx : (ord s f t)[j]? = some (x : Int)) (hy : (ord s f t)[j + 1]? = some (y : Int)) : (cl s y = 12 → cl s x = 12) ∧ ((cl s x = 12 ↔ cl s y = 12) → x < y) := by
  rw [ord_good h ht] at hx hy
  generalize hA : plc s isB (t - f) f = A at hx hy
  generalize hB : plc s isR (t - f) f = B at hx hy
  have pa : ∀ (i z : Nat), A[i]? = some (z : Int) → cl s z = 12 := by
    intro i z hz
    have := List.mem_of_getElem? hz
    rw [← hA, plc_mem] at this
    obtain ⟨k, e, _, _, hk⟩ := this
    obtain rfl : z = k := by omega
    unfold isB at hk; simpa using hk
  have pb : ∀ (i z : Nat), B[i]? = some (z : Int) → cl s z ≠ 12 := by
    intro i z hz
    have := List.mem_of_getElem? hz
    rw [← hB, plc_mem] at this
    obtain ⟨k, e, _, _, hk⟩ := this
    obtain rfl : z = k := by omega
    unfold isR at hk; intro c; simp [c] at hk
  have ia : A.Pairwise (· < ·) := hA ▸ plc_inc s isB _ _
  have ib : B.Pairwise (· < ·) := hB ▸ plc_inc s isR _ _
  by_cases c1 : j + 1 < A.length
  · rw [List.getElem?_append_left (by omega)] at hx hy
    have := pw_adj ia hx hy
    exact ⟨fun _ => pa _ _ hx, fun _ => by omega⟩
  · rw [List.getElem?_append_right (by omega)] at hy
    by_cases c2 : j < A.length
    · rw [List.getElem?_append_left c2] at hx
      exact ⟨fun _ => pa _ _ hx, fun d => absurd (d.1 (pa _ _ hx)) (pb _ _ hy)⟩
    · rw [List.getElem?_append_right (by omega)] at hx
      rw [show j + 1 - A.length = (j - A.length) + 1 by omega] at hy
      have := pw_adj ib hx hy
      exact ⟨fun d => absurd d (pb _ _ hy), fun _ => by omega⟩
end Go.Proofs.YtkacbmimmnlhlaaDoor.FP
