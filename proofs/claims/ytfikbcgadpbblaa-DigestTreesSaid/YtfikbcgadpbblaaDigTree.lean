/- Plain facts: the whole tree, filled up. No conditions. -/
import Derived.Test.YtfikbcgadpbblaaDigProof
namespace Go.Proofs.Ytfikbcgadpbblaa.DG
/-- Level k of the tree of height h, filled up. -/
def T (L : List ByteArray) (h k : Nat) : List ByteArray := (lvl L k).1 ++ List.replicate (2 ^ (h - k) - (lvl L k).1.length) (lvl L k).2
theorem half {h k : Nat} (hk : k < h) : 2 ^ (h - k) = 2 * 2 ^ (h - (k + 1)) := by
  rw [show h - k = h - (k + 1) + 1 by omega, Nat.pow_succ]
  omega
theorem lvl_fits {L : List ByteArray} {h : Nat} (hh : IsH L.length h) : ∀ k, k ≤ h → (lvl L k).1.length ≤ 2 ^ (h - k)
  | 0, _ => hh.1
  | k + 1, hk => by
    have := lvl_fits hh k (by omega)
    rw [half (by omega)] at this
    simp only [lvl, ufs_len]
    omega
theorem T_len {L : List ByteArray} {h k : Nat} (hh : IsH L.length h) (hk : k ≤ h) : (T L h k).length = 2 ^ (h - k) := by
  have := lvl_fits hh k hk
  simp only [T, List.length_append, List.length_replicate]
  omega
theorem pad_get {E : List ByteArray} {f d : ByteArray} {n j : Nat} (hj : j < n) : (E ++ List.replicate (n - E.length) f).getD j d = E.getD j f := by
  by_cases hE : j < E.length
  · simp [List.getD, List.getElem?_append_left hE, hE]
  · have h2 : j - E.length < n - E.length := by omega
    simp [List.getD, List.getElem?_append_right (Nat.le_of_not_lt hE), hE, List.getElem?_replicate, h2]
theorem T_get {L : List ByteArray} {h k j : Nat} {d : ByteArray} (hj : j < 2 ^ (h - k)) : (T L h k).getD j d = (lvl L k).1.getD j (lvl L k).2 := pad_get hj
theorem prs_pad {E : List ByteArray} {f : ByteArray} {m : Nat} (hE : E.length ≤ 2 * m) : prs (E ++ List.replicate (2 * m - E.length) f) m = ufs f E ((E.length + 1) / 2) ++ List.replicate (m - (E.length + 1) / 2) (Pair f f) := by
  apply List.ext_getElem
  · simp [prs, ufs]
    omega
  · intro i h1 h2
    have hi : i < m := by simpa [prs] using h1
    simp only [prs, List.getElem_map, List.getElem_range, pr]
    rw [pad_get (by omega), pad_get (by omega)]
    by_cases hc : i < (E.length + 1) / 2
    · rw [List.getElem_append_left (by simpa [ufs] using hc)]
      simp [ufs, uf]
    · rw [List.getElem_append_right (by simp [ufs]; omega)]
      have e1 : ¬ 2 * i < E.length := by omega
      have e2 : ¬ 2 * i + 1 < E.length := by omega
      simp [List.getD, e1, e2]
theorem T_next {L : List ByteArray} {h k : Nat} (hh : IsH L.length h) (hk : k < h) : prs (T L h k) (2 ^ (h - (k + 1))) = T L h (k + 1) := by
  have := lvl_fits hh k (by omega)
  rw [half hk] at this
  unfold T
  rw [half hk, prs_pad this]
  simp only [lvl, ufs_len]
theorem T_top {L : List ByteArray} {h : Nat} {d : ByteArray} : (T L h h).getD 0 d = top L h := by
  rw [T_get (by simp)]
  rfl
theorem beside_lt {h k i : Nat} (hk : k < h) (hi : i < 2 ^ h) : beside (i / 2 ^ k) < 2 ^ (h - k) := by
  have h1 : i / 2 ^ k < 2 ^ (h - k) := by
    rw [Nat.div_lt_iff_lt_mul (Nat.two_pow_pos k), ← Nat.pow_add, show h - k + k = h by omega]
    exact hi
  rw [half hk] at h1 ⊢
  generalize i / 2 ^ k = q at h1 ⊢
  generalize 2 ^ (h - (k + 1)) = m at h1 ⊢
  unfold beside
  split <;> omega
theorem T_nbr {L : List ByteArray} {h k i : Nat} {d : ByteArray} (hk : k < h) (hi : i < 2 ^ h) : (T L h k).getD (beside (i / 2 ^ k)) d = nbr L i k := by
  rw [T_get (beside_lt hk hi)]
  rfl
theorem T_sizes {L : List ByteArray} (hs : ∀ s ∈ L, s.size < 2147483648) (h k : Nat) : ∀ s ∈ T L h k, s.size < 2147483648 := by
  intro s hm
  obtain ⟨h1, h2⟩ := lvl_sizes hs k
  rcases List.mem_append.1 hm with hm | hm
  · exact h1 s hm
  · rw [(List.mem_replicate.1 hm).2]; exact h2
theorem T_zero {L : List ByteArray} {h : Nat} : T L h 0 = L ++ List.replicate (2 ^ h - L.length) ⟨#[]⟩ := rfl
end Go.Proofs.Ytfikbcgadpbblaa.DG
