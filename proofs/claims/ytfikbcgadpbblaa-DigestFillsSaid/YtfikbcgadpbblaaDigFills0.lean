/- Plain facts: what fills a list up changes nothing. No conditions. -/
import Derived.Test.YtfikbcgadpbblaaDigFacts
namespace Go.Proofs.Ytfikbcgadpbblaa.DG
theorem IsH.more {n m h : Nat} (hh : IsH n h) (h1 : n ≤ m) (h2 : m ≤ 2 ^ h) : IsH m h := ⟨h2, fun j hj => Nat.lt_of_lt_of_le (hh.2 j hj) h1⟩
theorem T_fill {L : List ByteArray} {h j : Nat} (hh : IsH L.length h) (hj : L.length + j ≤ 2 ^ h) : ∀ k, k ≤ h → T (L ++ List.replicate j ⟨#[]⟩) h k = T L h k
  | 0, _ => by
    rw [T_zero, T_zero, List.append_assoc, List.replicate_append_replicate, List.length_append, List.length_replicate]
    congr 2
    omega
  | k + 1, hk => by
    have h1 : IsH (L ++ List.replicate j (⟨#[]⟩ : ByteArray)).length h := by
      rw [List.length_append, List.length_replicate]
      exact hh.more (Nat.le_add_right _ _) hj
    rw [← T_next hh hk, ← T_next h1 hk, T_fill hh hj k (by omega)]
theorem root_fill {L : List ByteArray} {h j : Nat} (hh : IsH L.length h) (hj : L.length + j ≤ 2 ^ h) : root (L ++ List.replicate j ⟨#[]⟩) h = root L h := by
  unfold root
  rw [← T_top (d := ⟨#[]⟩), ← T_top (d := ⟨#[]⟩), T_fill hh hj h (Nat.le_refl h)]
end Go.Proofs.Ytfikbcgadpbblaa.DG
