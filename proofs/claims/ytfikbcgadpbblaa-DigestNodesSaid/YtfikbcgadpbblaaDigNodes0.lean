/- Plain facts: a node is no leaf. No conditions. -/
import Derived.Test.YtfikbcgadpbblaaDigFacts
import Derived.Test.YtfikbcgadpbblaaDigOne
namespace Go.Proofs.Ytfikbcgadpbblaa.DG
/-- The node above element i at level t. -/
def nodeAt (L : List ByteArray) (h i t : Nat) : ByteArray := (T L h t).getD (i / 2 ^ t) ⟨#[]⟩
theorem node_zero {L : List ByteArray} {h i : Nat} (hi : i < 2 ^ h) {x : ByteArray} (hx : L[i]? = some x) : nodeAt L h i 0 = x := by
  unfold nodeAt
  rw [T_get (by simpa using hi)]
  simp [lvl, List.getD, hx]
theorem node_succ {L : List ByteArray} {h i t : Nat} (hh : IsH L.length h) (hi : i < 2 ^ h) (ht : t < h) : nodeAt L h i (t + 1) = if i / 2 ^ t % 2 = 0 then Pair (nodeAt L h i t) (nbr L i t) else Pair (nbr L i t) (nodeAt L h i t) := by
  have h1 := climb_prf hh hi (t + 1) ht
  have h0 := climb_prf hh hi t (Nat.le_of_lt ht)
  rw [prf_succ] at h1
  unfold climb at h0 h1
  rw [List.foldl_append, h0] at h1
  have := congrArg Prod.snd h1
  simp only [List.foldl_cons, List.foldl_nil, step] at this
  exact this.symm
theorem prf_take {L : List ByteArray} {i t h : Nat} (ht : t ≤ h) : (prf L i h).take t = prf L i t := by
  unfold prf
  rw [← List.map_take, List.take_range, Nat.min_eq_left ht]
theorem node_refused {L : List ByteArray} {h i t : Nat} (hh : IsH L.length h) (h20 : h ≤ 20) (hi : i < 2 ^ h) (ht : t < h) : verify (root L h) (nodeAt L h i (t + 1)) ((i / 2 ^ t / 2 : Nat) : Int) ((prf L i h).drop (t + 1)) = false := by
  have h1 := climb_prf hh hi (t + 1) ht
  have h2 := climb_prf hh hi h (Nat.le_refl h)
  have h3 : climb (prf L i h) i ((T L h 0).getD i ⟨#[]⟩) = climb ((prf L i h).drop (t + 1)) (i / 2 ^ (t + 1)) (nodeAt L h i (t + 1)) := by
    unfold climb at h1 ⊢
    conv => lhs; rw [← List.take_append_drop (t + 1) (prf L i h), List.foldl_append, prf_take ht, h1]
    rfl
  have hd : i / 2 ^ (t + 1) = i / 2 ^ t / 2 := by rw [Nat.pow_succ, Nat.div_div_eq_div_mul]
  rw [h2, Nat.div_eq_of_lt hi, T_top, hd] at h3
  unfold verify
  rw [Int.toNat_natCast, ← h3]
  have hl : ((prf L i h).drop (t + 1)).length = h - (t + 1) := by rw [List.length_drop, prf_len]
  rw [hl]
  have hne : root L h ≠ S (dig (rootL (h - (t + 1)) (top L h))) := by
    intro he
    refine dig_ne [2] (top L h).data.toList (c := UInt8.ofNat h) (d := UInt8.ofNat (h - (t + 1))) ?_ (S_inj he)
    intro hc
    have := congrArg UInt8.toNat hc
    simp at this
    omega
  rw [decide_eq_false hne]
  simp
theorem node_small {L : List ByteArray} (hs : ∀ s ∈ L, s.size < 2147483648) (h i t : Nat) : (nodeAt L h i t).size < 2147483648 := by
  unfold nodeAt
  by_cases hlt : i / 2 ^ t < (T L h t).length
  · simp only [List.getD, List.getElem?_eq_getElem hlt, Option.getD_some]
    exact T_sizes hs h t _ (List.getElem_mem _)
  · simp only [List.getD, List.getElem?_eq_none (Nat.le_of_not_lt hlt), Option.getD_none]
    decide
end Go.Proofs.Ytfikbcgadpbblaa.DG
