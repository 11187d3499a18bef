/- Plain facts on proofs: they lead to the root; with another height, or an index beyond, they don't. No conditions. -/
import Derived.Test.YtfikbcgadpbblaaDigTree
namespace Go.Proofs.Ytfikbcgadpbblaa.DG
/-- Up to level j. -/
theorem climb_prf {L : List ByteArray} {h i : Nat} (hh : IsH L.length h) (hi : i < 2 ^ h) : ∀ j, j ≤ h → climb (prf L i j) i ((T L h 0).getD i ⟨#[]⟩) = (i / 2 ^ j, (T L h j).getD (i / 2 ^ j) ⟨#[]⟩)
  | 0, _ => by simp [climb, prf]
  | j + 1, hj => by
    have ih := climb_prf hh hi j (by omega)
    have hlt : i / 2 ^ j < 2 ^ (h - j) := by
      rw [Nat.div_lt_iff_lt_mul (Nat.two_pow_pos j), ← Nat.pow_add, show h - j + j = h by omega]
      exact hi
    have hb := T_nbr (L := L) (d := ⟨#[]⟩) (show j < h by omega) hi
    have hd : i / 2 ^ (j + 1) = i / 2 ^ j / 2 := by rw [Nat.pow_succ, Nat.div_div_eq_div_mul]
    have hx := T_next hh (show j < h by omega)
    have hl2 := half (show j < h by omega)
    rw [prf_succ]
    unfold climb at ih ⊢
    rw [List.foldl_append, ih, hd]
    generalize i / 2 ^ j = q at *
    rw [← hx]
    have hq : q / 2 < 2 ^ (h - (j + 1)) := by omega
    simp only [List.foldl_cons, List.foldl_nil, step, ← hb]
    have hg : (prs (T L h j) (2 ^ (h - (j + 1)))).getD (q / 2) ⟨#[]⟩ = pr (T L h j) (q / 2) := by simp [prs, List.getD, hq]
    rw [hg]
    unfold pr beside
    by_cases hev : q % 2 = 0
    · rw [if_pos hev, if_pos hev, show 2 * (q / 2) = q by omega]
      rfl
    · rw [if_neg hev, if_neg hev, show 2 * (q / 2) + 1 = q by omega, show 2 * (q / 2) = q - 1 by omega]
      rfl
theorem verify_right {L : List ByteArray} {h k : Nat} (hh : IsH L.length h) (h20 : h ≤ 20) (hk : k < L.length) {x : ByteArray} (hx : L[k]? = some x) : verify (root L h) x (k : Int) (prf L k h) = true := by
  have hk2 : k < 2 ^ h := Nat.lt_of_lt_of_le hk hh.1
  have hc := climb_prf hh hk2 h (Nat.le_refl h)
  have h0 : (T L h 0).getD k ⟨#[]⟩ = x := by
    rw [T_get (by simpa using hk2)]
    simp [lvl, List.getD, hx]
  rw [h0, Nat.div_eq_of_lt hk2, T_top] at hc
  unfold verify
  rw [prf_len, show ((k : Int)).toNat = k by omega, hc]
  simp only [Bool.and_eq_true, decide_eq_true_eq]
  exact ⟨⟨⟨h20, by omega⟩, by exact_mod_cast hk2⟩, rfl⟩
theorem verify_beyond {root x : ByteArray} {i : Int} {l : List ByteArray} (h : (2 : Int) ^ l.length ≤ i) : verify root x i l = false := by
  unfold verify
  rw [decide_eq_false (show ¬ i < 2 ^ l.length by omega)]
  simp
theorem verify_neg {root x : ByteArray} {i : Int} {l : List ByteArray} (h : i < 0) : verify root x i l = false := by
  unfold verify
  rw [decide_eq_false (show ¬ 0 ≤ i by omega)]
  simp
theorem verify_long {root x : ByteArray} {i : Int} {l : List ByteArray} (h : 20 < l.length) : verify root x i l = false := by
  unfold verify
  rw [decide_eq_false (show ¬ l.length ≤ 20 by omega)]
  simp
theorem root_size (L : List ByteArray) (h : Nat) : (root L h).size = 8 := rfl
end Go.Proofs.Ytfikbcgadpbblaa.DG
