/- Facts on places that the laws of layer 19 share. No conditions. -/
import Derived.Test.YtpmmincophaaiaaAttOpen
namespace Go.Proofs.Ytpmmincophaaiaa.AT
/-- The places of the first ones are the first places. -/
theorem go_take (l : List Dr) (k : Nat) : ∀ n, k ≤ n → n ≤ l.length → (go l n).1.take k = (go l k).1
  | 0, h, _ => by
    obtain rfl : k = 0 := by omega
    rfl
  | n + 1, h, hn => by
    by_cases hk : k = n + 1
    · subst hk
      rw [List.take_of_length_le (by rw [go_len l (n + 1) hn]; omega)]
    · have hd : l[n]? = some l[n] := List.getElem?_eq_getElem (by omega)
      rw [go_succ hd]
      simp only
      rw [List.take_append_of_le_length (by rw [go_len l n (by omega)]; omega)]
      exact go_take l k n (by omega) (by omega)
theorem go_pre {l : List Dr} {k : Nat} {p : Int × Int} (h : (places l)[k]? = some p) : (go l (k + 1)).1[k]? = some p := by
  by_cases hb : 200 < l.length ∨ l.all right = false
  · rw [places_bad hb] at h
    simp at h
  · have h1 : l.length ≤ 200 := by omega
    have h2 : l.all right = true := by
      cases hr : l.all right with
      | true => rfl
      | false => exact absurd (.inr hr) hb
    rw [places_good h1 h2] at h
    have hk := (List.getElem?_eq_some_iff.1 h).1
    rw [go_len l l.length (Nat.le_refl _)] at hk
    rw [← go_take l (k + 1) l.length (by omega) (Nat.le_refl _), List.getElem?_take, if_pos (by omega)]
    exact h
end Go.Proofs.Ytpmmincophaaiaa.AT
