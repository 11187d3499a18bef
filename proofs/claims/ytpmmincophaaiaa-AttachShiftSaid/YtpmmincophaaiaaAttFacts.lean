/- Facts on places that the laws of layer 19 share. No conditions. -/
import Derived.Test.YtpmmincophaaiaaAttOpen
namespace Go.Proofs.Ytpmmincophaaiaa.AT
/-- The places of the first ones are the first places. -/
theorem go_take (l : List Dr) (k : Nat) : ∀ n, k ≤ n → n ≤ l.length → (go l n).1.take k = (go l k).1
  | 0, h, _ => by
    obtain rfl : k = 0 := by omega
    rfl
  | n + 1, h, hn => by
    by_cases hk : k = n + 1
    · subst hk
      rw [List.take_of_length_le (by rw [go_len l (n + 1) hn]; omega)]
    · have hd : l[n]? = some l[n] := List.getElem?_eq_getElem (by omega)
      rw [go_succ hd]
      simp only
      rw [List.take_append_of_le_length (by rw [go_len l n (by omega)]; omega)]
      exact go_take l k n (by omega) (by omega)
theorem go_pre {l : List Dr} {k : Nat} {p : Int × Int} (h : (places l)[k]? = some p) : (go l (k + 1)).1[k]? = some p := by
  by_cases hb : 200 < l.length ∨ l.all right = false
  · rw [places_bad hb] at h
    simp at h
  · have h1 : l.length ≤ 200 := by omega
    have h2 : l.all right = true := by
      cases hr : l.all right with
      | true => rfl
      | false => exact absurd (.inr hr) hb
    rw [places_good h1 h2] at h
    have hk := (List.getElem?_eq_some_iff.1 h).1
    rw [go_len l l.length (Nat.le_refl _)] at hk
    rw [← go_take l (k + 1) l.length (by omega) (Nat.le_refl _), List.getElem?_take, if_pos (by omega)]
    exact h
end Go.Proofs.Ytpmmincophaaiaa.AT
namespace Go.Proofs.Ytpmmincophaaiaa.AT
theorem own_first : ∀ (l : List An) (c : Int) (t : Nat) (a : An), l[t]? = some a → a.1 = c → (∀ (s : Nat) (b : An), s < t → l[s]? = some b → ¬ b.1 = c) → own l c = some a
  | [], c, t, a, h, _, _ => by simp at h
  | x :: l, c, 0, a, h, hc, _ => by
    obtain rfl : x = a := by simpa using h
    unfold own
    rw [List.find?_cons_of_pos (by simpa using hc)]
  | x :: l, c, t + 1, a, h, hc, hb => by
    have hx := hb 0 x (by omega) rfl
    unfold own
    rw [List.find?_cons_of_neg (by simpa using hx)]
    exact own_first l c t a (by simpa using h) hc (fun s b hs hl => hb (s + 1) b (by omega) (by simpa using hl))
theorem own_none {l : List An} {c : Int} (h : ∀ (s : Nat) (b : An), s < l.length → l[s]? = some b → ¬ b.1 = c) : own l c = none := by
  unfold own
  rw [List.find?_eq_none]
  intro b hb
  obtain ⟨s, hs, rfl⟩ := List.mem_iff_getElem.1 hb
  simpa using h s _ hs (List.getElem?_eq_getElem hs)
theorem car_hit {l : List Dr} {c : Int} {j : Nat} {e : Dr} {a : An} (he : l[j]? = some e) (ho : own e.anchors c = some a) : carrier l c (j + 1) = some (j, a) := by
  rw [carrier, he]
  simp only [Option.bind_some, ho]
theorem car_miss {l : List Dr} {c : Int} {j : Nat} {e : Dr} (he : l[j]? = some e) (ho : own e.anchors c = none) : carrier l c (j + 1) = carrier l c j := by
  rw [carrier, he]
  simp only [Option.bind_some, ho]
theorem places_step {l : List Dr} {k : Nat} {d : Dr} {p : Int × Int} (hd : l[k]? = some d) (hp : (places l)[k]? = some p) : p = step l (go l k).1 (go l k).2 k d ∧ (∀ j q, j < k → (places l)[j]? = some q → (go l k).1[j]? = some q) := by
  have h1 := go_pre hp
  have hk := (List.getElem?_eq_some_iff.1 hd).1
  have hlen := go_len l k (by omega)
  rw [go_succ hd] at h1
  simp only at h1
  rw [List.getElem?_append_right (by omega), hlen, Nat.sub_self] at h1
  refine ⟨by simpa using h1.symm, fun j q hj hq => ?_⟩
  have h2 := go_pre hq
  have h3 := go_take l (j + 1) k (by omega) (by omega)
  rw [← h3, List.getElem?_take, if_pos (by omega)] at h2
  exact h2
theorem mark_at {l : List Dr} {k j : Nat} {d : Dr} {a : An} {p q : Int × Int} (hd : l[k]? = some d) (hp : (places l)[k]? = some p) (hc : ¬ d.hang.1 = 0) (hcar : carrier l d.hang.1 k = some (j, a)) (hq : (places l)[j]? = some q) :
    p.1 + d.hang.2.1 = q.1 + a.2.1 ∧ p.2 + d.hang.2.2 = q.2 + a.2.2 := by
  obtain ⟨h1, h2⟩ := places_step hd hp
  obtain ⟨hj, -⟩ := carrier_lt hcar
  have h3 := h2 j q hj hq
  have h4 := step_car (P := (go l k).1) (pen := (go l k).2) (k := k) hc (by unfold carA; rw [hcar])
  rw [if_pos rfl, List.getD_eq_getElem?_getD, h3] at h4
  rw [h1, h4]
  simp only [Option.getD_some]
  omega
theorem mark_none {l : List Dr} {k : Nat} {d : Dr} {p : Int × Int} (hd : l[k]? = some d) (hp : (places l)[k]? = some p) (hc : ¬ d.hang.1 = 0) (hcar : carrier l d.hang.1 k = none) : p.2 = 0 := by
  obtain ⟨h1, -⟩ := places_step hd hp
  have h4 := step_car (P := (go l k).1) (pen := (go l k).2) (k := k) hc (by unfold carA; rw [hcar])
  rw [if_neg (by simp)] at h4
  rw [h1, h4]
theorem places_bd {l : List Dr} {k : Nat} {p : Int × Int} (hp : (places l)[k]? = some p) : In 419430400 p.1 ∧ In 419430400 p.2 := by
  by_cases hb : 200 < l.length ∨ l.all right = false
  · rw [places_bad hb] at hp
    simp at hp
  · have h1 : l.length ≤ 200 := by omega
    have h2 : l.all right = true := by
      cases hr : l.all right with
      | true => rfl
      | false => exact absurd (.inr hr) hb
    rw [places_good h1 h2] at hp
    have := (go_bd (l := l) l.length (Nat.le_refl _) (fun j d _ hd => by rw [List.all_eq_true] at h2; exact h2 d (List.mem_of_getElem? hd))).2 p (List.mem_of_getElem? hp)
    unfold In at this ⊢
    omega
end Go.Proofs.Ytpmmincophaaiaa.AT
