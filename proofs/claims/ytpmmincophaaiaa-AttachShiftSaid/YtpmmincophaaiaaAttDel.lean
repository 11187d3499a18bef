/- Places where a glyph is left out, or what is behind. No conditions. -/
import Derived.Test.YtpmmincophaaiaaAttFacts
namespace Go.Proofs.Ytpmmincophaaiaa.AT
theorem car_ext {l l' : List Dr} {m : Nat} (h : ∀ j, j < m → l'[j]? = l[j]?) (c : Int) : ∀ n, n ≤ m → carrier l' c n = carrier l c n
  | 0, _ => rfl
  | n + 1, hn => by
    rw [carrier, carrier, h n (by omega), car_ext h c n (by omega)]
theorem step_ext {l l' : List Dr} {out : List (Int × Int)} {pen : Int} {k : Nat} {d : Dr} (h : carrier l' d.hang.1 k = carrier l d.hang.1 k) : step l' out pen k d = step l out pen k d := by
  unfold step
  rw [h]
theorem go_ext {l l' : List Dr} {m : Nat} (h : ∀ j, j < m → l'[j]? = l[j]?) : ∀ n, n ≤ m → go l' n = go l n
  | 0, _ => rfl
  | n + 1, hn => by
    have ih := go_ext h n (by omega)
    cases hd : l[n]? with
    | none =>
      rw [go, go, h n (by omega), hd]
      exact ih
    | some d =>
      rw [go_succ hd, go_succ (l := l') (by rw [h n (by omega)]; exact hd), ih, step_ext (car_ext h _ n (by omega))]
theorem places_take {l : List Dr} (h1 : l.length ≤ 200) (h2 : l.all right = true) (k : Nat) (hk : k < l.length) : places (l.take (k + 1)) = (places l).take (k + 1) := by
  have hl : (l.take (k + 1)).length = k + 1 := by rw [List.length_take]; omega
  have ha : (l.take (k + 1)).all right = true := by
    rw [List.all_eq_true] at h2 ⊢
    exact fun d hd => h2 d (List.mem_of_mem_take hd)
  rw [places_good h1 h2, places_good (by omega) ha, hl, go_take l (k + 1) l.length (by omega) (Nat.le_refl _)]
  exact congrArg Prod.fst (go_ext (m := k + 1) (fun j hj => by rw [List.getElem?_take, if_pos hj]) (k + 1) (Nat.le_refl _))
theorem car_del {l : List Dr} {k : Nat} {e : Dr} (hk : l[k]? = some e) (he : e.anchors = []) (c : Int) : ∀ n, k ≤ n → carrier (l.eraseIdx k) c n = (carrier l c (n + 1)).map fun x => (if x.1 < k then x.1 else x.1 - 1, x.2)
  | n, hn => by
    by_cases hnk : n = k
    · subst hnk
      rw [car_miss hk (own_none (by rw [he]; simp)), car_ext (l := l) (m := n) (fun j hj => by rw [List.getElem?_eraseIdx, if_pos hj]) c n (Nat.le_refl _)]
      cases hc : carrier l c n with
      | none => rfl
      | some x =>
        obtain ⟨i, a⟩ := x
        have := (carrier_lt hc).1
        simp [this]
    · obtain ⟨m, rfl⟩ : ∃ m, n = m + 1 := ⟨n - 1, by omega⟩
      have ih := car_del hk he c m (by omega)
      have hg : (l.eraseIdx k)[m]? = l[m + 1]? := by rw [List.getElem?_eraseIdx, if_neg (by omega)]
      rw [carrier, hg, carrier]
      cases hb : (l[m + 1]?).bind (fun d => own d.anchors c) with
      | none =>
        simp only
        exact ih
      | some a =>
        simp only [Option.map_some]
        rw [if_neg (by omega)]
        rfl
theorem getD_del {out : List (Int × Int)} {k i : Nat} (hi : i ≠ k) : (out.eraseIdx k).getD (if i < k then i else i - 1) (0, 0) = out.getD i (0, 0) := by
  rw [List.getD_eq_getElem?_getD, List.getD_eq_getElem?_getD, List.getElem?_eraseIdx]
  by_cases h : i < k
  · rw [if_pos h, if_pos h]
  · rw [if_neg h, if_neg (by omega), show i - 1 + 1 = i by omega]
theorem go_del {l : List Dr} {k : Nat} {e : Dr} (hk : l[k]? = some e) (he : e.anchors = []) (hm : ¬ e.hang.1 = 0) : ∀ n, k ≤ n → n + 1 ≤ l.length → (go (l.eraseIdx k) n).1 = (go l (n + 1)).1.eraseIdx k ∧ (go (l.eraseIdx k) n).2 = (go l (n + 1)).2
  | n, hn, hl => by
    by_cases hnk : n = k
    · subst hnk
      have h1 := go_ext (l := l) (l' := l.eraseIdx n) (m := n) (fun j hj => by rw [List.getElem?_eraseIdx, if_pos hj]) n (Nat.le_refl _)
      rw [h1, go_succ hk, if_neg hm]
      refine ⟨?_, rfl⟩
      simp only
      rw [List.eraseIdx_append_of_length_le (by rw [go_len l n (by omega)]; exact Nat.le_refl _), go_len l n (by omega), Nat.sub_self]
      simp
    · obtain ⟨m, rfl⟩ : ∃ m, n = m + 1 := ⟨n - 1, by omega⟩
      obtain ⟨ih1, ih2⟩ := go_del hk he hm m (by omega) (by omega)
      have hd : l[m + 1]? = some l[m + 1] := List.getElem?_eq_getElem (by omega)
      generalize l[m + 1] = d at hd
      have hd' : (l.eraseIdx k)[m]? = some d := by rw [List.getElem?_eraseIdx, if_neg (by omega)]; exact hd
      have hst : step (l.eraseIdx k) (go (l.eraseIdx k) m).1 (go (l.eraseIdx k) m).2 m d = step l (go l (m + 1)).1 (go l (m + 1)).2 (m + 1) d := by
        unfold step
        rw [ih1, ih2, car_del hk he d.hang.1 m (by omega)]
        by_cases hc0 : d.hang.1 = 0
        · rw [if_pos hc0, if_pos hc0]
        · rw [if_neg hc0, if_neg hc0]
          cases hc : carrier l d.hang.1 (m + 1) with
          | none => rfl
          | some x =>
            obtain ⟨i, a⟩ := x
            have hik : i ≠ k := fun e2 => by
              obtain ⟨-, f, hf, ha⟩ := carrier_lt hc
              rw [e2, hk] at hf
              rw [← Option.some.inj hf, he] at ha
              simp at ha
            simp only [Option.map_some]
            rw [getD_del hik]
      rw [go_succ hd', go_succ hd, hst, ih1, ih2]
      refine ⟨?_, rfl⟩
      simp only
      rw [List.eraseIdx_append_of_lt_length (by rw [go_len l (m + 1) (by omega)]; omega)]
theorem places_del {l : List Dr} {k : Nat} {e : Dr} (h1 : l.length ≤ 200) (h2 : l.all right = true) (hk : l[k]? = some e) (he : e.anchors = []) (hm : ¬ e.hang.1 = 0) : places (l.take k ++ l.drop (k + 1)) = (places l).take k ++ (places l).drop (k + 1) := by
  have hkl := (List.getElem?_eq_some_iff.1 hk).1
  rw [← List.eraseIdx_eq_take_drop_succ, ← List.eraseIdx_eq_take_drop_succ]
  have hlen : (l.eraseIdx k).length = l.length - 1 := by rw [List.length_eraseIdx, if_pos hkl]
  have ha : (l.eraseIdx k).all right = true := by
    rw [List.all_eq_true] at h2 ⊢
    exact fun d hd => h2 d (List.mem_of_mem_eraseIdx hd)
  rw [places_good h1 h2, places_good (by omega) ha, hlen]
  have := (go_del hk he hm (l.length - 1) (by omega) (by omega)).1
  rw [show l.length - 1 + 1 = l.length by omega] at this
  exact this
end Go.Proofs.Ytpmmincophaaiaa.AT
