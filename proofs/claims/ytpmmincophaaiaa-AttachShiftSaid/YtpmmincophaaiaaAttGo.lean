/- Places, plain: how many, how great; how they lie. No conditions. -/
import Derived.Test.YtpmmincophaaiaaAttCar
namespace Go.Proofs.Ytpmmincophaaiaa.AT
set_option maxRecDepth 100000
theorem right_parts {d : Dr} (h : right d = true) : (-1048576 ≤ d.adv ∧ d.adv ≤ 1048576) ∧ (-1048576 ≤ d.hang.2.1 ∧ d.hang.2.1 ≤ 1048576) ∧ (-1048576 ≤ d.hang.2.2 ∧ d.hang.2.2 ≤ 1048576) ∧ ∀ a ∈ d.anchors, (-1048576 ≤ a.2.1 ∧ a.2.1 ≤ 1048576) ∧ (-1048576 ≤ a.2.2 ∧ a.2.2 ≤ 1048576) := by
  unfold right at h
  simp only [Bool.and_eq_true, List.all_eq_true, small_iff] at h
  refine ⟨h.2.2, h.2.1.1, h.2.1.2, fun a ha => ?_⟩
  have := h.1 a ha
  unfold anOk at this
  simpa only [Bool.and_eq_true, small_iff] using this
theorem carrier_lt {l : List Dr} {c : Int} {j : Nat} {a : An} : ∀ {k : Nat}, carrier l c k = some (j, a) → j < k ∧ ∃ d, l[j]? = some d ∧ a ∈ d.anchors
  | 0, h => by simp [carrier] at h
  | k + 1, h => by
    rw [carrier] at h
    split at h
    · rename_i b hb
      simp at h
      obtain ⟨rfl, rfl⟩ := h
      obtain ⟨d, hd, ho⟩ := Option.bind_eq_some_iff.1 hb
      exact ⟨by omega, d, hd, List.mem_of_find?_eq_some ho⟩
    · obtain ⟨h1, h2⟩ := carrier_lt h
      exact ⟨by omega, h2⟩
theorem go_succ {l : List Dr} {k : Nat} {d : Dr} (h : l[k]? = some d) : go l (k + 1) = ((go l k).1 ++ [step l (go l k).1 (go l k).2 k d], if d.hang.1 = 0 then (go l k).2 + d.adv else (go l k).2) := by
  rw [go, h]
theorem go_len (l : List Dr) : ∀ k, k ≤ l.length → (go l k).1.length = k
  | 0, _ => rfl
  | k + 1, h => by
    rw [go_succ (List.getElem?_eq_getElem (by omega)), List.length_append, go_len l k (by omega)]
    rfl
def In (b : Int) (x : Int) : Prop := -b ≤ x ∧ x ≤ b
theorem go_bd {l : List Dr} : ∀ k, k ≤ l.length → (∀ (j : Nat) (d : Dr), j < k → l[j]? = some d → right d = true) → In ((k : Int) * 2097152) (go l k).2 ∧ ∀ p ∈ (go l k).1, In ((k : Int) * 2097152) p.1 ∧ In ((k : Int) * 2097152) p.2
  | 0, _, _ => ⟨by unfold In go; simp, fun p hp => by simp [go] at hp⟩
  | k + 1, h, hr => by
    have hd : l[k]? = some l[k] := List.getElem?_eq_getElem (by omega)
    obtain ⟨p1, p2⟩ := go_bd k (by omega) (fun j d hj => hr j d (by omega))
    obtain ⟨r1, r2, r3, r4⟩ := right_parts (hr k l[k] (by omega) hd)
    generalize l[k] = d at *
    rw [go_succ hd]
    have hm : ((k + 1 : Nat) : Int) * 2097152 = (k : Int) * 2097152 + 2097152 := by omega
    rw [hm]
    generalize (k : Int) * 2097152 = B at *
    have hB : 0 ≤ B := by unfold In at p1; omega
    have hstep : In (B + 2097152) (step l (go l k).1 (go l k).2 k d).1 ∧ In (B + 2097152) (step l (go l k).1 (go l k).2 k d).2 := by
      unfold step
      split
      · unfold In at p1 ⊢
        simp only
        omega
      · split
        · rename_i j a hc
          obtain ⟨hj, e, he, ha⟩ := carrier_lt hc
          obtain ⟨-, -, -, r5⟩ := right_parts (hr j e (by omega) he)
          have r6 := r5 a ha
          have hlen := go_len l k (by omega)
          have hp : (go l k).1.getD j (0, 0) ∈ (go l k).1 := by
            rw [List.getD_eq_getElem?_getD, List.getElem?_eq_getElem (by omega)]
            exact List.getElem_mem _
          have h7 := p2 _ hp
          unfold In at h7 ⊢
          simp only
          omega
        · unfold In at p1 ⊢
          simp only
          omega
    refine ⟨?_, fun p hp => ?_⟩
    · unfold In at p1 ⊢
      simp only
      split <;> omega
    · rcases List.mem_append.1 hp with hp | hp
      · have h7 := p2 p hp
        unfold In at h7 ⊢
        omega
      · rw [List.mem_singleton.1 hp]
        exact hstep
/-- The values of places. -/
def ptc (l : List (Int × Int)) : List Value := l.flatMap fun p => [.int .i64 p.1, .int .i64 p.2]
theorem ptc_snoc (l : List (Int × Int)) (p : Int × Int) : ptc (l ++ [p]) = ptc l ++ [.int .i64 p.1, .int .i64 p.2] := by
  unfold ptc
  rw [List.flatMap_append]
  rfl
theorem ptc_at : ∀ (l : List (Int × Int)) (i : Nat) (x : Int × Int), l[i]? = some x → (ptc l)[i * 2]? = some (.int .i64 x.1) ∧ (ptc l)[i * 2 + 1]? = some (.int .i64 x.2)
  | [], i, x, h => by simp at h
  | y :: l, 0, x, h => by
    obtain rfl : y = x := by simpa using h
    exact ⟨rfl, rfl⟩
  | y :: l, i + 1, x, h => by
    have := ptc_at l i x (by simpa using h)
    rw [show (i + 1) * 2 = i * 2 + 1 + 1 by omega]
    exact this
theorem ptc_len (l : List (Int × Int)) : (ptc l).length = l.length * 2 := by
  induction l with
  | nil => rfl
  | cons x l ih => show ((ptc l).length + 1 + 1) = _; rw [ih, List.length_cons]; omega
theorem places_bad {l : List Dr} (h : 200 < l.length ∨ l.all right = false) : places l = [] := if_pos h
theorem places_good {l : List Dr} (h1 : l.length ≤ 200) (h2 : l.all right = true) : places l = (go l l.length).1 := by
  unfold places
  rw [if_neg (by rw [h2]; simp; omega)]
end Go.Proofs.Ytpmmincophaaiaa.AT
