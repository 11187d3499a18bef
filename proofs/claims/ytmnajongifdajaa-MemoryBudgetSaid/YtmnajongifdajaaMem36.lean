/- What the laws say of keys that are not there, of errors, of rows beside a memory. No conditions. -/
import Derived.Test.YtmnajongifdajaaMem35
namespace Go.Proofs.Ytmnajongifdajaa.ME
set_option linter.unusedVariables false
section
variable {k : K4} {P : List En} {bu s : Int}
theorem use_no (h : ∀ e ∈ P, e.key ≠ k) : use k P = (P, false) := by unfold use; rw [fnd_none h]
theorem pin_no (on : Bool) (h : ∀ e ∈ P, e.key ≠ k) : pin k on P = (P, 5) := by unfold pin; rw [fnd_none h]
theorem drop_no (h : ∀ e ∈ P, e.key ≠ k) : drop k P = (P, 5) := by unfold drop; rw [fnd_none h]
theorem put_arg1 (h : s < 0 ∨ 65536 < s) : put bu k s P = (P, [], 1) := by unfold put; rw [if_pos h]
theorem wo_sz (ok : Ok bu P) : ∀ e ∈ wo k P, 0 ≤ e.size ∧ e.size ≤ 65536 := fun e he => ok.sz e (List.mem_filter.1 he).1
theorem put_full (ok : Ok bu P) (h0 : 0 ≤ s) (h1 : s ≤ 65536) (h : bu < s) : put bu k s P = (P, [], 50) := by
  unfold put
  rw [if_neg (by omega), if_pos (by have := (pn_le (wo_sz (k := k) ok)).1; omega)]
theorem put_two (h0 : 0 ≤ s) (h1 : s ≤ 65536) : put bu k s P = (P, [], 50) ∨ ∃ Q g, put bu k s P = (Q, g, 0) := by
  unfold put
  rw [if_neg (by omega)]
  split
  · exact .inl rfl
  · exact .inr ⟨_, _, rfl⟩
theorem room_mem (bu : Int) : ∀ (R : List En) (t : Int), ∀ e ∈ (room bu t R).1, e ∈ R
  | [], t, e, he => he
  | x :: R, t, e, he => by
    unfold room at he
    split at he
    · exact he
    · split at he
      · rcases List.mem_cons.1 he with h | h
        · exact List.mem_cons.2 (.inl h)
        · exact List.mem_cons.2 (.inr (room_mem bu R _ e h))
      · exact List.mem_cons.2 (.inr (room_mem bu R _ e he))
theorem fnd_mem {e : En} (h : fnd k P = some e) : e ∈ P := List.mem_of_find?_eq_some h
theorem act_keys {wh nn sz : Int} {e : En} (he : e ∈ act bu wh nn sz P) : (∃ e' ∈ P, e'.key = e.key) ∨ e.key = kyE (nn % 9) := by
  unfold act at he
  split at he
  · unfold use at he
    split at he
    · exact .inl ⟨e, he, rfl⟩
    · rename_i x hx
      rcases List.mem_append.1 he with h | h
      · exact .inl ⟨e, (List.mem_filter.1 h).1, rfl⟩
      · rw [List.mem_singleton.1 h]
        exact .inl ⟨x, fnd_mem hx, rfl⟩
  · split at he
    · unfold pin at he
      split at he
      · exact .inl ⟨e, he, rfl⟩
      · obtain ⟨x, hx, rfl⟩ := List.mem_map.1 he
        refine .inl ⟨x, hx, ?_⟩
        unfold pinE
        split <;> rfl
    · split at he
      · unfold drop at he
        split at he
        · exact .inl ⟨e, he, rfl⟩
        · split at he
          · exact .inl ⟨e, he, rfl⟩
          · exact .inl ⟨e, (List.mem_filter.1 he).1, rfl⟩
      · unfold put at he
        split at he
        · exact .inl ⟨e, he, rfl⟩
        · split at he
          · exact .inl ⟨e, he, rfl⟩
          · rcases List.mem_append.1 he with h | h
            · exact .inl ⟨e, (List.mem_filter.1 (room_mem _ _ _ _ h)).1, rfl⟩
            · right
              rw [List.mem_singleton.1 h]
              rfl
end
theorem acts_font (bu : Int) : ∀ (l : List Ac) (P : List En), (∀ e ∈ P, e.key.1 < 2) → ∀ e ∈ acts bu l P, e.key.1 < 2
  | [], P, h, e, he => h e he
  | a :: l, P, h, e, he => by
    refine acts_font bu l (act bu a.1 a.2.1 a.2.2 P) (fun x hx => ?_) e he
    rcases act_keys hx with ⟨y, hy, hxy⟩ | hx
    · rw [← hxy]
      exact h y hy
    · rw [hx]
      unfold kyE
      simp only
      omega
theorem acts_no7 (bu : Int) (l : List Ac) (k : K4) (hk : k.1 = 7) : ∀ e ∈ acts bu l [], e.key ≠ k := fun e he x => by
  have h := acts_font bu l [] (fun _ h => by cases h) e he
  rw [x, hk] at h
  omega
end Go.Proofs.Ytmnajongifdajaa.ME
namespace Go.Proofs.Ytmnajongifdajaa
set_option maxRecDepth 100000
set_option linter.unusedVariables false
open Go.RowKit Go.Deep ME
section
variable {W w w' : World} {F F' : Nat → Prop} {M mb root : Nat} {bu : Int} {P Q : List En} {k k' : Nat}
theorem FrS.nd {b : Nat} {o : Obj} (hf : FrS F W w) (h : W.heap[b]? = some o) (hn : ¬ F b) : w.heap[b]? = some o := (hf.block b (Array.getElem?_eq_some_iff.1 h).1 hn).trans h
theorem row_keepF {X n : Nat} {e : TypeId} {j : Nat} {v : Value} {U : List Value} (h : W.ownsRow X e j v n U) (hf : FrS F W w) (hF : ∀ b, F b → b < X) : w.ownsRow X e j v n U :=
  hf.own h fun q eq x => by have := (h.lt q eq).1; have := hF q x; omega
theorem MS.lt (h : MS W M mb root bu P k F) : ∀ b, F b → b < W.heap.size := by
  obtain ⟨⟨L, n, h1, h2, h3⟩, o, l⟩ := h
  exact h3.lt
end
end Go.Proofs.Ytmnajongifdajaa
