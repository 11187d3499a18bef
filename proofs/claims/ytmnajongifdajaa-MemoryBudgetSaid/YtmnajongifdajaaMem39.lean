/- What is given up, key by key. No conditions. -/
import Derived.Test.YtmnajongifdajaaMem38
namespace Go.Proofs.Ytmnajongifdajaa.ME
set_option linter.unusedVariables false
/-- Of R the first A are done, B are to come: K were kept, G given up, t is the total so far. -/
structure Ro (bu s : Int) (R A B K G : List En) (t : Int) : Prop where
  split : R = A ++ B
  run : room bu (sm R + s) R = (K ++ (room bu t B).1, G.map En.key ++ (room bu t B).2)
  tot : t = s + sm K + sm B
  last : ∀ g, G.getLast? = some g → bu < t + g.size
section
variable {bu s t : Int} {R A B K G : List En} {x : En}
theorem Ro.start (bu s : Int) (R : List En) : Ro bu s R [] R [] [] (sm R + s) :=
  ⟨rfl, rfl, by rw [sm_nil]; omega, fun g h => by cases h⟩
theorem Ro.fit (h : Ro bu s R A (x :: B) K G t) (ht : t ≤ bu) : Ro bu s R (A ++ [x]) B (K ++ [x]) G t ∧ (room bu (sm R + s) R).2 = G.map En.key := by
  have hr := h.run
  rw [room_nil _ _ _ ht] at hr
  refine ⟨⟨by rw [h.split]; simp, ?_, ?_, h.last⟩, by rw [hr]; simp⟩
  · rw [hr, room_nil _ _ _ ht]
    simp
  · have := h.tot
    rw [sm_cons] at this
    rw [sm_app, sm_cons, sm_nil]
    omega
theorem Ro.pinned (h : Ro bu s R A (x :: B) K G t) (ht : bu < t) (hp : x.pin = true) : Ro bu s R (A ++ [x]) B (K ++ [x]) G t := by
  have hr := h.run
  have h1 : room bu t (x :: B) = (x :: (room bu t B).1, (room bu t B).2) := by
    rw [room, if_neg (by omega), if_pos hp]
  rw [h1] at hr
  refine ⟨by rw [h.split]; simp, ?_, ?_, h.last⟩
  · rw [hr]
    simp
  · have := h.tot
    rw [sm_cons] at this
    rw [sm_app, sm_cons, sm_nil]
    omega
theorem Ro.give (h : Ro bu s R A (x :: B) K G t) (ht : bu < t) (hp : x.pin = false) : Ro bu s R (A ++ [x]) B K (G ++ [x]) (t - x.size) ∧ (room bu (sm R + s) R).2[G.length]? = some x.key := by
  have hr := h.run
  have h1 : room bu t (x :: B) = ((room bu (t - x.size) B).1, x.key :: (room bu (t - x.size) B).2) := by
    rw [room, if_neg (by omega), if_neg (by simp [hp])]
  rw [h1] at hr
  refine ⟨⟨by rw [h.split]; simp, ?_, ?_, fun g hg => ?_⟩, ?_⟩
  · rw [hr]
    simp
  · have := h.tot
    rw [sm_cons] at this
    omega
  · rw [List.getLast?_concat] at hg
    obtain rfl : x = g := by simpa using hg
    omega
  · rw [hr]
    simp only
    rw [List.getElem?_append_right (by simp)]
    simp
/-- A pinned key is not the next that is given up. -/
theorem Ro.other (h : Ro bu s R A (x :: B) K G t) (hn : (R.map En.key).Nodup) (ht : bu < t) (hp : x.pin = true) {y : K4} (hy : (room bu (sm R + s) R).2[G.length]? = some y) : y ≠ x.key := fun e => by
  have hr := (h.pinned ht hp).run
  rw [hr] at hy
  simp only at hy
  rw [List.getElem?_append_right (by simp)] at hy
  obtain ⟨z, hz, -, hzk⟩ := room_out bu B t y (List.mem_of_getElem? hy)
  rw [h.split, List.map_append, List.map_cons] at hn
  have h2 := (List.nodup_append.1 hn).2.1
  rw [List.nodup_cons] at h2
  exact h2.1 (by rw [← e, ← hzk]; exact List.mem_map.2 ⟨z, hz, rfl⟩)
theorem Ro.fin (h : Ro bu s R A [] K G t) : (room bu (sm R + s) R) = (K, G.map En.key) ∧ (∀ g, G.getLast? = some g → bu - s - sm K - g.size < 0) := by
  have hr := h.run
  have h0 : room bu t [] = ([], []) := rfl
  rw [h0] at hr
  have ht := h.tot
  rw [sm_nil] at ht
  refine ⟨by rw [hr]; simp, fun g hg => ?_⟩
  have := h.last g hg
  omega
end
end Go.Proofs.Ytmnajongifdajaa.ME
