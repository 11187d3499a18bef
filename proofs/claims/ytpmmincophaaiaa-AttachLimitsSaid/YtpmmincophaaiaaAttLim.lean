/- Glyphs of a make, one with an advance; their places. No conditions. -/
import Derived.Test.YtpmmincophaaiaaAttSane
import Derived.Laws.MakeOwn
namespace Go.Proofs.Ytpmmincophaaiaa.AT
def limD (m : Nat) (a : Int) : List Dr := List.replicate m ⟨[], (0, 0, 0), 0⟩ ++ [⟨[], (0, 0, 0), a⟩]
theorem limD_len (m : Nat) (a : Int) : (limD m a).length = m + 1 := by simp [limD]
theorem limD_mem {m : Nat} {a : Int} {d : Dr} (h : d ∈ limD m a) : d.anchors = [] ∧ d.hang = (0, 0, 0) ∧ (d.adv = 0 ∨ d.adv = a) := by
  rcases List.mem_append.1 h with h | h
  · obtain ⟨-, rfl⟩ := List.mem_replicate.1 h
    exact ⟨rfl, rfl, .inl rfl⟩
  · obtain rfl := List.mem_singleton.1 h
    exact ⟨rfl, rfl, .inr rfl⟩
theorem limD_at {m i : Nat} {a : Int} {d : Dr} (h : (limD m a)[i]? = some d) : i < m + 1 ∧ d = ⟨[], (0, 0, 0), if i = m then a else 0⟩ := by
  have hi := (List.getElem?_eq_some_iff.1 h).1
  rw [limD_len] at hi
  refine ⟨hi, ?_⟩
  unfold limD at h
  by_cases hm : i = m
  · subst hm
    rw [List.getElem?_append_right (by simp)] at h
    simp at h
    rw [if_pos rfl, ← h]
  · rw [List.getElem?_append_left (by simp; omega), List.getElem?_replicate, if_pos (by omega)] at h
    rw [if_neg hm]
    exact (Option.some.inj h).symm
theorem lim_bad {m : Nat} {a : Int} (h : 200 < m + 1 ∨ ¬ (-1048576 ≤ a ∧ a ≤ 1048576)) : places (limD m a) = [] := by
  apply places_bad
  rcases h with h | h
  · exact .inl (by rw [limD_len]; exact h)
  · refine .inr ?_
    rw [List.all_eq_false]
    refine ⟨⟨[], (0, 0, 0), a⟩, by simp [limD], ?_⟩
    have : small a = false := Bool.eq_false_iff.2 fun hs => h ((small_iff a).1 hs)
    simp [right, this]
theorem lim_go {m : Nat} {a : Int} : ∀ k, k ≤ m + 1 → (go (limD m a) k).1 = List.replicate k (0, 0) ∧ (k ≤ m → (go (limD m a) k).2 = 0)
  | 0, _ => ⟨rfl, fun _ => rfl⟩
  | k + 1, h => by
    obtain ⟨h1, h2⟩ := lim_go (m := m) (a := a) k (by omega)
    have hk : k < (limD m a).length := by rw [limD_len]; omega
    have hd : (limD m a)[k]? = some (limD m a)[k] := List.getElem?_eq_getElem hk
    obtain ⟨-, he⟩ := limD_at hd
    have hkm : k ≤ m := by omega
    rw [go_succ hd, he, step_zero rfl, h1, h2 hkm]
    refine ⟨by rw [List.replicate_succ'], fun hm => ?_⟩
    have hne : ¬ k = m := by omega
    simp only [if_true]
    rw [if_neg hne]
    rfl
theorem lim_good {m : Nat} {a : Int} (h1 : m + 1 ≤ 200) (h2 : -1048576 ≤ a ∧ a ≤ 1048576) : places (limD m a) = List.replicate (m + 1) (0, 0) := by
  rw [places_good (by rw [limD_len]; exact h1), limD_len]
  · exact (lim_go (m + 1) (Nat.le_refl _)).1
  · rw [List.all_eq_true]
    intro d hd
    obtain ⟨e1, e2, e3⟩ := limD_mem hd
    have hs : small d.adv = true := (small_iff _).2 (by omega)
    simp only [right, e1, e2, hs]
    rfl
end Go.Proofs.Ytpmmincophaaiaa.AT
namespace Go.Proofs.Ytpmmincophaaiaa
set_option maxRecDepth 100000
set_option linter.unusedVariables false
open Go.RowKit Go.Deep
def zdr : Array Value := #[.slice none 0 0, .slice none 0 0, .int .i64 0, .int .i64 0, .int .i64 0, .int .i64 0]
theorem made_at (m i j : Nat) (hi : i < m) (hj : j < 6) : (madeCells zdr (m * 6))[i * 6 + j]? = zdr[j]? := by
  have h1 : i * 6 + j < m * 6 := by omega
  unfold madeCells
  rw [Array.getElem?_map]
  rw [Array.getElem?_range, if_pos h1]
  simp only [Option.map_some]
  have h2 : (i * 6 + j) % zdr.size = j := by
    show (i * 6 + j) % 6 = j
    omega
  rw [h2]
  have h3 : j < zdr.size := hj
  rw [getElem!_pos zdr j h3, Array.getElem?_eq_getElem h3]
theorem make_dr (w : World) (n : Nat) (hn : n ≤ 300) :
    ∃ w', (Instr.makeSlice 24 (.int .i64 (n : Int)) (.int .i64 (n : Int))).run Try.prog w = .ok (.slice (some ⟨w.heap.size, 0, none⟩) n n) w' ∧ w'.heap[w.heap.size]? = some (.cells (madeCells zdr (n * 6)) 35 (0, 0)) ∧ Below w.heap.size w w' := by
  obtain ⟨i0, hi, hz0, hz1, hz2⟩ := info_parts info_dr
  have h := run_make (P := Try.prog) w 24 35 i0 (.agg zdr) Try.underlying24 hi hz0 .i64 .i64 n n (by omega) (by omega) (by rw [hz2]; omega) (by omega)
  simp only [Int.toNat_natCast, hz1] at h
  exact ⟨_, h, heap_alloc_new w _, balloc (Below.refl _ _) _⟩
theorem lim_ds {W : World} {B m : Nat} (a : Int) (h : W.heap[B]? = some (.cells (madeCells zdr ((m + 1) * 6)) 35 (0, 0))) : DsAt (W.setCell ⟨B, m * 6 + 5, none⟩ (.int .i64 a)) (.slice (some ⟨B, 0, none⟩) (m + 1) (m + 1)) (AT.limD m a) := by
  have h2 := heap_setCell_same W B (m * 6 + 5) _ _ (.int .i64 a) h
  refine ⟨_, m + 1, by rw [AT.limD_len], .inr ⟨B, 0, rfl, (Array.getElem?_eq_some_iff.1 h2).1, fun i d hd => ?_⟩⟩
  obtain ⟨hi, rfl⟩ := AT.limD_at hd
  have key : ∀ j, j < 6 → i * 6 + j ≠ m * 6 + 5 → (W.setCell ⟨B, m * 6 + 5, none⟩ (.int .i64 a)).cell? ⟨B, i * 6 + j, none⟩ = zdr[j]? := fun j hj hne => by
    simp only [World.cell?, h2]
    rw [Array.getElem?_setIfInBounds_ne (by omega)]
    exact made_at (m + 1) i j hi hj
  rw [Nat.zero_add]
  refine ⟨none, 0, 0, .slice none 0 0, ⟨none, 0, rfl, .inl rfl⟩, key 0 (by omega) (by omega), key 1 (by omega) (by omega), key 2 (by omega) (by omega), key 3 (by omega) (by omega), key 4 (by omega) (by omega), ?_⟩
  by_cases hm : i = m
  · subst hm
    simp only [World.cell?, h2, if_true]
    rw [Array.getElem?_setIfInBounds_self_of_lt (by rw [size_madeCells]; omega)]
    rfl
  · rw [if_neg hm]
    exact key 5 (by omega) (by omega)
end Go.Proofs.Ytpmmincophaaiaa
