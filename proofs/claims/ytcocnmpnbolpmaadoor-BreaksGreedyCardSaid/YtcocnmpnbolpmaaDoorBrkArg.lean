/- A line of the law's, as an argument. -/
import Derived.Test.YtcocnmpnbolpmaaDoorBrkFacts
namespace Go.Proofs.YtcocnmpnbolpmaaDoor
open Go.ChangeShapes Go.WideShapes Go.ChangeAt Go.RowKit Go.Joins
section
variable {H : Type} {enc : TypeId × Value → H} {W : World}
theorem ints_of {n : Nat} {v : Value} {y : DataW H × List MemPlace} (h : DataW.trod enc Tryd.prog W 0 (fun _ => true) true n 22 [v] = some y) :
    ∃ L : List Int, RowAt W v (L.map (Value.int .i64)) ∧ L.length ≤ maxLen ∧ ∀ a n c, v = .slice a n c → n ≤ c ∧ c ≤ maxLen := by
  rcases open_ints Tryd.underlying22 Tryd.underlying3 (by kernel_rfl) h with ⟨hcs, _⟩ | ⟨a, len', cap', zs, hcs, _, hl, hm, hzl, _, hz, hwf⟩
  · simp at hcs
    subst hcs
    exact ⟨[], ⟨none, 0, rfl, Or.inl rfl⟩, by simp [maxLen], fun a n c h => by injection h with _ h2 h3; subst h2 h3; first | exact ⟨Nat.le_refl _, by simp [maxLen]⟩ | exact ⟨hl, hm⟩⟩
  · simp at hcs
    subst hcs
    rw [if_pos rfl] at hzl
    refine ⟨zs.take len', row_of (by simp; omega) (fun i hi => ?_), by simp; omega, fun a n c h => by injection h with _ h2 h3; subst h2 h3; first | exact ⟨Nat.le_refl _, by simp [maxLen]⟩ | exact ⟨hl, hm⟩⟩
    have hi' : i < len' ∧ i < zs.length := by simp at hi; omega
    rw [hz i hi'.2]
    simp [List.getD, hi'.1, hi'.2]
theorem bools_of {n : Nat} {v : Value} {y : DataW H × List MemPlace} (h : DataW.trod enc Tryd.prog W 0 (fun _ => true) true n 35 [v] = some y) :
    ∃ L : List Bool, RowAt W v (L.map Value.bool) ∧ L.length ≤ maxLen ∧ ∀ a n c, v = .slice a n c → n ≤ c ∧ c ≤ maxLen := by
  rcases DataW.trod_slice Tryd.underlying35 h with ⟨hcs, _⟩ | ⟨a, len, cap, elems, rest, m, _, hcs, _, _, hl, hm, hlen, hel, _, _⟩
  · simp at hcs
    subst hcs
    exact ⟨[], ⟨none, 0, rfl, Or.inl rfl⟩, by simp [maxLen], fun a n c h => by injection h with _ h2 h3; subst h2 h3; first | exact ⟨Nat.le_refl _, by simp [maxLen]⟩ | exact ⟨hl, hm⟩⟩
  · simp at hcs
    subst hcs
    have hC : Tryd.prog.cellsOf 4 = 1 := by kernel_rfl
    have each : ∀ i, i < len → ∃ b : Bool, W.cell? (a.add i) = some (.bool b) := fun i hi => by
      have := hel i hi
      rw [hC, Nat.mul_one, List.getElem?_eq_getElem (by omega), Option.bind_eq_some_iff] at this
      obtain ⟨cs', hcs, hy⟩ := this
      obtain ⟨b, rfl, _⟩ := DataW.trod_bool Tryd.underlying4 hy
      exact ⟨b, cell_of_cells?_one hcs⟩
    have hall : ∀ k, k ≤ len → ∃ L : List Bool, L.length = k ∧ ∀ i, i < k → W.cell? (a.add i) = some (.bool (L.getD i false)) := by
      intro k
      induction k with
      | zero => exact fun _ => ⟨[], rfl, fun i h => by omega⟩
      | succ k ih =>
        intro hk
        obtain ⟨L, h1, h2⟩ := ih (by omega)
        obtain ⟨b, hb⟩ := each k (by omega)
        refine ⟨L ++ [b], by simp [h1], fun i hi => ?_⟩
        by_cases e : i = k
        · subst e; rw [hb]; simp [List.getD, ← h1]
        · rw [h2 i (by omega)]; simp [List.getD, List.getElem?_append_left (show i < L.length by omega)]
    obtain ⟨L, h1, h2⟩ := hall len (Nat.le_refl _)
    refine ⟨L, row_of (by simp; omega) (fun i hi => ?_), by omega, fun a n c h => by injection h with _ h2 h3; subst h2 h3; first | exact ⟨Nat.le_refl _, by simp [maxLen]⟩ | exact ⟨hl, hm⟩⟩
    have hi' : i < L.length := by simpa using hi
    rw [h2 i (by omega)]
    simp [List.getD, List.getElem?_eq_getElem hi']
theorem open_line {base : Nat} {v : Value} {d : DataW H} {p : List MemPlace} (hv : Value.okWide Tryd.prog W .any base 37 v) (h : DataW.Trod enc Tryd.prog W 0 (fun _ => true) true 37 v d p) :
    ∃ (v0 v1 v2 : Value) (a : Int) (L0 L1 : List Int) (L2 : List Bool), v = .agg #[v0, v1, v2, .int .i64 a] ∧ (Lit.int .i64 a).wf = true ∧
      (RowAt W v0 (L0.map (Value.int .i64)) ∧ L0.length ≤ maxLen ∧ ∀ a n c, v0 = .slice a n c → n ≤ c ∧ c ≤ maxLen) ∧ (RowAt W v1 (L1.map (Value.int .i64)) ∧ L1.length ≤ maxLen ∧ ∀ a n c, v1 = .slice a n c → n ≤ c ∧ c ≤ maxLen) ∧ (RowAt W v2 (L2.map Value.bool) ∧ L2.length ≤ maxLen ∧ ∀ a n c, v2 = .slice a n c → n ≤ c ∧ c ≤ maxLen) := by
  obtain ⟨cs, rfl, hsz⟩ := okWide_struct Tryd.underlying37 hv
  obtain ⟨fuel, hf⟩ := h
  obtain ⟨xs, n, rfl, _, hl, hn, hx⟩ := DataW.trod_struct Tryd.underlying37 hf
  have hC : Tryd.prog.cellsOf 37 = 4 := by kernel_rfl
  have h0 := hx 0 _ rfl
  have h1 := hx 1 _ rfl
  have h2 := hx 2 _ rfl
  have h3 := hx 3 _ rfl
  have hs1 : Tryd.prog.cellsOf 22 = 1 := by kernel_rfl
  have hs2 : Tryd.prog.cellsOf 35 = 1 := by kernel_rfl
  have hs3 : Tryd.prog.cellsOf 3 = 1 := by kernel_rfl
  rw [hC] at hl
  obtain ⟨l⟩ := cs
  match l, hl, xs, hn, h0, h1, h2, h3 with
  | [x0, x1, x2, x3], _, [y0, y1, y2, y3], _, h0, h1, h2, h3 =>
    have k0 : DataW.trod enc Tryd.prog W 0 (fun _ => true) true n 22 [x0] = some y0 := by simpa [Value.cells, hs1] using h0
    have k1 : DataW.trod enc Tryd.prog W 0 (fun _ => true) true n 22 [x1] = some y1 := by simpa [Value.cells, hs1] using h1
    have k2 : DataW.trod enc Tryd.prog W 0 (fun _ => true) true n 35 [x2] = some y2 := by simpa [Value.cells, hs2] using h2
    have k3 : DataW.trod enc Tryd.prog W 0 (fun _ => true) true n 3 [x3] = some y3 := by simpa [Value.cells, hs3] using h3
    obtain ⟨L0, r0⟩ := ints_of k0
    obtain ⟨L1, r1⟩ := ints_of k1
    obtain ⟨L2, r2⟩ := bools_of k2
    obtain ⟨a, e3, _, wa⟩ := DataW.trod_int Tryd.underlying3 k3
    simp at e3
    subst e3
    exact ⟨x0, x1, x2, a, L0, L1, L2, rfl, wa, r0, r1, r2⟩
end
end Go.Proofs.YtcocnmpnbolpmaaDoor
