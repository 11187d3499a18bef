/- The contract of chars.find: over the table as the program lays it, it returns the class and the script of every number. -/
import Derived.Test.YtbgmbcngkmlfeaaDoorBase
import Derived.Test.YtbgmbcngkmlfeaaDoorChrPlain
namespace Go.Proofs.YtbgmbcngkmlfeaaDoor
open Go.RowKit

/-- The table lies in memory as the program's text lays it, in block g.1 from cell g.2 on. -/
structure Laid (w : World) (g : Nat × Nat) : Prop where
  lt : g.1 < w.heap.size
  lt0 : 0 < w.heap.size
  var : w.cell? ⟨0, 0, none⟩ = some (.slice (some ⟨g.1, g.2, none⟩) 16 16)
  cells : ∀ k j, k < 16 → j < 4 → w.cell? ⟨g.1, g.2 + k * 4 + j, none⟩ = some (.int .i64 (FC.cell k j))
theorem Laid.mono {w w' : World} {g : Nat × Nat} (h : Laid w g) (b : Below w.heap.size w w') : Laid w' g :=
  ⟨Nat.lt_of_lt_of_le h.lt b.size, Nat.lt_of_lt_of_le h.lt0 b.size, (b.cell (p := ⟨_, _, none⟩) h.lt0).trans h.var, fun k j hk hj => (b.cell (p := ⟨g.1, _, none⟩) h.lt).trans (h.cells k j hk hj)⟩

theorem all_succ {P : Nat → Prop} {k : Nat} (h : ∀ j, j < k → P j) (hk : P k) : ∀ j, j < k + 1 → P j := fun j hj => by
  rcases Nat.lt_or_ge j k with e | e
  · exact h j e
  · obtain rfl : j = k := by omega
    exact hk
theorem two_set {w : World} {B : Nat} {x y : Value} (a b : Value) (hx : w.cell? ⟨B, 0, none⟩ = some x) (hy : w.cell? ⟨B, 1, none⟩ = some y) (hlt : B < w.heap.size) (o : Obj) :
    (((w.setCell ⟨B, 0, none⟩ a).setCell ⟨B, 1, none⟩ b).alloc o).cell? ⟨B, 0, none⟩ = some a ∧ (((w.setCell ⟨B, 0, none⟩ a).setCell ⟨B, 1, none⟩ b).alloc o).cell? ⟨B, 1, none⟩ = some b := by
  have h1 : (w.setCell ⟨B, 0, none⟩ a).cell? ⟨B, 1, none⟩ = some y := (World.cell?_setCell_other _ _ _ _ (by simp)).trans hy
  have h0 : (w.setCell ⟨B, 0, none⟩ a).cell? ⟨B, 0, none⟩ = some a := World.cell?_setCell_same _ _ _ hx
  constructor
  · rw [World.cell?_alloc_past _ _ _ (by simpa using hlt)]
    exact (World.cell?_setCell_other _ _ _ _ (by simp)).trans h0
  · rw [World.cell?_alloc_past _ _ _ (by simpa using hlt)]
    exact World.cell?_setCell_same _ _ _ h1
theorem two_set' {w : World} {B : Nat} {x y : Value} (a b : Value) (hx : w.cell? ⟨B, 0, none⟩ = some x) (hy : w.cell? ⟨B, 1, none⟩ = some y) :
    (((w.setCell ⟨B, 0, none⟩ a).setCell ⟨B, 1, none⟩ b)).cell? ⟨B, 0, none⟩ = some a ∧ (((w.setCell ⟨B, 0, none⟩ a).setCell ⟨B, 1, none⟩ b)).cell? ⟨B, 1, none⟩ = some b := by
  have h1 : (w.setCell ⟨B, 0, none⟩ a).cell? ⟨B, 1, none⟩ = some y := (World.cell?_setCell_other _ _ _ _ (by simp)).trans hy
  have h0 : (w.setCell ⟨B, 0, none⟩ a).cell? ⟨B, 0, none⟩ = some a := World.cell?_setCell_same _ _ _ hx
  exact ⟨(World.cell?_setCell_other _ _ _ _ (by simp)).trans h0, World.cell?_setCell_same _ _ _ h1⟩

set_option maxHeartbeats 400000 in
theorem find_any (c : Int) (gs : Nat × Nat) (w : World) (hl : Laid w gs) :
    Calls Tryd.prog 49 #[.int .i64 c] w fun e w' => e = .returned (.agg #[.int .i64 (FC.cls c), .int .i64 (FC.scr c)]) ∧ Below w.heap.size w w' := by
  obtain ⟨g, o⟩ := gs
  have hv : (w.alloc (.cells #[.int .i64 0, .int .i64 0] 64)).cell? ⟨0, 0, none⟩ = some (.slice (some ⟨g, o, none⟩) 16 16) := (World.cell?_alloc_past _ _ _ hl.lt0).trans hl.var
  have HL := Lib.hid hl
  have hg : g < w.heap.size := hl.lt
  clear hl
  go_enter Tryd.func49, Tryd.ntmps49
  go_wp2
  go_loopw [7] (fun i wr => ∃ k : Nat, k ≤ 16 ∧ i = .int .i64 k ∧ Hid (∀ j, j < k → ¬ (FC.cell j 0 ≤ c ∧ c ≤ FC.cell j 1)) ∧ w.heap.size < wr.heap.size ∧ (∃ x y, wr.cell? ⟨w.heap.size, 0, none⟩ = some x ∧ wr.cell? ⟨w.heap.size, 1, none⟩ = some y) ∧ wr.frozen? ⟨w.heap.size, 0, none⟩ = false ∧ wr.frozen? ⟨w.heap.size, 1, none⟩ = false ∧ Below w.heap.size w wr) (fun i _ => 16 - (intOf i).toNat)
  case atStart => exact ⟨0, by omega, rfl, Lib.hid (fun j hj => absurd hj (by omega)), by simp, ⟨_, _, by rw [World.cell?_alloc_at _ _ _ _ (by simp)]; rfl, by rw [World.cell?_alloc_at _ _ _ _ (by simp)]; rfl⟩, World.frozen?_alloc_at _ _ _ _ (by simp), World.frozen?_alloc_at _ _ _ _ (by simp), by go_grown⟩
  case round =>
    obtain ⟨k, hk, rfl, HM, hlt, ⟨x, y, hx, hy⟩, hf0, hf1, hb⟩ := hrel
    by_cases hk16 : k < 16
    · have l := HL.out.mono hb
      have c0 : wr.cell? ⟨g, o + k * 4, none⟩ = some (.int .i64 (FC.cell k 0)) := l.cells k 0 hk16 (by omega)
      have c1 : wr.cell? ⟨g, o + k * 4 + 1, none⟩ = some (.int .i64 (FC.cell k 1)) := l.cells k 1 hk16 (by omega)
      have c2 : wr.cell? ⟨g, o + k * 4 + 2, none⟩ = some (.int .i64 (FC.cell k 2)) := l.cells k 2 hk16 (by omega)
      have c3 : wr.cell? ⟨g, o + k * 4 + 3, none⟩ = some (.int .i64 (FC.cell k 3)) := l.cells k 3 hk16 (by omega)
      clear l
      by_cases h0 : FC.cell k 0 ≤ c
      · by_cases h1 : c ≤ FC.cell k 1
        · obtain ⟨e2, e3⟩ := FC.hit hk16 h0 h1
          rw [← e2] at c2
          rw [← e3] at c3
          clear e2 e3
          go_wp2
          obtain ⟨f0, f1⟩ := two_set (.int .i64 (FC.cls c)) (.int .i64 (FC.scr c)) hx hy hlt (.cells #[.int .i64 (FC.cell k 0), .int .i64 (FC.cell k 1), .int .i64 (FC.cls c), .int .i64 (FC.scr c)] 73)
          exact bodyPost_ret (v := .agg #[.int .i64 (FC.cls c), .int .i64 (FC.scr c)]) (by simp [results, Tryd.results49, go_sem, f0, f1]) rfl ⟨rfl, by go_grown⟩
        · go_wp2
          go_roundw
          case rel => exact ⟨k + 1, by omega, by go_num, Lib.hid (all_succ HM.out (fun h => h1 h.2)), by simp; omega, ⟨x, y, by rw [World.cell?_alloc_past _ _ _ hlt]; exact hx, by rw [World.cell?_alloc_past _ _ _ hlt]; exact hy⟩, by rw [World.frozen?_alloc_past _ _ _ hlt]; exact hf0, by rw [World.frozen?_alloc_past _ _ _ hlt]; exact hf1, by go_grown⟩
          case measure => simp [intOf]; omega
      · go_wp2
        go_roundw
        case rel => exact ⟨k + 1, by omega, by go_num, Lib.hid (all_succ HM.out (fun h => h0 h.1)), by simp; omega, ⟨x, y, by rw [World.cell?_alloc_past _ _ _ hlt]; exact hx, by rw [World.cell?_alloc_past _ _ _ hlt]; exact hy⟩, by rw [World.frozen?_alloc_past _ _ _ hlt]; exact hf0, by rw [World.frozen?_alloc_past _ _ _ hlt]; exact hf1, by go_grown⟩
        case measure => simp [intOf]; omega
    · obtain rfl : k = 16 := by omega
      obtain ⟨e2, e3⟩ := FC.miss HM.out
      have E := Lib.hid (And.intro e2 e3)
      clear e2 e3
      go_wp2
      obtain ⟨f0, f1⟩ := two_set' (.int .i64 0) (.int .i64 0) hx hy
      exact bodyPost_ret (v := .agg #[.int .i64 0, .int .i64 0]) (by simp [results, Tryd.results49, go_sem, f0, f1]) rfl ⟨by rw [E.out.1, E.out.2], by go_grown⟩
end Go.Proofs.YtbgmbcngkmlfeaaDoor
