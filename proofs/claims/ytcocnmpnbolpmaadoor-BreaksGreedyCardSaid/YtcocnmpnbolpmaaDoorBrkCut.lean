/- The contract of a line's cut. -/
import Derived.Test.YtcocnmpnbolpmaaDoorBrkArg
import Derived.Deep.RegionHeld3
import Derived.Deep.RegionWith
namespace Go.Proofs.YtcocnmpnbolpmaaDoor
set_option linter.unusedVariables false
open Go.RowKit Go.Shelf Go.Deep
set_option maxRecDepth 100000 in
set_option maxHeartbeats 4000000 in
theorem cut_way (p0 p1 p2 : Option Addr) (n0 n1 n2 c0 c1 c2 m0 m1 m2 : Nat) (a : Int) (w : World) (h0 : n0 ≤ c0) (h1 : n1 ≤ c1) (h2 : n2 ≤ c2) (b0 : c0 ≤ maxLen) (b1 : c1 ≤ maxLen) (b2 : c2 ≤ maxLen)
    (x0 : min (n0 : Int) 40 = (m0 : Int)) (x1 : min (n1 : Int) 40 = (m1 : Int)) (x2 : min (n2 : Int) 40 = (m2 : Int)) :
    Calls Tryd.prog 17 #[.agg #[.slice p0 n0 c0, .slice p1 n1 c1, .slice p2 n2 c2, .int .i64 a]] w fun e W' => e = .returned (.agg #[.slice p0 m0 c0, .slice p1 m1 c1, .slice p2 m2 c2, .int .i64 a]) ∧ Below w.heap.size w W' := by
  have y0 : (if (40 : Int) < (n0 : Int) then (40 : Int) else (n0 : Int)) = (m0 : Int) := by rw [← x0]; split <;> omega
  have y1 : (if (40 : Int) < (n1 : Int) then (40 : Int) else (n1 : Int)) = (m1 : Int) := by rw [← x1]; split <;> omega
  have y2 : (if (40 : Int) < (n2 : Int) then (40 : Int) else (n2 : Int)) = (m2 : Int) := by rw [← x2]; split <;> omega
  have z0 : (m0 : Int) ≤ (c0 : Int) := by omega
  have z1 : (m1 : Int) ≤ (c1 : Int) := by omega
  have z2 : (m2 : Int) ≤ (c2 : Int) := by omega
  have u0 : (0 : Int) ≤ (m0 : Int) := by omega
  have u1 : (0 : Int) ≤ (m1 : Int) := by omega
  have u2 : (0 : Int) ≤ (m2 : Int) := by omega
  go_enter Tryd.func17, Tryd.ntmps17
  go_wp2
  obtain ⟨W, hW⟩ : ∃ W, (w.alloc (.cells #[.slice p0 n0 c0, .slice p1 n1 c1, .slice p2 n2 c2, .int .i64 a] 37)).alloc (.cells #[.slice none 0 0, .slice none 0 0, .slice none 0 0, .int .i64 0] 37) = W := ⟨_, rfl⟩
  obtain ⟨B, hB⟩ : ∃ B, w.heap.size = B := ⟨_, rfl⟩
  have hWs : W.heap.size = B + 1 + 1 := by rw [← hW, ← hB]; simp
  have hA : W.heap[B]? = some (.cells #[.slice p0 n0 c0, .slice p1 n1 c1, .slice p2 n2 c2, .int .i64 a] 37 (0, 0)) := by
    rw [← hW, ← hB, Below.heap_alloc _ _ _ (by simp)]; exact World.alloc_heap_new w _
  have hD : W.heap[B + 1]? = some (.cells #[.slice none 0 0, .slice none 0 0, .slice none 0 0, .int .i64 0] 37 (0, 0)) := by
    rw [← hW, ← hB]
    have := World.alloc_heap_new (w.alloc (.cells #[.slice p0 n0 c0, .slice p1 n1 c1, .slice p2 n2 c2, .int .i64 a] 37)) (.cells #[.slice none 0 0, .slice none 0 0, .slice none 0 0, .int .i64 0] 37)
    rwa [World.size_alloc] at this
  have hbW : Below B w W := by rw [← hW, ← hB]; exact balloc (balloc (Below.refl _ _) _) _
  have e0 : W.cell? ⟨B, 0, none⟩ = some (.slice p0 n0 c0) := by simp [World.cell?, hA]
  have e1 : W.cell? ⟨B, 1, none⟩ = some (.slice p1 n1 c1) := by simp [World.cell?, hA]
  have e2 : W.cell? ⟨B, 2, none⟩ = some (.slice p2 n2 c2) := by simp [World.cell?, hA]
  have e3 : W.cell? ⟨B, 3, none⟩ = some (.int .i64 a) := by simp [World.cell?, hA]
  have t0 : W.cell? ⟨B + 1, 0, none⟩ = some (.slice none 0 0) := by simp [World.cell?, hD]
  have t1 : W.cell? ⟨B + 1, 1, none⟩ = some (.slice none 0 0) := by simp [World.cell?, hD]
  have t2 : W.cell? ⟨B + 1, 2, none⟩ = some (.slice none 0 0) := by simp [World.cell?, hD]
  have t3 : W.cell? ⟨B + 1, 3, none⟩ = some (.int .i64 0) := by simp [World.cell?, hD]
  have f0 : W.frozen? ⟨B + 1, 0, none⟩ = false := by simp [World.frozen?, hD]
  have f1 : W.frozen? ⟨B + 1, 1, none⟩ = false := by simp [World.frozen?, hD]
  have f2 : W.frozen? ⟨B + 1, 2, none⟩ = false := by simp [World.frozen?, hD]
  have f3 : W.frozen? ⟨B + 1, 3, none⟩ = false := by simp [World.frozen?, hD]
  rw [hW, hB]
  have HBW := Lib.hid hbW
  have HD := Lib.hid hD
  clear hW hA hD hbW
  go_region_held3 (fun w' => w'.cell? ⟨B, 0, none⟩ = some (.slice p0 n0 c0) ∧ w'.cell? ⟨B, 1, none⟩ = some (.slice p1 n1 c1) ∧ w'.cell? ⟨B, 2, none⟩ = some (.slice p2 n2 c2) ∧ w'.cell? ⟨B, 3, none⟩ = some (.int .i64 a)) (go_keep) (fail)
  all_goals
    go_wp2
    have hZ := heap_setCell_same _ (B + 1) 3 _ 37 (.int .i64 a) (heap_setCell_same _ (B + 1) 2 _ 37 (.slice p2 m2 c2) (heap_setCell_same _ (B + 1) 1 _ 37 (.slice p1 m1 c1) (heap_setCell_same W (B + 1) 0 _ 37 (.slice p0 m0 c0) HD.out)))
    refine bodyPost_ret (v := .agg #[.slice p0 m0 c0, .slice p1 m1 c1, .slice p2 m2 c2, .int .i64 a]) (results_cell_row Tryd.results17 _ _ (B + 1) 37 _ (0, 0) _ rfl hZ Tryd.underlying37 rfl (by kernel_rfl)) rfl ?_
    refine ⟨rfl, ?_⟩
    rw [hB]
    repeat' (first | exact HBW.out | refine Below.drew ?_ | refine below_drewN ?_ _ | refine Below.setCell ?_ (show B ≤ B + 1 by omega) _)
theorem cut_any (v0 v1 v2 : Value) (L0 L1 : List Int) (L2 : List Bool) (a : Int) (w : World) (r0 : RowAt w v0 (L0.map (Value.int .i64)) ∧ L0.length ≤ maxLen ∧ ∀ a n c, v0 = .slice a n c → n ≤ c ∧ c ≤ maxLen) (r1 : RowAt w v1 (L1.map (Value.int .i64)) ∧ L1.length ≤ maxLen ∧ ∀ a n c, v1 = .slice a n c → n ≤ c ∧ c ≤ maxLen) (r2 : RowAt w v2 (L2.map Value.bool) ∧ L2.length ≤ maxLen ∧ ∀ a n c, v2 = .slice a n c → n ≤ c ∧ c ≤ maxLen) :
    Calls Tryd.prog 17 #[.agg #[v0, v1, v2, .int .i64 a]] w fun e W' => ∃ u0 u1 u2 : Value, e = .returned (.agg #[u0, u1, u2, .int .i64 a]) ∧ RowAt W' u0 ((L0.take 40).map (Value.int .i64)) ∧ RowAt W' u1 ((L1.take 40).map (Value.int .i64)) ∧ RowAt W' u2 ((L2.take 40).map Value.bool) ∧ Below w.heap.size w W' := by
  obtain ⟨p0, c0, rfl, h0⟩ := id r0.1
  obtain ⟨p1, c1, rfl, h1⟩ := id r1.1
  obtain ⟨p2, c2, rfl, h2⟩ := id r2.1
  have k0 := r0.2.2 _ _ _ rfl
  have k1 := r1.2.2 _ _ _ rfl
  have k2 := r2.2.2 _ _ _ rfl
  refine (cut_way p0 p1 p2 _ _ _ c0 c1 c2 (min (L0.map (Value.int .i64)).length 40) (min (L1.map (Value.int .i64)).length 40) (min (L2.map Value.bool).length 40) a w k0.1 k1.1 k2.1 k0.2 k1.2 k2.2 (by omega) (by omega) (by omega)).mono fun e W' ⟨he, hb⟩ => ⟨_, _, _, he, ?_, ?_, ?_, hb⟩
  · have := row_first (r0.1.keep hb) (m := min (L0.map (Value.int .i64)).length 40) (by omega)
    rwa [show (L0.map (Value.int .i64)).take (min (L0.map (Value.int .i64)).length 40) = (L0.take 40).map (Value.int .i64) by rw [List.map_take, Nat.min_comm, ← List.take_take, List.take_length]] at this
  · have := row_first (r1.1.keep hb) (m := min (L1.map (Value.int .i64)).length 40) (by omega)
    rwa [show (L1.map (Value.int .i64)).take (min (L1.map (Value.int .i64)).length 40) = (L1.take 40).map (Value.int .i64) by rw [List.map_take, Nat.min_comm, ← List.take_take, List.take_length]] at this
  · have := row_first (r2.1.keep hb) (m := min (L2.map Value.bool).length 40) (by omega)
    rwa [show (L2.map Value.bool).take (min (L2.map Value.bool).length 40) = (L2.take 40).map Value.bool by rw [List.map_take, Nat.min_comm, ← List.take_take, List.take_length]] at this
end Go.Proofs.YtcocnmpnbolpmaaDoor
