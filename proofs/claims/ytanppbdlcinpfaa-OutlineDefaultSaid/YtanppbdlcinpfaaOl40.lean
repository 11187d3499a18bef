/- The glyph and the regions of the examples. No conditions. -/
import Derived.Test.YtanppbdlcinpfaaOl38z
import Derived.Test.YtanppbdlcinpfaaOl18
set_option linter.unusedSimpArgs false
set_option linter.unusedVariables false
namespace Go.Proofs.Ytanppbdlcinpfaa
set_option maxRecDepth 100000
set_option linter.unusedVariables false
open Go.RowKit Go.Deep
theorem srcN_blk {W : World} {b k n : Nat} {cs : Array Value} {T : TypeId} {U : List Value} (h : W.heap[b]? = some (.cells cs T (0, 0))) (hl : U.length = n * k) (hu : cs = U.toArray := by rfl) : SrcN k W (.slice (some ⟨b, 0, none⟩) n n) n U :=
  ⟨_, _, rfl, hl, .inr ⟨b, 0, rfl, (Array.getElem?_eq_some_iff.1 h).1, fun j u hj => by
    rw [Nat.zero_add]
    exact nd_cell h (by rw [hu]; simpa using hj)⟩⟩
def exG : Gl := ⟨[[⟨0, 0, true⟩, ⟨10, 0, true⟩, ⟨10, 20, true⟩]], [⟨1, 5, 20⟩], ⟨0, 0, 0⟩, 12, [⟨0, 4, [(0, 0), (8, 0), (0, 0), (2, 0), (0, 0)]⟩], []⟩
def exR : List (List AX.Tn) := [[(0, 64, 64)]]
set_option maxHeartbeats 8000000 in
theorem example_any (W : World) : Calls Try.prog 26 #[] W fun e W' => ∃ u v, e = .returned (.tuple #[u, v]) ∧ GlAt W' u exG ∧ RgAt W' v exR ∧ Below W.heap.size W W' := by
  obtain ⟨B, hB⟩ : ∃ B, W.heap.size = B := ⟨_, rfl⟩
  have HBE := Lib.hid hB
  have sW : W.heap.size = B + 0 := hB
  obtain ⟨v0, hv0⟩ : ∃ v, W.alloc (.cells #[.slice none 0 0, .slice none 0 0, .int .i64 0, .int .i64 0, .int .i64 0, .int .i64 0, .slice none 0 0, .slice none 0 0] 34) = v := ⟨_, rfl⟩
  have y0 : v0.heap[B + 0]? = some (.cells #[.slice none 0 0, .slice none 0 0, .int .i64 0, .int .i64 0, .int .i64 0, .int .i64 0, .slice none 0 0, .slice none 0 0] 34) := by rw [← hv0, ← sW]; exact heap_alloc_new W _
  have sv0 : v0.heap.size = B + 1 := by rw [← hv0, World.size_alloc, sW]
  have Fv0 : FrS (fun q => q = B + 4) W v0 := by rw [← hv0]; exact FrS.of (balloc (Below.refl _ _) _)
  obtain ⟨v1, hv1⟩ : ∃ v, v0.alloc (.cells #[.int .i64 0, .int .i64 0, .bool true, .int .i64 10, .int .i64 0, .bool true, .int .i64 10, .int .i64 20, .bool true] 81) = v := ⟨_, rfl⟩
  have y1 : v1.heap[B + 1]? = some (.cells #[.int .i64 0, .int .i64 0, .bool true, .int .i64 10, .int .i64 0, .bool true, .int .i64 10, .int .i64 20, .bool true] 81) := by rw [← hv1, ← sv0]; exact heap_alloc_new v0 _
  have sv1 : v1.heap.size = B + 2 := by rw [← hv1, World.size_alloc, sv0]
  have Fv1 : FrS (fun q => q = B + 4) v0 v1 := by rw [← hv1]; exact FrS.of (balloc (Below.refl _ _) _)
  obtain ⟨v2, hv2⟩ : ∃ v, v1.alloc (.cells #[.slice (some ⟨B + 1, 0, none⟩) 3 3] 53) = v := ⟨_, rfl⟩
  have y2 : v2.heap[B + 2]? = some (.cells #[.slice (some ⟨B + 1, 0, none⟩) 3 3] 53) := by rw [← hv2, ← sv1]; exact heap_alloc_new v1 _
  have sv2 : v2.heap.size = B + 3 := by rw [← hv2, World.size_alloc, sv1]
  have Fv2 : FrS (fun q => q = B + 4) v1 v2 := by rw [← hv2]; exact FrS.of (balloc (Below.refl _ _) _)
  obtain ⟨v3, hv3⟩ : ∃ v, v2.alloc (.cells #[.int .i64 1, .int .i64 5, .int .i64 20] 30) = v := ⟨_, rfl⟩
  have y3 : v3.heap[B + 3]? = some (.cells #[.int .i64 1, .int .i64 5, .int .i64 20] 30) := by rw [← hv3, ← sv2]; exact heap_alloc_new v2 _
  have sv3 : v3.heap.size = B + 4 := by rw [← hv3, World.size_alloc, sv2]
  have Fv3 : FrS (fun q => q = B + 4) v2 v3 := by rw [← hv3]; exact FrS.of (balloc (Below.refl _ _) _)
  obtain ⟨v4, hv4⟩ : ∃ v, v3.alloc (.cells #[.slice none 0 0, .slice none 0 0, .int .i64 0, .int .i64 0, .int .i64 0, .int .i64 0, .slice none 0 0, .slice none 0 0] 34) = v := ⟨_, rfl⟩
  have y4 : v4.heap[B + 4]? = some (.cells #[.slice none 0 0, .slice none 0 0, .int .i64 0, .int .i64 0, .int .i64 0, .int .i64 0, .slice none 0 0, .slice none 0 0] 34) := by rw [← hv4, ← sv3]; exact heap_alloc_new v3 _
  have sv4 : v4.heap.size = B + 5 := by rw [← hv4, World.size_alloc, sv3]
  have Fv4 : FrS (fun q => q = B + 4) v3 v4 := by rw [← hv4]; exact FrS.of (balloc (Below.refl _ _) _)
  have HbW : Hid (Below W.heap.size W v0) := Lib.hid (by rw [← hv0]; exact balloc (Below.refl _ _) _)
  clear sW
  have c0 : v4.cell? ⟨B + 4, 0, none⟩ = some (.slice none 0 0) := nd_cell y4 rfl
  have d0 := nd_froz y4 0
  have c1 : v4.cell? ⟨B + 4, 1, none⟩ = some (.slice none 0 0) := nd_cell y4 rfl
  have d1 := nd_froz y4 1
  have c2 : v4.cell? ⟨B + 4, 2, none⟩ = some (.int .i64 0) := nd_cell y4 rfl
  have d2 := nd_froz y4 2
  have c3 : v4.cell? ⟨B + 4, 3, none⟩ = some (.int .i64 0) := nd_cell y4 rfl
  have d3 := nd_froz y4 3
  have c4 : v4.cell? ⟨B + 4, 4, none⟩ = some (.int .i64 0) := nd_cell y4 rfl
  have d4 := nd_froz y4 4
  have c5 : v4.cell? ⟨B + 4, 5, none⟩ = some (.int .i64 0) := nd_cell y4 rfl
  have d5 := nd_froz y4 5
  have c6 : v4.cell? ⟨B + 4, 6, none⟩ = some (.slice none 0 0) := nd_cell y4 rfl
  have d6 := nd_froz y4 6
  have c7 : v4.cell? ⟨B + 4, 7, none⟩ = some (.slice none 0 0) := nd_cell y4 rfl
  have d7 := nd_froz y4 7
  obtain ⟨v5, hv5, y5, f5⟩ := sto8 y4 (.slice (some ⟨B + 2, 0, none⟩) 1 1) (.slice (some ⟨B + 3, 0, none⟩) 1 1) (.int .i64 0) (.int .i64 0) (.int .i64 0) (.int .i64 12) (.slice none 0 0) (.slice none 0 0)
  have sv5 : v5.heap.size = B + 5 := by rw [← hv5]; simp [sv4]
  have Fv5 := Lib.hid f5
  have Y := Lib.hid (And.intro y0 (And.intro y1 (And.intro y2 (And.intro y3 y5))))
  have FF := Lib.hid (And.intro Fv1 (And.intro Fv2 (And.intro Fv3 Fv4)))
  have SS := Lib.hid (And.intro sv0 (And.intro sv1 (And.intro sv2 (And.intro sv3 (And.intro sv4 sv5)))))
  clear y0 y1 y2 y3 y4 y5 f5 Fv0 Fv1 Fv2 Fv3 Fv4 sv5
  go_enter Try.func26, Try.ntmps26
  go_upto_region 1 with fail
  try rw [hB]
  try rw [hv0]
  go_upto_region 2 with fail
  try rw [hv5]
  clear c0 d0 c1 d1 c2 d2 c3 d3 c4 d4 c5 d5 c6 d6 c7 d7 hv5 hv0 hv1 hv2 hv3 hv4 sv0 sv1 sv2 sv3 sv4 hB
  have sv5 := SS.out.2.2.2.2.2
  obtain ⟨v6, hv6⟩ : ∃ v, v5.alloc (.cells #[.int .i64 0, .int .i64 0, .int .i64 8, .int .i64 0, .int .i64 0, .int .i64 0, .int .i64 2, .int .i64 0, .int .i64 0, .int .i64 0] 72) = v := ⟨_, rfl⟩
  have y5 : v6.heap[B + 5]? = some (.cells #[.int .i64 0, .int .i64 0, .int .i64 8, .int .i64 0, .int .i64 0, .int .i64 0, .int .i64 2, .int .i64 0, .int .i64 0, .int .i64 0] 72) := by rw [← hv6, ← sv5]; exact heap_alloc_new v5 _
  have sv6 : v6.heap.size = B + 6 := by rw [← hv6, World.size_alloc, sv5]
  have Fv6 : FrS (fun q => q = B + 4) v5 v6 := by rw [← hv6]; exact FrS.of (balloc (Below.refl _ _) _)
  obtain ⟨v7, hv7⟩ : ∃ v, v6.alloc (.cells #[.int .i64 0, .int .i64 4, .slice (some ⟨B + 5, 0, none⟩) 5 5] 70) = v := ⟨_, rfl⟩
  have y6 : v7.heap[B + 6]? = some (.cells #[.int .i64 0, .int .i64 4, .slice (some ⟨B + 5, 0, none⟩) 5 5] 70) := by rw [← hv7, ← sv6]; exact heap_alloc_new v6 _
  have sv7 : v7.heap.size = B + 7 := by rw [← hv7, World.size_alloc, sv6]
  have Fv7 : FrS (fun q => q = B + 4) v6 v7 := by rw [← hv7]; exact FrS.of (balloc (Below.refl _ _) _)
  have e4 : v7.heap[B + 4]? = some (.cells #[.slice (some ⟨B + 2, 0, none⟩) 1 1, .slice (some ⟨B + 3, 0, none⟩) 1 1, .int .i64 0, .int .i64 0, .int .i64 0, .int .i64 12, .slice none 0 0, .slice none 0 0] 34 (0, 0)) := by rw [← hv7, ← hv6]; exact ((balloc (balloc (Below.refl _ v5) _) _).block (B + 4) (by rw [sv5]; omega)).trans Y.out.2.2.2.2
  have c6 : v7.cell? ⟨B + 4, 6, none⟩ = some (.slice none 0 0) := nd_cell e4 rfl
  have d6 := nd_froz e4 6
  obtain ⟨v8, hv8⟩ : ∃ v, v7.setCell ⟨B + 4, 6, none⟩ (.slice (some ⟨B + 6, 0, none⟩) 1 1) = v := ⟨_, rfl⟩
  have y8 : v8.heap[B + 4]? = some (.cells #[.slice (some ⟨B + 2, 0, none⟩) 1 1, .slice (some ⟨B + 3, 0, none⟩) 1 1, .int .i64 0, .int .i64 0, .int .i64 0, .int .i64 12, .slice (some ⟨B + 6, 0, none⟩) 1 1, .slice none 0 0] 34 (0, 0)) := by rw [← hv8]; exact heap_setCell_same v7 (B + 4) 6 _ _ _ e4
  have SV8 : Hid (v8.heap.size = B + 7) := Lib.hid (by rw [← hv8]; simp [sv7])
  have Fv8 : Hid (FrS (fun q => q = B + 4) v7 v8) := Lib.hid (by rw [← hv8]; exact FrS.one v7 (B + 4) 6 _)
  have Y2 := Lib.hid (And.intro y5 (And.intro y6 y8))
  have FF2 := Lib.hid (And.intro Fv6 Fv7)
  have SS2 := Lib.hid (And.intro sv6 sv7)
  clear y5 y6 y8 e4 Fv6 Fv7
  go_upto_region 3 with fail
  try rw [hv8]
  clear c6 d6 hv8 hv6 hv7 sv5 sv6 sv7
  have sv8 := SV8.out
  obtain ⟨v9, hv9⟩ : ∃ v, v8.alloc (.cells #[.int .i64 0, .int .i64 64, .int .i64 64] 119) = v := ⟨_, rfl⟩
  have y7 : v9.heap[B + 7]? = some (.cells #[.int .i64 0, .int .i64 64, .int .i64 64] 119) := by rw [← hv9, ← sv8]; exact heap_alloc_new v8 _
  have sv9 : v9.heap.size = B + 8 := by rw [← hv9, World.size_alloc, sv8]
  have Fv9 : FrS (fun q => q = B + 4) v8 v9 := by rw [← hv9]; exact FrS.of (balloc (Below.refl _ _) _)
  obtain ⟨va, hva⟩ : ∃ v, v9.alloc (.cells #[.slice (some ⟨B + 7, 0, none⟩) 1 1] 63) = v := ⟨_, rfl⟩
  have y8 : va.heap[B + 8]? = some (.cells #[.slice (some ⟨B + 7, 0, none⟩) 1 1] 63) := by rw [← hva, ← sv9]; exact heap_alloc_new v9 _
  have sva : va.heap.size = B + 9 := by rw [← hva, World.size_alloc, sv9]
  have Fva : FrS (fun q => q = B + 4) v9 va := by rw [← hva]; exact FrS.of (balloc (Below.refl _ _) _)
  have g0 : v8.cell? ⟨B + 4, 0, none⟩ = some (.slice (some ⟨B + 2, 0, none⟩) 1 1) := nd_cell Y2.out.2.2 rfl
  have g1 : v8.cell? ⟨B + 4, 1, none⟩ = some (.slice (some ⟨B + 3, 0, none⟩) 1 1) := nd_cell Y2.out.2.2 rfl
  have g2 : v8.cell? ⟨B + 4, 2, none⟩ = some (.int .i64 0) := nd_cell Y2.out.2.2 rfl
  have g3 : v8.cell? ⟨B + 4, 3, none⟩ = some (.int .i64 0) := nd_cell Y2.out.2.2 rfl
  have g4 : v8.cell? ⟨B + 4, 4, none⟩ = some (.int .i64 0) := nd_cell Y2.out.2.2 rfl
  have g5 : v8.cell? ⟨B + 4, 5, none⟩ = some (.int .i64 12) := nd_cell Y2.out.2.2 rfl
  have g6 : v8.cell? ⟨B + 4, 6, none⟩ = some (.slice (some ⟨B + 6, 0, none⟩) 1 1) := nd_cell Y2.out.2.2 rfl
  have g7 : v8.cell? ⟨B + 4, 7, none⟩ = some (.slice none 0 0) := nd_cell Y2.out.2.2 rfl
  have F1 : FrS (fun q => q = B + 4) v1 va := FF.out.2.1.trans (FF.out.2.2.1.trans (FF.out.2.2.2.trans ((Fv5.out.trans FF2.out.1).trans (FF2.out.2.trans (Fv8.out.trans (Fv9.trans Fva))))))
  have F0 : FrS (fun q => q = B + 4) v0 va := FF.out.1.trans F1
  have F2 : FrS (fun q => q = B + 4) v2 va := FF.out.2.2.1.trans (FF.out.2.2.2.trans ((Fv5.out.trans FF2.out.1).trans (FF2.out.2.trans (Fv8.out.trans (Fv9.trans Fva)))))
  have F3 : FrS (fun q => q = B + 4) v3 va := FF.out.2.2.2.trans ((Fv5.out.trans FF2.out.1).trans (FF2.out.2.trans (Fv8.out.trans (Fv9.trans Fva))))
  have F6 : FrS (fun q => q = B + 4) v6 va := FF2.out.2.trans (Fv8.out.trans (Fv9.trans Fva))
  have F7 : FrS (fun q => q = B + 4) v7 va := Fv8.out.trans (Fv9.trans Fva)
  have z0 : va.heap[B + 0]? = some (.cells #[.slice none 0 0, .slice none 0 0, .int .i64 0, .int .i64 0, .int .i64 0, .int .i64 0, .slice none 0 0, .slice none 0 0] 34 (0, 0)) := (F0.block (B + 0) (by rw [SS.out.1]; omega) (by omega)).trans Y.out.1
  rw [Nat.add_zero] at z0
  obtain ⟨vz, hvz, yz, fz⟩ := sto8 z0 (.slice (some ⟨B + 2, 0, none⟩) 1 1) (.slice (some ⟨B + 3, 0, none⟩) 1 1) (.int .i64 0) (.int .i64 0) (.int .i64 0) (.int .i64 12) (.slice (some ⟨B + 6, 0, none⟩) 1 1) (.slice none 0 0)
  have r1 : vz.heap[B + 1]? = some (.cells #[.int .i64 0, .int .i64 0, .bool true, .int .i64 10, .int .i64 0, .bool true, .int .i64 10, .int .i64 20, .bool true] 81 (0, 0)) := (fz.block (B + 1) (by rw [sva]; omega) (by omega)).trans ((F1.block (B + 1) (by rw [SS.out.2.1]; omega) (by omega)).trans Y.out.2.1)
  have r2 : vz.heap[B + 2]? = some (.cells #[.slice (some ⟨B + 1, 0, none⟩) 3 3] 53 (0, 0)) := (fz.block (B + 2) (by rw [sva]; omega) (by omega)).trans ((F2.block (B + 2) (by rw [SS.out.2.2.1]; omega) (by omega)).trans Y.out.2.2.1)
  have r3 : vz.heap[B + 3]? = some (.cells #[.int .i64 1, .int .i64 5, .int .i64 20] 30 (0, 0)) := (fz.block (B + 3) (by rw [sva]; omega) (by omega)).trans ((F3.block (B + 3) (by rw [SS.out.2.2.2.1]; omega) (by omega)).trans Y.out.2.2.2.1)
  have r5 : vz.heap[B + 5]? = some (.cells #[.int .i64 0, .int .i64 0, .int .i64 8, .int .i64 0, .int .i64 0, .int .i64 0, .int .i64 2, .int .i64 0, .int .i64 0, .int .i64 0] 72 (0, 0)) := (fz.block (B + 5) (by rw [sva]; omega) (by omega)).trans ((F6.block (B + 5) (by rw [SS2.out.1]; omega) (by omega)).trans Y2.out.1)
  have r6 : vz.heap[B + 6]? = some (.cells #[.int .i64 0, .int .i64 4, .slice (some ⟨B + 5, 0, none⟩) 5 5] 70 (0, 0)) := (fz.block (B + 6) (by rw [sva]; omega) (by omega)).trans ((F7.block (B + 6) (by rw [SS2.out.2]; omega) (by omega)).trans Y2.out.2.1)
  have r7 : vz.heap[B + 7]? = some (.cells #[.int .i64 0, .int .i64 64, .int .i64 64] 119 (0, 0)) := (fz.block (B + 7) (by rw [sva]; omega) (by omega)).trans ((Fva.block (B + 7) (by rw [sv9]; omega) (by omega)).trans y7)
  have r8 : vz.heap[B + 8]? = some (.cells #[.slice (some ⟨B + 7, 0, none⟩) 1 1] 63 (0, 0)) := (fz.block (B + 8) (by rw [sva]; omega) (by omega)).trans y8
  have HG : Hid (GlAt vz (.agg #[.slice (some ⟨B + 2, 0, none⟩) 1 1, .slice (some ⟨B + 3, 0, none⟩) 1 1, .int .i64 0, .int .i64 0, .int .i64 0, .int .i64 12, .slice (some ⟨B + 6, 0, none⟩) 1 1, .slice none 0 0]) exG) := Lib.hid ⟨_, _, _, _, rfl, ⟨[.slice (some ⟨B + 1, 0, none⟩) 3 3], srcN_blk r2 rfl, fun i c hc => by
      match i, hc with
      | 0, hc =>
        obtain rfl := Option.some.inj hc
        exact ⟨_, _, rfl, srcN_blk (U := ptc _) r1 rfl⟩⟩, srcN_blk (U := acc [⟨1, 5, 20⟩]) r3 rfl, ⟨[.slice (some ⟨B + 5, 0, none⟩) 5 5], rfl, srcN_blk (U := List.flatMap dlv [((⟨0, 4, [(0, 0), (8, 0), (0, 0), (2, 0), (0, 0)]⟩ : Dl), Value.slice (some ⟨B + 5, 0, none⟩) 5 5)]) r6 rfl, fun i c hc => by
      match i, hc with
      | 0, hc =>
        obtain rfl := Option.some.inj hc
        exact ⟨_, _, rfl, srcN_blk (U := AX.prc _) r5 rfl⟩⟩, SrcN.nil 2 vz⟩
  have HR : Hid (RgAt vz (.slice (some ⟨B + 8, 0, none⟩) 1 1) exR) := Lib.hid ⟨_, _, rfl, .inr ⟨B + 8, 0, rfl, (Array.getElem?_eq_some_iff.1 r8).1, fun i r hr => by
      match i, hr with
      | 0, hr =>
        obtain rfl := Option.some.inj hr
        exact ⟨_, _, nd_cell r8 rfl, SrcN.tn (l := [(0, 64, 64)]) (srcN_blk (U := AX.tnc [(0, 64, 64)]) r7 rfl)⟩⟩⟩
  have HBW : Hid (Below W.heap.size W vz) := Lib.hid (fz.below W (F0.below W HbW.out (fun b hb => by have := HBE.out; omega)) (fun b hb => by have := HBE.out; omega))
  have HYZ := Lib.hid yz
  have Z0 := Lib.hid z0
  have c0 : va.cell? ⟨B, 0, none⟩ = some (.slice none 0 0) := nd_cell z0 rfl
  have d0 := nd_froz z0 0
  have c1 : va.cell? ⟨B, 1, none⟩ = some (.slice none 0 0) := nd_cell z0 rfl
  have d1 := nd_froz z0 1
  have c2 : va.cell? ⟨B, 2, none⟩ = some (.int .i64 0) := nd_cell z0 rfl
  have d2 := nd_froz z0 2
  have c3 : va.cell? ⟨B, 3, none⟩ = some (.int .i64 0) := nd_cell z0 rfl
  have d3 := nd_froz z0 3
  have c4 : va.cell? ⟨B, 4, none⟩ = some (.int .i64 0) := nd_cell z0 rfl
  have d4 := nd_froz z0 4
  have c5 : va.cell? ⟨B, 5, none⟩ = some (.int .i64 0) := nd_cell z0 rfl
  have d5 := nd_froz z0 5
  have c6 : va.cell? ⟨B, 6, none⟩ = some (.slice none 0 0) := nd_cell z0 rfl
  have d6 := nd_froz z0 6
  have c7 : va.cell? ⟨B, 7, none⟩ = some (.slice none 0 0) := nd_cell z0 rfl
  have d7 := nd_froz z0 7
  clear F0 F1 F2 F3 F6 F7 z0 yz fz r1 r2 r3 r5 r6 r7 r8 y7 y8 Fv9 Fva
  rename_i hKK
  have HKK := Lib.hid hKK
  clear hKK
  go_wp2
  try rw [hvz]
  refine HKK.out _ _ ?_
  refine wp_ret ?_
  (try simp only [Exit.then])
  refine bodyPost_ret (results_ct Try.results26 _ _ B 34 _ (0, 0) _ rfl HYZ.out Try.underlying34 rfl (by kernel_rfl)) rfl ?_
  exact ⟨_, _, rfl, HG.out, HR.out, HBW.out⟩
end Go.Proofs.Ytanppbdlcinpfaa
