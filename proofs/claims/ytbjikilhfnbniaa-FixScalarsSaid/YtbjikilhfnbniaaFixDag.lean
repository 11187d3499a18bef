/- The statement that makes three scalars, in all its orders: what may have come up, state by state. No conditions. -/
import Derived.Test.YtbjikilhfnbniaaFixMade
import Derived.Deep.RegionHeld3
namespace Go.Proofs.Ytbjikilhfnbniaa.fixScalars
open Go.ChangeShapes Go.WideShapes Go.ChangeAt Go.RowKit Go.Joins Go.Deep
set_option linter.unusedVariables false
set_option linter.unusedSectionVars false
set_option maxRecDepth 100000
def OPS : Array Oper := #[{ dst := some 24, op := Op.indexAddr 42 (Operand.tmp 2) (Operand.const (Value.int IntKind.i64 0)), type := 0, pos := "law.go:109", after := #[], guard := none },
  { dst := some 25, op := Op.load 3 (Operand.tmp 24), type := 3, pos := "law.go:109", after := #[{ on := 0, ground := Ground.data }], guard := none },
  { dst := some 26, op := Op.indexAddr 42 (Operand.tmp 3) (Operand.const (Value.int IntKind.i64 0)), type := 0, pos := "law.go:109", after := #[], guard := none },
  { dst := some 27, op := Op.load 3 (Operand.tmp 26), type := 3, pos := "law.go:109", after := #[{ on := 2, ground := Ground.data }], guard := none },
  { dst := some 28, op := Op.call { callee := Callee.value (Operand.func 23), args := #[Operand.tmp 25, Operand.tmp 27], argTypes := #[3, 3] }, type := 31, pos := "law.go:109", after := #[{ on := 1, ground := Ground.data }, { on := 3, ground := Ground.data }], guard := none },
  { dst := some 29, op := Op.indexAddr 42 (Operand.tmp 2) (Operand.const (Value.int IntKind.i64 1)), type := 0, pos := "law.go:109", after := #[], guard := none },
  { dst := some 30, op := Op.load 3 (Operand.tmp 29), type := 3, pos := "law.go:109", after := #[{ on := 5, ground := Ground.data }], guard := none },
  { dst := some 31, op := Op.indexAddr 42 (Operand.tmp 3) (Operand.const (Value.int IntKind.i64 1)), type := 0, pos := "law.go:109", after := #[], guard := none },
  { dst := some 32, op := Op.load 3 (Operand.tmp 31), type := 3, pos := "law.go:109", after := #[{ on := 7, ground := Ground.data }], guard := none },
  { dst := some 33, op := Op.call { callee := Callee.value (Operand.func 23), args := #[Operand.tmp 30, Operand.tmp 32], argTypes := #[3, 3] }, type := 31, pos := "law.go:109", after := #[{ on := 6, ground := Ground.data }, { on := 8, ground := Ground.data }, { on := 4, ground := Ground.chain }], guard := none },
  { dst := some 34, op := Op.indexAddr 42 (Operand.tmp 2) (Operand.const (Value.int IntKind.i64 2)), type := 0, pos := "law.go:109", after := #[], guard := none },
  { dst := some 35, op := Op.load 3 (Operand.tmp 34), type := 3, pos := "law.go:109", after := #[{ on := 10, ground := Ground.data }], guard := none },
  { dst := some 36, op := Op.indexAddr 42 (Operand.tmp 3) (Operand.const (Value.int IntKind.i64 2)), type := 0, pos := "law.go:109", after := #[], guard := none },
  { dst := some 37, op := Op.load 3 (Operand.tmp 36), type := 3, pos := "law.go:109", after := #[{ on := 12, ground := Ground.data }], guard := none },
  { dst := some 38, op := Op.call { callee := Callee.value (Operand.func 23), args := #[Operand.tmp 35, Operand.tmp 37], argTypes := #[3, 3] }, type := 31, pos := "law.go:109", after := #[{ on := 11, ground := Ground.data }, { on := 13, ground := Ground.data }, { on := 9, ground := Ground.chain }], guard := none },
  { dst := some 6, op := Op.alloc 31, type := 0, pos := "law.go:109", after := #[], guard := none },
  { dst := some 7, op := Op.alloc 31, type := 0, pos := "law.go:109", after := #[], guard := none },
  { dst := some 8, op := Op.alloc 31, type := 0, pos := "law.go:109", after := #[], guard := none },
  { dst := none, op := Op.store 31 (Operand.tmp 6) (Operand.tmp 28), type := 0, pos := "law.go:109", after := #[{ on := 15, ground := Ground.data }, { on := 4, ground := Ground.data }, { on := 14, ground := Ground.chain }, { on := 0, ground := Ground.phase }, { on := 1, ground := Ground.phase }, { on := 2, ground := Ground.phase }, { on := 3, ground := Ground.phase }, { on := 4, ground := Ground.phase }, { on := 5, ground := Ground.textOnly Departure.lateStores }, { on := 6, ground := Ground.textOnly Departure.lateStores }, { on := 7, ground := Ground.textOnly Departure.lateStores }, { on := 8, ground := Ground.textOnly Departure.lateStores }, { on := 9, ground := Ground.textOnly Departure.lateStoresUnsure }, { on := 10, ground := Ground.textOnly Departure.lateStores }, { on := 11, ground := Ground.textOnly Departure.lateStores }, { on := 12, ground := Ground.textOnly Departure.lateStores }, { on := 13, ground := Ground.textOnly Departure.lateStores }, { on := 14, ground := Ground.textOnly Departure.lateStoresUnsure }, { on := 15, ground := Ground.phase }, { on := 16, ground := Ground.phase }, { on := 17, ground := Ground.phase }], guard := none },
  { dst := none, op := Op.store 31 (Operand.tmp 7) (Operand.tmp 33), type := 0, pos := "law.go:109", after := #[{ on := 16, ground := Ground.data }, { on := 9, ground := Ground.data }, { on := 18, ground := Ground.chain }, { on := 0, ground := Ground.phase }, { on := 1, ground := Ground.phase }, { on := 2, ground := Ground.phase }, { on := 3, ground := Ground.phase }, { on := 4, ground := Ground.phase }, { on := 5, ground := Ground.phase }, { on := 6, ground := Ground.phase }, { on := 7, ground := Ground.phase }, { on := 8, ground := Ground.phase }, { on := 9, ground := Ground.phase }, { on := 10, ground := Ground.textOnly Departure.lateStores }, { on := 11, ground := Ground.textOnly Departure.lateStores }, { on := 12, ground := Ground.textOnly Departure.lateStores }, { on := 13, ground := Ground.textOnly Departure.lateStores }, { on := 14, ground := Ground.textOnly Departure.lateStoresUnsure }, { on := 15, ground := Ground.phase }, { on := 16, ground := Ground.phase }, { on := 17, ground := Ground.phase }, { on := 18, ground := Ground.phase }], guard := none },
  { dst := none, op := Op.store 31 (Operand.tmp 8) (Operand.tmp 38), type := 0, pos := "law.go:109", after := #[{ on := 17, ground := Ground.data }, { on := 14, ground := Ground.data }, { on := 19, ground := Ground.chain }, { on := 0, ground := Ground.phase }, { on := 1, ground := Ground.phase }, { on := 2, ground := Ground.phase }, { on := 3, ground := Ground.phase }, { on := 4, ground := Ground.phase }, { on := 5, ground := Ground.phase }, { on := 6, ground := Ground.phase }, { on := 7, ground := Ground.phase }, { on := 8, ground := Ground.phase }, { on := 9, ground := Ground.phase }, { on := 10, ground := Ground.phase }, { on := 11, ground := Ground.phase }, { on := 12, ground := Ground.phase }, { on := 13, ground := Ground.phase }, { on := 14, ground := Ground.phase }, { on := 15, ground := Ground.phase }, { on := 16, ground := Ground.phase }, { on := 17, ground := Ground.phase }, { on := 18, ground := Ground.phase }, { on := 19, ground := Ground.phase }], guard := none }]
def CellsAt (w w1 : World) (a0 b0 c0 a1 b1 c1 : Int) (w' : World) : Prop := Below w1.heap.size w1 w' ∧ w'.cell? ⟨w.heap.size, 0, none⟩ = some (.int .i64 a0) ∧ w'.cell? ⟨w.heap.size, 1, none⟩ = some (.int .i64 b0) ∧ w'.cell? ⟨w.heap.size, 2, none⟩ = some (.int .i64 c0) ∧ w'.cell? ⟨w.heap.size + 1, 0, none⟩ = some (.int .i64 a1) ∧ w'.cell? ⟨w.heap.size + 1, 1, none⟩ = some (.int .i64 b1) ∧ w'.cell? ⟨w.heap.size + 1, 2, none⟩ = some (.int .i64 c1)
/-- A scalar's place that nothing has been put into. -/
def Zr (V : World) (g : Nat) : Prop := V.heap[g]? = some (.cells #[.int .i64 0, .int .i64 0] 31 (0, 0))
theorem Zr.new (V : World) : Zr (V.alloc (.cells #[.int .i64 0, .int .i64 0] 31)) V.heap.size := by
  unfold Zr
  exact heap_alloc_new V _
theorem Zr.lt {V : World} {g : Nat} (h : Zr V g) : g < V.heap.size := (Array.getElem?_eq_some_iff.1 h).1
theorem Zr.keep {V V' : World} {g : Nat} (h : Zr V g) (hb : Below V.heap.size V V') : Zr V' g := (hb.block g h.lt).trans h
def Pr (V : World) (g : Nat) (x y : Int) : Prop := V.heap[g]? = some (.cells #[.int .i64 x, .int .i64 y] 31 (0, 0))
theorem Zr.cells {V : World} {g : Nat} (h : Zr V g) : V.cell? ⟨g, 0, none⟩ = some (.int .i64 0) ∧ V.cell? ⟨g, 1, none⟩ = some (.int .i64 0) := by
  unfold Zr at h
  constructor <;> simp [World.cell?, h]
theorem Zr.frozen {V : World} {g : Nat} (h : Zr V g) (j : Nat) : V.frozen? ⟨g, j, none⟩ = false := by
  unfold Zr at h
  simp [World.frozen?, h]
theorem Zr.put {V : World} {g : Nat} (h : Zr V g) (x y : Int) : Pr ((V.setCell ⟨g, 0, none⟩ (.int .i64 x)).setCell ⟨g, 1, none⟩ (.int .i64 y)) g x y :=
  heap_setCell_same _ g 1 _ 31 (.int .i64 y) (heap_setCell_same V g 0 _ 31 (.int .i64 x) h)
theorem Zr.far {V : World} {g g' : Nat} (h : Zr V g) (x y : Int) (hn : g' ≠ g) : Zr ((V.setCell ⟨g', 0, none⟩ (.int .i64 x)).setCell ⟨g', 1, none⟩ (.int .i64 y)) g :=
  (heap_setCell_other _ ⟨g', 1, none⟩ g _ hn.symm).trans ((heap_setCell_other V ⟨g', 0, none⟩ g _ hn.symm).trans h)
theorem Pr.far {V : World} {g g' : Nat} {x' y' : Int} (h : Pr V g x' y') (x y : Int) (hn : g' ≠ g) : Pr ((V.setCell ⟨g', 0, none⟩ (.int .i64 x)).setCell ⟨g', 1, none⟩ (.int .i64 y)) g x' y' :=
  (heap_setCell_other _ ⟨g', 1, none⟩ g _ hn.symm).trans ((heap_setCell_other V ⟨g', 0, none⟩ g _ hn.symm).trans h)
set_option maxHeartbeats 4000000 in
theorem stores {Q : Exit → Act → World → Prop} (w w1 : World) (a0 b0 c0 a1 b1 c1 : Int) (KS : ∀ V, Below w1.heap.size w1 V → CellsAt w w1 a0 b0 c0 a1 b1 c1 V)
    (H2 : ∀ (V : World) (g6 g7 g8 : Nat), Below w1.heap.size w1 V → Pr V g6 (FP.madeN a0 a1) (FP.madeD a0 a1) → Pr V g7 (FP.madeN b0 b1) (FP.madeD b0 b1) → Pr V g8 (FP.madeN c0 c1) (FP.madeD c0 c1) → Q .normal ({ tmps := #[.agg #[.int .i64 a0, .int .i64 b0, .int .i64 c0], .agg #[.int .i64 a1, .int .i64 b1, .int .i64 c1], .pointer (some ⟨w.heap.size, 0, none⟩), .pointer (some ⟨w.heap.size + 1, 0, none⟩), .bool false, .bool true, .pointer (some ⟨g6, 0, none⟩), .pointer (some ⟨g7, 0, none⟩), .pointer (some ⟨g8, 0, none⟩), undef, undef, undef, undef, undef, undef, undef, undef, undef, undef, undef, undef, undef, undef, .bool true, .pointer (some ⟨w.heap.size, 0, none⟩), .int .i64 a0, .pointer (some ⟨w.heap.size + 1, 0, none⟩), .int .i64 a1, .agg #[.int .i64 (FP.madeN a0 a1), .int .i64 (FP.madeD a0 a1)], .pointer (some ⟨w.heap.size, 1, none⟩), .int .i64 b0, .pointer (some ⟨w.heap.size + 1, 1, none⟩), .int .i64 b1, .agg #[.int .i64 (FP.madeN b0 b1), .int .i64 (FP.madeD b0 b1)], .pointer (some ⟨w.heap.size, 2, none⟩), .int .i64 c0, .pointer (some ⟨w.heap.size + 1, 2, none⟩), .int .i64 c1, .agg #[.int .i64 (FP.madeN c0 c1), .int .i64 (FP.madeD c0 c1)], undef, undef, undef, undef, undef, undef, undef, undef, undef, undef, undef, undef, undef, undef, undef, undef, undef, undef, undef, undef, undef, undef, undef, undef, undef, undef, undef, undef, undef, undef, undef, undef, undef, undef, undef, undef, undef, undef, undef, undef, undef, undef, undef, undef, undef, undef, undef, undef, undef, undef, undef, undef, undef, undef, undef, undef, undef, undef, undef, undef, undef, undef, undef, undef, undef, undef, undef, undef, undef, undef, undef, undef, undef, undef, undef, undef, undef, undef, undef, undef, undef, undef, undef, undef, undef, undef, undef, undef, undef, undef, undef, undef, undef, undef, undef, undef, undef, undef, undef, undef, undef, undef, undef, undef, undef, undef, undef, undef, undef, undef, undef, undef, undef, undef, undef], defers := [] } : Act) V)
    (V : World) (listed : Array Bool) (hl : listed = #[true, true, true, true, true, true, true, true, true, true, true, true, true, true, true, true, true, true, false, false, false]) (hV : Below w1.heap.size w1 V) (g6 : Nat) (l6 : w1.heap.size ≤ g6) (z6 : Zr V g6) (g7 : Nat) (l7 : w1.heap.size ≤ g7) (z7 : Zr V g7) (g8 : Nat) (l8 : w1.heap.size ≤ g8) (z8 : Zr V g8) (n67 : g6 ≠ g7) (n68 : g6 ≠ g8) (n78 : g7 ≠ g8) : wpAnyH Try.prog .any OPS Q (CellsAt w w1 a0 b0 c0 a1 b1 c1) 3 listed ({ tmps := #[.agg #[.int .i64 a0, .int .i64 b0, .int .i64 c0], .agg #[.int .i64 a1, .int .i64 b1, .int .i64 c1], .pointer (some ⟨w.heap.size, 0, none⟩), .pointer (some ⟨w.heap.size + 1, 0, none⟩), .bool false, .bool true, .pointer (some ⟨g6, 0, none⟩), .pointer (some ⟨g7, 0, none⟩), .pointer (some ⟨g8, 0, none⟩), undef, undef, undef, undef, undef, undef, undef, undef, undef, undef, undef, undef, undef, undef, .bool true, .pointer (some ⟨w.heap.size, 0, none⟩), .int .i64 a0, .pointer (some ⟨w.heap.size + 1, 0, none⟩), .int .i64 a1, .agg #[.int .i64 (FP.madeN a0 a1), .int .i64 (FP.madeD a0 a1)], .pointer (some ⟨w.heap.size, 1, none⟩), .int .i64 b0, .pointer (some ⟨w.heap.size + 1, 1, none⟩), .int .i64 b1, .agg #[.int .i64 (FP.madeN b0 b1), .int .i64 (FP.madeD b0 b1)], .pointer (some ⟨w.heap.size, 2, none⟩), .int .i64 c0, .pointer (some ⟨w.heap.size + 1, 2, none⟩), .int .i64 c1, .agg #[.int .i64 (FP.madeN c0 c1), .int .i64 (FP.madeD c0 c1)], undef, undef, undef, undef, undef, undef, undef, undef, undef, undef, undef, undef, undef, undef, undef, undef, undef, undef, undef, undef, undef, undef, undef, undef, undef, undef, undef, undef, undef, undef, undef, undef, undef, undef, undef, undef, undef, undef, undef, undef, undef, undef, undef, undef, undef, undef, undef, undef, undef, undef, undef, undef, undef, undef, undef, undef, undef, undef, undef, undef, undef, undef, undef, undef, undef, undef, undef, undef, undef, undef, undef, undef, undef, undef, undef, undef, undef, undef, undef, undef, undef, undef, undef, undef, undef, undef, undef, undef, undef, undef, undef, undef, undef, undef, undef, undef, undef, undef, undef, undef, undef, undef, undef, undef, undef, undef, undef, undef, undef, undef, undef, undef, undef, undef, undef], defers := [] } : Act) V := by
  subst hl
  have q0 : V.cell? ⟨g6, 0, none⟩ = some (.int .i64 0) := z6.cells.1
  have q1 : V.cell? ⟨g6, 1, none⟩ = some (.int .i64 0) := z6.cells.2
  have f0 : V.frozen? ⟨g6, 0, none⟩ = false := z6.frozen 0
  have f1 : V.frozen? ⟨g6, 1, none⟩ = false := z6.frozen 1
  refine wpAnyH_ready (rs := [18]) (by kernel_rfl) (by simp) ?_
  refine AllReadyH.cons (o := { dst := none, op := Op.store 31 (Operand.tmp 6) (Operand.tmp 28), type := 0, pos := "law.go:109", after := #[{ on := 15, ground := Ground.data }, { on := 4, ground := Ground.data }, { on := 14, ground := Ground.chain }, { on := 0, ground := Ground.phase }, { on := 1, ground := Ground.phase }, { on := 2, ground := Ground.phase }, { on := 3, ground := Ground.phase }, { on := 4, ground := Ground.phase }, { on := 5, ground := Ground.textOnly Departure.lateStores }, { on := 6, ground := Ground.textOnly Departure.lateStores }, { on := 7, ground := Ground.textOnly Departure.lateStores }, { on := 8, ground := Ground.textOnly Departure.lateStores }, { on := 9, ground := Ground.textOnly Departure.lateStoresUnsure }, { on := 10, ground := Ground.textOnly Departure.lateStores }, { on := 11, ground := Ground.textOnly Departure.lateStores }, { on := 12, ground := Ground.textOnly Departure.lateStores }, { on := 13, ground := Ground.textOnly Departure.lateStores }, { on := 14, ground := Ground.textOnly Departure.lateStoresUnsure }, { on := 15, ground := Ground.phase }, { on := 16, ground := Ground.phase }, { on := 17, ground := Ground.phase }], guard := none }) (by kernel_rfl) (fun K hK => ?_) AllReadyH.nil
  go_simp
  have hb1 : Below w1.heap.size w1 ((V.setCell ⟨g6, 0, none⟩ (.int .i64 (FP.madeN a0 a1))).setCell ⟨g6, 1, none⟩ (.int .i64 (FP.madeD a0 a1))) := bset (bset hV l6 _) l6 _
  refine hK.out _ _ ?_ (fun hHeld => ?_)
  · exact KS _ hb1
  clear hK K q0 q1 f0 f1
  (try simp only [Act.put, List.setIfInBounds_toArray, List.set_cons_zero, List.set_cons_succ])
  have p6 := z6.put (FP.madeN a0 a1) (FP.madeD a0 a1)
  replace z7 := z7.far (g' := g6) (FP.madeN a0 a1) (FP.madeD a0 a1) n67
  replace z8 := z8.far (g' := g6) (FP.madeN a0 a1) (FP.madeD a0 a1) n68
  generalize (V.setCell ⟨g6, 0, none⟩ (.int .i64 (FP.madeN a0 a1))).setCell ⟨g6, 1, none⟩ (.int .i64 (FP.madeD a0 a1)) = V1 at *
  have q0 : V1.cell? ⟨g7, 0, none⟩ = some (.int .i64 0) := z7.cells.1
  have q1 : V1.cell? ⟨g7, 1, none⟩ = some (.int .i64 0) := z7.cells.2
  have f0 : V1.frozen? ⟨g7, 0, none⟩ = false := z7.frozen 0
  have f1 : V1.frozen? ⟨g7, 1, none⟩ = false := z7.frozen 1
  refine wpAnyH_ready (rs := [19]) (by kernel_rfl) (by simp) ?_
  refine AllReadyH.cons (o := { dst := none, op := Op.store 31 (Operand.tmp 7) (Operand.tmp 33), type := 0, pos := "law.go:109", after := #[{ on := 16, ground := Ground.data }, { on := 9, ground := Ground.data }, { on := 18, ground := Ground.chain }, { on := 0, ground := Ground.phase }, { on := 1, ground := Ground.phase }, { on := 2, ground := Ground.phase }, { on := 3, ground := Ground.phase }, { on := 4, ground := Ground.phase }, { on := 5, ground := Ground.phase }, { on := 6, ground := Ground.phase }, { on := 7, ground := Ground.phase }, { on := 8, ground := Ground.phase }, { on := 9, ground := Ground.phase }, { on := 10, ground := Ground.textOnly Departure.lateStores }, { on := 11, ground := Ground.textOnly Departure.lateStores }, { on := 12, ground := Ground.textOnly Departure.lateStores }, { on := 13, ground := Ground.textOnly Departure.lateStores }, { on := 14, ground := Ground.textOnly Departure.lateStoresUnsure }, { on := 15, ground := Ground.phase }, { on := 16, ground := Ground.phase }, { on := 17, ground := Ground.phase }, { on := 18, ground := Ground.phase }], guard := none }) (by kernel_rfl) (fun K hK => ?_) AllReadyH.nil
  go_simp
  have hb2 : Below w1.heap.size w1 ((V1.setCell ⟨g7, 0, none⟩ (.int .i64 (FP.madeN b0 b1))).setCell ⟨g7, 1, none⟩ (.int .i64 (FP.madeD b0 b1))) := bset (bset hb1 l7 _) l7 _
  refine hK.out _ _ ?_ (fun hHeld => ?_)
  · exact KS _ hb2
  clear hK K q0 q1 f0 f1
  (try simp only [Act.put, List.setIfInBounds_toArray, List.set_cons_zero, List.set_cons_succ])
  have p7 := z7.put (FP.madeN b0 b1) (FP.madeD b0 b1)
  replace p6 := p6.far (g' := g7) (FP.madeN b0 b1) (FP.madeD b0 b1) (Ne.symm n67)
  replace z8 := z8.far (g' := g7) (FP.madeN b0 b1) (FP.madeD b0 b1) n78
  generalize (V1.setCell ⟨g7, 0, none⟩ (.int .i64 (FP.madeN b0 b1))).setCell ⟨g7, 1, none⟩ (.int .i64 (FP.madeD b0 b1)) = V2 at *
  have q0 : V2.cell? ⟨g8, 0, none⟩ = some (.int .i64 0) := z8.cells.1
  have q1 : V2.cell? ⟨g8, 1, none⟩ = some (.int .i64 0) := z8.cells.2
  have f0 : V2.frozen? ⟨g8, 0, none⟩ = false := z8.frozen 0
  have f1 : V2.frozen? ⟨g8, 1, none⟩ = false := z8.frozen 1
  refine wpAnyH_ready (rs := [20]) (by kernel_rfl) (by simp) ?_
  refine AllReadyH.cons (o := { dst := none, op := Op.store 31 (Operand.tmp 8) (Operand.tmp 38), type := 0, pos := "law.go:109", after := #[{ on := 17, ground := Ground.data }, { on := 14, ground := Ground.data }, { on := 19, ground := Ground.chain }, { on := 0, ground := Ground.phase }, { on := 1, ground := Ground.phase }, { on := 2, ground := Ground.phase }, { on := 3, ground := Ground.phase }, { on := 4, ground := Ground.phase }, { on := 5, ground := Ground.phase }, { on := 6, ground := Ground.phase }, { on := 7, ground := Ground.phase }, { on := 8, ground := Ground.phase }, { on := 9, ground := Ground.phase }, { on := 10, ground := Ground.phase }, { on := 11, ground := Ground.phase }, { on := 12, ground := Ground.phase }, { on := 13, ground := Ground.phase }, { on := 14, ground := Ground.phase }, { on := 15, ground := Ground.phase }, { on := 16, ground := Ground.phase }, { on := 17, ground := Ground.phase }, { on := 18, ground := Ground.phase }, { on := 19, ground := Ground.phase }], guard := none }) (by kernel_rfl) (fun K hK => ?_) AllReadyH.nil
  go_simp
  have hb3 : Below w1.heap.size w1 ((V2.setCell ⟨g8, 0, none⟩ (.int .i64 (FP.madeN c0 c1))).setCell ⟨g8, 1, none⟩ (.int .i64 (FP.madeD c0 c1))) := bset (bset hb2 l8 _) l8 _
  refine hK.out _ _ ?_ (fun hHeld => ?_)
  · exact KS _ hb3
  clear hK K q0 q1 f0 f1
  (try simp only [Act.put, List.setIfInBounds_toArray, List.set_cons_zero, List.set_cons_succ])
  have p8 := z8.put (FP.madeN c0 c1) (FP.madeD c0 c1)
  replace p6 := p6.far (g' := g8) (FP.madeN c0 c1) (FP.madeD c0 c1) (Ne.symm n68)
  replace p7 := p7.far (g' := g8) (FP.madeN c0 c1) (FP.madeD c0 c1) (Ne.symm n78)
  generalize (V2.setCell ⟨g8, 0, none⟩ (.int .i64 (FP.madeN c0 c1))).setCell ⟨g8, 1, none⟩ (.int .i64 (FP.madeD c0 c1)) = V3 at *
  refine wpAnyH_done (by kernel_rfl) ?_ _
  exact H2 V3 g6 g7 g8 hb3 p6 p7 p8
variable {Q : Exit → Act → World → Prop} (w w1 : World) (a0 b0 c0 a1 b1 c1 : Int) (KS : ∀ V, Below w1.heap.size w1 V → CellsAt w w1 a0 b0 c0 a1 b1 c1 V)
  (H : ∀ (V : World) (listed : Array Bool) (hl : listed = #[true, true, true, true, true, true, true, true, true, true, true, true, true, true, true, true, true, true, false, false, false]) (hV : Below w1.heap.size w1 V) (g6 : Nat) (l6 : w1.heap.size ≤ g6) (z6 : Zr V g6) (g7 : Nat) (l7 : w1.heap.size ≤ g7) (z7 : Zr V g7) (g8 : Nat) (l8 : w1.heap.size ≤ g8) (z8 : Zr V g8) (n67 : g6 ≠ g7) (n68 : g6 ≠ g8) (n78 : g7 ≠ g8), wpAnyH Try.prog .any OPS Q (CellsAt w w1 a0 b0 c0 a1 b1 c1) 3 listed ({ tmps := #[.agg #[.int .i64 a0, .int .i64 b0, .int .i64 c0], .agg #[.int .i64 a1, .int .i64 b1, .int .i64 c1], .pointer (some ⟨w.heap.size, 0, none⟩), .pointer (some ⟨w.heap.size + 1, 0, none⟩), .bool false, .bool true, .pointer (some ⟨g6, 0, none⟩), .pointer (some ⟨g7, 0, none⟩), .pointer (some ⟨g8, 0, none⟩), undef, undef, undef, undef, undef, undef, undef, undef, undef, undef, undef, undef, undef, undef, .bool true, .pointer (some ⟨w.heap.size, 0, none⟩), .int .i64 a0, .pointer (some ⟨w.heap.size + 1, 0, none⟩), .int .i64 a1, .agg #[.int .i64 (FP.madeN a0 a1), .int .i64 (FP.madeD a0 a1)], .pointer (some ⟨w.heap.size, 1, none⟩), .int .i64 b0, .pointer (some ⟨w.heap.size + 1, 1, none⟩), .int .i64 b1, .agg #[.int .i64 (FP.madeN b0 b1), .int .i64 (FP.madeD b0 b1)], .pointer (some ⟨w.heap.size, 2, none⟩), .int .i64 c0, .pointer (some ⟨w.heap.size + 1, 2, none⟩), .int .i64 c1, .agg #[.int .i64 (FP.madeN c0 c1), .int .i64 (FP.madeD c0 c1)], undef, undef, undef, undef, undef, undef, undef, undef, undef, undef, undef, undef, undef, undef, undef, undef, undef, undef, undef, undef, undef, undef, undef, undef, undef, undef, undef, undef, undef, undef, undef, undef, undef, undef, undef, undef, undef, undef, undef, undef, undef, undef, undef, undef, undef, undef, undef, undef, undef, undef, undef, undef, undef, undef, undef, undef, undef, undef, undef, undef, undef, undef, undef, undef, undef, undef, undef, undef, undef, undef, undef, undef, undef, undef, undef, undef, undef, undef, undef, undef, undef, undef, undef, undef, undef, undef, undef, undef, undef, undef, undef, undef, undef, undef, undef, undef, undef, undef, undef, undef, undef, undef, undef, undef, undef, undef, undef, undef, undef, undef, undef, undef, undef, undef, undef], defers := [] } : Act) V)
include KS H
set_option maxHeartbeats 4000000 in
theorem nd3_678 (V : World) (listed : Array Bool) (hl : listed = #[true, true, true, true, true, true, true, true, true, true, true, true, true, true, true, true, true, true, false, false, false]) (hV : Below w1.heap.size w1 V) (g6 : Nat) (l6 : w1.heap.size ≤ g6) (z6 : Zr V g6) (g7 : Nat) (l7 : w1.heap.size ≤ g7) (z7 : Zr V g7) (g8 : Nat) (l8 : w1.heap.size ≤ g8) (z8 : Zr V g8) (n67 : g6 ≠ g7) (n68 : g6 ≠ g8) (n78 : g7 ≠ g8) : wpAnyH Try.prog .any OPS Q (CellsAt w w1 a0 b0 c0 a1 b1 c1) 3 listed ({ tmps := #[.agg #[.int .i64 a0, .int .i64 b0, .int .i64 c0], .agg #[.int .i64 a1, .int .i64 b1, .int .i64 c1], .pointer (some ⟨w.heap.size, 0, none⟩), .pointer (some ⟨w.heap.size + 1, 0, none⟩), .bool false, .bool true, .pointer (some ⟨g6, 0, none⟩), .pointer (some ⟨g7, 0, none⟩), .pointer (some ⟨g8, 0, none⟩), undef, undef, undef, undef, undef, undef, undef, undef, undef, undef, undef, undef, undef, undef, .bool true, .pointer (some ⟨w.heap.size, 0, none⟩), .int .i64 a0, .pointer (some ⟨w.heap.size + 1, 0, none⟩), .int .i64 a1, .agg #[.int .i64 (FP.madeN a0 a1), .int .i64 (FP.madeD a0 a1)], .pointer (some ⟨w.heap.size, 1, none⟩), .int .i64 b0, .pointer (some ⟨w.heap.size + 1, 1, none⟩), .int .i64 b1, .agg #[.int .i64 (FP.madeN b0 b1), .int .i64 (FP.madeD b0 b1)], .pointer (some ⟨w.heap.size, 2, none⟩), .int .i64 c0, .pointer (some ⟨w.heap.size + 1, 2, none⟩), .int .i64 c1, .agg #[.int .i64 (FP.madeN c0 c1), .int .i64 (FP.madeD c0 c1)], undef, undef, undef, undef, undef, undef, undef, undef, undef, undef, undef, undef, undef, undef, undef, undef, undef, undef, undef, undef, undef, undef, undef, undef, undef, undef, undef, undef, undef, undef, undef, undef, undef, undef, undef, undef, undef, undef, undef, undef, undef, undef, undef, undef, undef, undef, undef, undef, undef, undef, undef, undef, undef, undef, undef, undef, undef, undef, undef, undef, undef, undef, undef, undef, undef, undef, undef, undef, undef, undef, undef, undef, undef, undef, undef, undef, undef, undef, undef, undef, undef, undef, undef, undef, undef, undef, undef, undef, undef, undef, undef, undef, undef, undef, undef, undef, undef, undef, undef, undef, undef, undef, undef, undef, undef, undef, undef, undef, undef, undef, undef, undef, undef, undef, undef], defers := [] } : Act) V := by
  exact H V listed hl hV g6 l6 z6 g7 l7 z7 g8 l8 z8 n67 n68 n78
set_option maxHeartbeats 4000000 in
theorem nd3_67 (V : World) (listed : Array Bool) (hl : listed = #[true, true, true, true, true, true, true, true, true, true, true, true, true, true, true, true, true, false, false, false, false]) (hV : Below w1.heap.size w1 V) (g6 : Nat) (l6 : w1.heap.size ≤ g6) (z6 : Zr V g6) (g7 : Nat) (l7 : w1.heap.size ≤ g7) (z7 : Zr V g7) (n67 : g6 ≠ g7) : wpAnyH Try.prog .any OPS Q (CellsAt w w1 a0 b0 c0 a1 b1 c1) 4 listed ({ tmps := #[.agg #[.int .i64 a0, .int .i64 b0, .int .i64 c0], .agg #[.int .i64 a1, .int .i64 b1, .int .i64 c1], .pointer (some ⟨w.heap.size, 0, none⟩), .pointer (some ⟨w.heap.size + 1, 0, none⟩), .bool false, .bool true, .pointer (some ⟨g6, 0, none⟩), .pointer (some ⟨g7, 0, none⟩), undef, undef, undef, undef, undef, undef, undef, undef, undef, undef, undef, undef, undef, undef, undef, .bool true, .pointer (some ⟨w.heap.size, 0, none⟩), .int .i64 a0, .pointer (some ⟨w.heap.size + 1, 0, none⟩), .int .i64 a1, .agg #[.int .i64 (FP.madeN a0 a1), .int .i64 (FP.madeD a0 a1)], .pointer (some ⟨w.heap.size, 1, none⟩), .int .i64 b0, .pointer (some ⟨w.heap.size + 1, 1, none⟩), .int .i64 b1, .agg #[.int .i64 (FP.madeN b0 b1), .int .i64 (FP.madeD b0 b1)], .pointer (some ⟨w.heap.size, 2, none⟩), .int .i64 c0, .pointer (some ⟨w.heap.size + 1, 2, none⟩), .int .i64 c1, .agg #[.int .i64 (FP.madeN c0 c1), .int .i64 (FP.madeD c0 c1)], undef, undef, undef, undef, undef, undef, undef, undef, undef, undef, undef, undef, undef, undef, undef, undef, undef, undef, undef, undef, undef, undef, undef, undef, undef, undef, undef, undef, undef, undef, undef, undef, undef, undef, undef, undef, undef, undef, undef, undef, undef, undef, undef, undef, undef, undef, undef, undef, undef, undef, undef, undef, undef, undef, undef, undef, undef, undef, undef, undef, undef, undef, undef, undef, undef, undef, undef, undef, undef, undef, undef, undef, undef, undef, undef, undef, undef, undef, undef, undef, undef, undef, undef, undef, undef, undef, undef, undef, undef, undef, undef, undef, undef, undef, undef, undef, undef, undef, undef, undef, undef, undef, undef, undef, undef, undef, undef, undef, undef, undef, undef, undef, undef, undef, undef], defers := [] } : Act) V := by
  subst hl
  refine wpAnyH_ready (rs := [17]) (by kernel_rfl) (by simp) ?_
  refine AllReadyH.cons (o := { dst := some 8, op := Op.alloc 31, type := 0, pos := "law.go:109", after := #[], guard := none }) (by kernel_rfl) (fun K hK => ?_) ?_
  · go_simp
    have hb : Below V.heap.size V (V.alloc (.cells #[.int .i64 0, .int .i64 0] 31)) := balloc (Below.refl _ V) _
    refine hK.out _ _ ?_ (fun hHeld => ?_)
    · exact KS _ (bnext hV hb)
    clear hK K
    (try simp only [Act.put, List.setIfInBounds_toArray, List.set_cons_zero, List.set_cons_succ])
    exact nd3_678 w w1 a0 b0 c0 a1 b1 c1 KS H _ _ (by kernel_rfl) (bnext hV hb) g6 l6 (z6.keep hb) g7 l7 (z7.keep hb) V.heap.size hV.size (Zr.new V) n67 (Nat.ne_of_lt z6.lt) (Nat.ne_of_lt z7.lt)
  exact AllReadyH.nil
set_option maxHeartbeats 4000000 in
theorem nd3_68 (V : World) (listed : Array Bool) (hl : listed = #[true, true, true, true, true, true, true, true, true, true, true, true, true, true, true, true, false, true, false, false, false]) (hV : Below w1.heap.size w1 V) (g6 : Nat) (l6 : w1.heap.size ≤ g6) (z6 : Zr V g6) (g8 : Nat) (l8 : w1.heap.size ≤ g8) (z8 : Zr V g8) (n68 : g6 ≠ g8) : wpAnyH Try.prog .any OPS Q (CellsAt w w1 a0 b0 c0 a1 b1 c1) 4 listed ({ tmps := #[.agg #[.int .i64 a0, .int .i64 b0, .int .i64 c0], .agg #[.int .i64 a1, .int .i64 b1, .int .i64 c1], .pointer (some ⟨w.heap.size, 0, none⟩), .pointer (some ⟨w.heap.size + 1, 0, none⟩), .bool false, .bool true, .pointer (some ⟨g6, 0, none⟩), undef, .pointer (some ⟨g8, 0, none⟩), undef, undef, undef, undef, undef, undef, undef, undef, undef, undef, undef, undef, undef, undef, .bool true, .pointer (some ⟨w.heap.size, 0, none⟩), .int .i64 a0, .pointer (some ⟨w.heap.size + 1, 0, none⟩), .int .i64 a1, .agg #[.int .i64 (FP.madeN a0 a1), .int .i64 (FP.madeD a0 a1)], .pointer (some ⟨w.heap.size, 1, none⟩), .int .i64 b0, .pointer (some ⟨w.heap.size + 1, 1, none⟩), .int .i64 b1, .agg #[.int .i64 (FP.madeN b0 b1), .int .i64 (FP.madeD b0 b1)], .pointer (some ⟨w.heap.size, 2, none⟩), .int .i64 c0, .pointer (some ⟨w.heap.size + 1, 2, none⟩), .int .i64 c1, .agg #[.int .i64 (FP.madeN c0 c1), .int .i64 (FP.madeD c0 c1)], undef, undef, undef, undef, undef, undef, undef, undef, undef, undef, undef, undef, undef, undef, undef, undef, undef, undef, undef, undef, undef, undef, undef, undef, undef, undef, undef, undef, undef, undef, undef, undef, undef, undef, undef, undef, undef, undef, undef, undef, undef, undef, undef, undef, undef, undef, undef, undef, undef, undef, undef, undef, undef, undef, undef, undef, undef, undef, undef, undef, undef, undef, undef, undef, undef, undef, undef, undef, undef, undef, undef, undef, undef, undef, undef, undef, undef, undef, undef, undef, undef, undef, undef, undef, undef, undef, undef, undef, undef, undef, undef, undef, undef, undef, undef, undef, undef, undef, undef, undef, undef, undef, undef, undef, undef, undef, undef, undef, undef, undef, undef, undef, undef, undef, undef], defers := [] } : Act) V := by
  subst hl
  refine wpAnyH_ready (rs := [16]) (by kernel_rfl) (by simp) ?_
  refine AllReadyH.cons (o := { dst := some 7, op := Op.alloc 31, type := 0, pos := "law.go:109", after := #[], guard := none }) (by kernel_rfl) (fun K hK => ?_) ?_
  · go_simp
    have hb : Below V.heap.size V (V.alloc (.cells #[.int .i64 0, .int .i64 0] 31)) := balloc (Below.refl _ V) _
    refine hK.out _ _ ?_ (fun hHeld => ?_)
    · exact KS _ (bnext hV hb)
    clear hK K
    (try simp only [Act.put, List.setIfInBounds_toArray, List.set_cons_zero, List.set_cons_succ])
    exact nd3_678 w w1 a0 b0 c0 a1 b1 c1 KS H _ _ (by kernel_rfl) (bnext hV hb) g6 l6 (z6.keep hb) V.heap.size hV.size (Zr.new V) g8 l8 (z8.keep hb) (Nat.ne_of_lt z6.lt) n68 (Nat.ne_of_gt z8.lt)
  exact AllReadyH.nil
set_option maxHeartbeats 4000000 in
theorem nd3_78 (V : World) (listed : Array Bool) (hl : listed = #[true, true, true, true, true, true, true, true, true, true, true, true, true, true, true, false, true, true, false, false, false]) (hV : Below w1.heap.size w1 V) (g7 : Nat) (l7 : w1.heap.size ≤ g7) (z7 : Zr V g7) (g8 : Nat) (l8 : w1.heap.size ≤ g8) (z8 : Zr V g8) (n78 : g7 ≠ g8) : wpAnyH Try.prog .any OPS Q (CellsAt w w1 a0 b0 c0 a1 b1 c1) 4 listed ({ tmps := #[.agg #[.int .i64 a0, .int .i64 b0, .int .i64 c0], .agg #[.int .i64 a1, .int .i64 b1, .int .i64 c1], .pointer (some ⟨w.heap.size, 0, none⟩), .pointer (some ⟨w.heap.size + 1, 0, none⟩), .bool false, .bool true, undef, .pointer (some ⟨g7, 0, none⟩), .pointer (some ⟨g8, 0, none⟩), undef, undef, undef, undef, undef, undef, undef, undef, undef, undef, undef, undef, undef, undef, .bool true, .pointer (some ⟨w.heap.size, 0, none⟩), .int .i64 a0, .pointer (some ⟨w.heap.size + 1, 0, none⟩), .int .i64 a1, .agg #[.int .i64 (FP.madeN a0 a1), .int .i64 (FP.madeD a0 a1)], .pointer (some ⟨w.heap.size, 1, none⟩), .int .i64 b0, .pointer (some ⟨w.heap.size + 1, 1, none⟩), .int .i64 b1, .agg #[.int .i64 (FP.madeN b0 b1), .int .i64 (FP.madeD b0 b1)], .pointer (some ⟨w.heap.size, 2, none⟩), .int .i64 c0, .pointer (some ⟨w.heap.size + 1, 2, none⟩), .int .i64 c1, .agg #[.int .i64 (FP.madeN c0 c1), .int .i64 (FP.madeD c0 c1)], undef, undef, undef, undef, undef, undef, undef, undef, undef, undef, undef, undef, undef, undef, undef, undef, undef, undef, undef, undef, undef, undef, undef, undef, undef, undef, undef, undef, undef, undef, undef, undef, undef, undef, undef, undef, undef, undef, undef, undef, undef, undef, undef, undef, undef, undef, undef, undef, undef, undef, undef, undef, undef, undef, undef, undef, undef, undef, undef, undef, undef, undef, undef, undef, undef, undef, undef, undef, undef, undef, undef, undef, undef, undef, undef, undef, undef, undef, undef, undef, undef, undef, undef, undef, undef, undef, undef, undef, undef, undef, undef, undef, undef, undef, undef, undef, undef, undef, undef, undef, undef, undef, undef, undef, undef, undef, undef, undef, undef, undef, undef, undef, undef, undef, undef], defers := [] } : Act) V := by
  subst hl
  refine wpAnyH_ready (rs := [15]) (by kernel_rfl) (by simp) ?_
  refine AllReadyH.cons (o := { dst := some 6, op := Op.alloc 31, type := 0, pos := "law.go:109", after := #[], guard := none }) (by kernel_rfl) (fun K hK => ?_) ?_
  · go_simp
    have hb : Below V.heap.size V (V.alloc (.cells #[.int .i64 0, .int .i64 0] 31)) := balloc (Below.refl _ V) _
    refine hK.out _ _ ?_ (fun hHeld => ?_)
    · exact KS _ (bnext hV hb)
    clear hK K
    (try simp only [Act.put, List.setIfInBounds_toArray, List.set_cons_zero, List.set_cons_succ])
    exact nd3_678 w w1 a0 b0 c0 a1 b1 c1 KS H _ _ (by kernel_rfl) (bnext hV hb) V.heap.size hV.size (Zr.new V) g7 l7 (z7.keep hb) g8 l8 (z8.keep hb) (Nat.ne_of_gt z7.lt) (Nat.ne_of_gt z8.lt) n78
  exact AllReadyH.nil
set_option maxHeartbeats 4000000 in
theorem nd3_6 (V : World) (listed : Array Bool) (hl : listed = #[true, true, true, true, true, true, true, true, true, true, true, true, true, true, true, true, false, false, false, false, false]) (hV : Below w1.heap.size w1 V) (g6 : Nat) (l6 : w1.heap.size ≤ g6) (z6 : Zr V g6) : wpAnyH Try.prog .any OPS Q (CellsAt w w1 a0 b0 c0 a1 b1 c1) 5 listed ({ tmps := #[.agg #[.int .i64 a0, .int .i64 b0, .int .i64 c0], .agg #[.int .i64 a1, .int .i64 b1, .int .i64 c1], .pointer (some ⟨w.heap.size, 0, none⟩), .pointer (some ⟨w.heap.size + 1, 0, none⟩), .bool false, .bool true, .pointer (some ⟨g6, 0, none⟩), undef, undef, undef, undef, undef, undef, undef, undef, undef, undef, undef, undef, undef, undef, undef, undef, .bool true, .pointer (some ⟨w.heap.size, 0, none⟩), .int .i64 a0, .pointer (some ⟨w.heap.size + 1, 0, none⟩), .int .i64 a1, .agg #[.int .i64 (FP.madeN a0 a1), .int .i64 (FP.madeD a0 a1)], .pointer (some ⟨w.heap.size, 1, none⟩), .int .i64 b0, .pointer (some ⟨w.heap.size + 1, 1, none⟩), .int .i64 b1, .agg #[.int .i64 (FP.madeN b0 b1), .int .i64 (FP.madeD b0 b1)], .pointer (some ⟨w.heap.size, 2, none⟩), .int .i64 c0, .pointer (some ⟨w.heap.size + 1, 2, none⟩), .int .i64 c1, .agg #[.int .i64 (FP.madeN c0 c1), .int .i64 (FP.madeD c0 c1)], undef, undef, undef, undef, undef, undef, undef, undef, undef, undef, undef, undef, undef, undef, undef, undef, undef, undef, undef, undef, undef, undef, undef, undef, undef, undef, undef, undef, undef, undef, undef, undef, undef, undef, undef, undef, undef, undef, undef, undef, undef, undef, undef, undef, undef, undef, undef, undef, undef, undef, undef, undef, undef, undef, undef, undef, undef, undef, undef, undef, undef, undef, undef, undef, undef, undef, undef, undef, undef, undef, undef, undef, undef, undef, undef, undef, undef, undef, undef, undef, undef, undef, undef, undef, undef, undef, undef, undef, undef, undef, undef, undef, undef, undef, undef, undef, undef, undef, undef, undef, undef, undef, undef, undef, undef, undef, undef, undef, undef, undef, undef, undef, undef, undef, undef], defers := [] } : Act) V := by
  subst hl
  refine wpAnyH_ready (rs := [16, 17]) (by kernel_rfl) (by simp) ?_
  refine AllReadyH.cons (o := { dst := some 7, op := Op.alloc 31, type := 0, pos := "law.go:109", after := #[], guard := none }) (by kernel_rfl) (fun K hK => ?_) ?_
  · go_simp
    have hb : Below V.heap.size V (V.alloc (.cells #[.int .i64 0, .int .i64 0] 31)) := balloc (Below.refl _ V) _
    refine hK.out _ _ ?_ (fun hHeld => ?_)
    · exact KS _ (bnext hV hb)
    clear hK K
    (try simp only [Act.put, List.setIfInBounds_toArray, List.set_cons_zero, List.set_cons_succ])
    exact nd3_67 w w1 a0 b0 c0 a1 b1 c1 KS H _ _ (by kernel_rfl) (bnext hV hb) g6 l6 (z6.keep hb) V.heap.size hV.size (Zr.new V) (Nat.ne_of_lt z6.lt)
  refine AllReadyH.cons (o := { dst := some 8, op := Op.alloc 31, type := 0, pos := "law.go:109", after := #[], guard := none }) (by kernel_rfl) (fun K hK => ?_) ?_
  · go_simp
    have hb : Below V.heap.size V (V.alloc (.cells #[.int .i64 0, .int .i64 0] 31)) := balloc (Below.refl _ V) _
    refine hK.out _ _ ?_ (fun hHeld => ?_)
    · exact KS _ (bnext hV hb)
    clear hK K
    (try simp only [Act.put, List.setIfInBounds_toArray, List.set_cons_zero, List.set_cons_succ])
    exact nd3_68 w w1 a0 b0 c0 a1 b1 c1 KS H _ _ (by kernel_rfl) (bnext hV hb) g6 l6 (z6.keep hb) V.heap.size hV.size (Zr.new V) (Nat.ne_of_lt z6.lt)
  exact AllReadyH.nil
set_option maxHeartbeats 4000000 in
theorem nd3_7 (V : World) (listed : Array Bool) (hl : listed = #[true, true, true, true, true, true, true, true, true, true, true, true, true, true, true, false, true, false, false, false, false]) (hV : Below w1.heap.size w1 V) (g7 : Nat) (l7 : w1.heap.size ≤ g7) (z7 : Zr V g7) : wpAnyH Try.prog .any OPS Q (CellsAt w w1 a0 b0 c0 a1 b1 c1) 5 listed ({ tmps := #[.agg #[.int .i64 a0, .int .i64 b0, .int .i64 c0], .agg #[.int .i64 a1, .int .i64 b1, .int .i64 c1], .pointer (some ⟨w.heap.size, 0, none⟩), .pointer (some ⟨w.heap.size + 1, 0, none⟩), .bool false, .bool true, undef, .pointer (some ⟨g7, 0, none⟩), undef, undef, undef, undef, undef, undef, undef, undef, undef, undef, undef, undef, undef, undef, undef, .bool true, .pointer (some ⟨w.heap.size, 0, none⟩), .int .i64 a0, .pointer (some ⟨w.heap.size + 1, 0, none⟩), .int .i64 a1, .agg #[.int .i64 (FP.madeN a0 a1), .int .i64 (FP.madeD a0 a1)], .pointer (some ⟨w.heap.size, 1, none⟩), .int .i64 b0, .pointer (some ⟨w.heap.size + 1, 1, none⟩), .int .i64 b1, .agg #[.int .i64 (FP.madeN b0 b1), .int .i64 (FP.madeD b0 b1)], .pointer (some ⟨w.heap.size, 2, none⟩), .int .i64 c0, .pointer (some ⟨w.heap.size + 1, 2, none⟩), .int .i64 c1, .agg #[.int .i64 (FP.madeN c0 c1), .int .i64 (FP.madeD c0 c1)], undef, undef, undef, undef, undef, undef, undef, undef, undef, undef, undef, undef, undef, undef, undef, undef, undef, undef, undef, undef, undef, undef, undef, undef, undef, undef, undef, undef, undef, undef, undef, undef, undef, undef, undef, undef, undef, undef, undef, undef, undef, undef, undef, undef, undef, undef, undef, undef, undef, undef, undef, undef, undef, undef, undef, undef, undef, undef, undef, undef, undef, undef, undef, undef, undef, undef, undef, undef, undef, undef, undef, undef, undef, undef, undef, undef, undef, undef, undef, undef, undef, undef, undef, undef, undef, undef, undef, undef, undef, undef, undef, undef, undef, undef, undef, undef, undef, undef, undef, undef, undef, undef, undef, undef, undef, undef, undef, undef, undef, undef, undef, undef, undef, undef, undef], defers := [] } : Act) V := by
  subst hl
  refine wpAnyH_ready (rs := [15, 17]) (by kernel_rfl) (by simp) ?_
  refine AllReadyH.cons (o := { dst := some 6, op := Op.alloc 31, type := 0, pos := "law.go:109", after := #[], guard := none }) (by kernel_rfl) (fun K hK => ?_) ?_
  · go_simp
    have hb : Below V.heap.size V (V.alloc (.cells #[.int .i64 0, .int .i64 0] 31)) := balloc (Below.refl _ V) _
    refine hK.out _ _ ?_ (fun hHeld => ?_)
    · exact KS _ (bnext hV hb)
    clear hK K
    (try simp only [Act.put, List.setIfInBounds_toArray, List.set_cons_zero, List.set_cons_succ])
    exact nd3_67 w w1 a0 b0 c0 a1 b1 c1 KS H _ _ (by kernel_rfl) (bnext hV hb) V.heap.size hV.size (Zr.new V) g7 l7 (z7.keep hb) (Nat.ne_of_gt z7.lt)
  refine AllReadyH.cons (o := { dst := some 8, op := Op.alloc 31, type := 0, pos := "law.go:109", after := #[], guard := none }) (by kernel_rfl) (fun K hK => ?_) ?_
  · go_simp
    have hb : Below V.heap.size V (V.alloc (.cells #[.int .i64 0, .int .i64 0] 31)) := balloc (Below.refl _ V) _
    refine hK.out _ _ ?_ (fun hHeld => ?_)
    · exact KS _ (bnext hV hb)
    clear hK K
    (try simp only [Act.put, List.setIfInBounds_toArray, List.set_cons_zero, List.set_cons_succ])
    exact nd3_78 w w1 a0 b0 c0 a1 b1 c1 KS H _ _ (by kernel_rfl) (bnext hV hb) g7 l7 (z7.keep hb) V.heap.size hV.size (Zr.new V) (Nat.ne_of_lt z7.lt)
  exact AllReadyH.nil
set_option maxHeartbeats 4000000 in
theorem nd3_8 (V : World) (listed : Array Bool) (hl : listed = #[true, true, true, true, true, true, true, true, true, true, true, true, true, true, true, false, false, true, false, false, false]) (hV : Below w1.heap.size w1 V) (g8 : Nat) (l8 : w1.heap.size ≤ g8) (z8 : Zr V g8) : wpAnyH Try.prog .any OPS Q (CellsAt w w1 a0 b0 c0 a1 b1 c1) 5 listed ({ tmps := #[.agg #[.int .i64 a0, .int .i64 b0, .int .i64 c0], .agg #[.int .i64 a1, .int .i64 b1, .int .i64 c1], .pointer (some ⟨w.heap.size, 0, none⟩), .pointer (some ⟨w.heap.size + 1, 0, none⟩), .bool false, .bool true, undef, undef, .pointer (some ⟨g8, 0, none⟩), undef, undef, undef, undef, undef, undef, undef, undef, undef, undef, undef, undef, undef, undef, .bool true, .pointer (some ⟨w.heap.size, 0, none⟩), .int .i64 a0, .pointer (some ⟨w.heap.size + 1, 0, none⟩), .int .i64 a1, .agg #[.int .i64 (FP.madeN a0 a1), .int .i64 (FP.madeD a0 a1)], .pointer (some ⟨w.heap.size, 1, none⟩), .int .i64 b0, .pointer (some ⟨w.heap.size + 1, 1, none⟩), .int .i64 b1, .agg #[.int .i64 (FP.madeN b0 b1), .int .i64 (FP.madeD b0 b1)], .pointer (some ⟨w.heap.size, 2, none⟩), .int .i64 c0, .pointer (some ⟨w.heap.size + 1, 2, none⟩), .int .i64 c1, .agg #[.int .i64 (FP.madeN c0 c1), .int .i64 (FP.madeD c0 c1)], undef, undef, undef, undef, undef, undef, undef, undef, undef, undef, undef, undef, undef, undef, undef, undef, undef, undef, undef, undef, undef, undef, undef, undef, undef, undef, undef, undef, undef, undef, undef, undef, undef, undef, undef, undef, undef, undef, undef, undef, undef, undef, undef, undef, undef, undef, undef, undef, undef, undef, undef, undef, undef, undef, undef, undef, undef, undef, undef, undef, undef, undef, undef, undef, undef, undef, undef, undef, undef, undef, undef, undef, undef, undef, undef, undef, undef, undef, undef, undef, undef, undef, undef, undef, undef, undef, undef, undef, undef, undef, undef, undef, undef, undef, undef, undef, undef, undef, undef, undef, undef, undef, undef, undef, undef, undef, undef, undef, undef, undef, undef, undef, undef, undef, undef], defers := [] } : Act) V := by
  subst hl
  refine wpAnyH_ready (rs := [15, 16]) (by kernel_rfl) (by simp) ?_
  refine AllReadyH.cons (o := { dst := some 6, op := Op.alloc 31, type := 0, pos := "law.go:109", after := #[], guard := none }) (by kernel_rfl) (fun K hK => ?_) ?_
  · go_simp
    have hb : Below V.heap.size V (V.alloc (.cells #[.int .i64 0, .int .i64 0] 31)) := balloc (Below.refl _ V) _
    refine hK.out _ _ ?_ (fun hHeld => ?_)
    · exact KS _ (bnext hV hb)
    clear hK K
    (try simp only [Act.put, List.setIfInBounds_toArray, List.set_cons_zero, List.set_cons_succ])
    exact nd3_68 w w1 a0 b0 c0 a1 b1 c1 KS H _ _ (by kernel_rfl) (bnext hV hb) V.heap.size hV.size (Zr.new V) g8 l8 (z8.keep hb) (Nat.ne_of_gt z8.lt)
  refine AllReadyH.cons (o := { dst := some 7, op := Op.alloc 31, type := 0, pos := "law.go:109", after := #[], guard := none }) (by kernel_rfl) (fun K hK => ?_) ?_
  · go_simp
    have hb : Below V.heap.size V (V.alloc (.cells #[.int .i64 0, .int .i64 0] 31)) := balloc (Below.refl _ V) _
    refine hK.out _ _ ?_ (fun hHeld => ?_)
    · exact KS _ (bnext hV hb)
    clear hK K
    (try simp only [Act.put, List.setIfInBounds_toArray, List.set_cons_zero, List.set_cons_succ])
    exact nd3_78 w w1 a0 b0 c0 a1 b1 c1 KS H _ _ (by kernel_rfl) (bnext hV hb) V.heap.size hV.size (Zr.new V) g8 l8 (z8.keep hb) (Nat.ne_of_gt z8.lt)
  exact AllReadyH.nil
set_option maxHeartbeats 4000000 in
theorem nd3_ (V : World) (listed : Array Bool) (hl : listed = #[true, true, true, true, true, true, true, true, true, true, true, true, true, true, true, false, false, false, false, false, false]) (hV : Below w1.heap.size w1 V) : wpAnyH Try.prog .any OPS Q (CellsAt w w1 a0 b0 c0 a1 b1 c1) 6 listed ({ tmps := #[.agg #[.int .i64 a0, .int .i64 b0, .int .i64 c0], .agg #[.int .i64 a1, .int .i64 b1, .int .i64 c1], .pointer (some ⟨w.heap.size, 0, none⟩), .pointer (some ⟨w.heap.size + 1, 0, none⟩), .bool false, .bool true, undef, undef, undef, undef, undef, undef, undef, undef, undef, undef, undef, undef, undef, undef, undef, undef, undef, .bool true, .pointer (some ⟨w.heap.size, 0, none⟩), .int .i64 a0, .pointer (some ⟨w.heap.size + 1, 0, none⟩), .int .i64 a1, .agg #[.int .i64 (FP.madeN a0 a1), .int .i64 (FP.madeD a0 a1)], .pointer (some ⟨w.heap.size, 1, none⟩), .int .i64 b0, .pointer (some ⟨w.heap.size + 1, 1, none⟩), .int .i64 b1, .agg #[.int .i64 (FP.madeN b0 b1), .int .i64 (FP.madeD b0 b1)], .pointer (some ⟨w.heap.size, 2, none⟩), .int .i64 c0, .pointer (some ⟨w.heap.size + 1, 2, none⟩), .int .i64 c1, .agg #[.int .i64 (FP.madeN c0 c1), .int .i64 (FP.madeD c0 c1)], undef, undef, undef, undef, undef, undef, undef, undef, undef, undef, undef, undef, undef, undef, undef, undef, undef, undef, undef, undef, undef, undef, undef, undef, undef, undef, undef, undef, undef, undef, undef, undef, undef, undef, undef, undef, undef, undef, undef, undef, undef, undef, undef, undef, undef, undef, undef, undef, undef, undef, undef, undef, undef, undef, undef, undef, undef, undef, undef, undef, undef, undef, undef, undef, undef, undef, undef, undef, undef, undef, undef, undef, undef, undef, undef, undef, undef, undef, undef, undef, undef, undef, undef, undef, undef, undef, undef, undef, undef, undef, undef, undef, undef, undef, undef, undef, undef, undef, undef, undef, undef, undef, undef, undef, undef, undef, undef, undef, undef, undef, undef, undef, undef, undef, undef], defers := [] } : Act) V := by
  subst hl
  refine wpAnyH_ready (rs := [15, 16, 17]) (by kernel_rfl) (by simp) ?_
  refine AllReadyH.cons (o := { dst := some 6, op := Op.alloc 31, type := 0, pos := "law.go:109", after := #[], guard := none }) (by kernel_rfl) (fun K hK => ?_) ?_
  · go_simp
    have hb : Below V.heap.size V (V.alloc (.cells #[.int .i64 0, .int .i64 0] 31)) := balloc (Below.refl _ V) _
    refine hK.out _ _ ?_ (fun hHeld => ?_)
    · exact KS _ (bnext hV hb)
    clear hK K
    (try simp only [Act.put, List.setIfInBounds_toArray, List.set_cons_zero, List.set_cons_succ])
    exact nd3_6 w w1 a0 b0 c0 a1 b1 c1 KS H _ _ (by kernel_rfl) (bnext hV hb) V.heap.size hV.size (Zr.new V)
  refine AllReadyH.cons (o := { dst := some 7, op := Op.alloc 31, type := 0, pos := "law.go:109", after := #[], guard := none }) (by kernel_rfl) (fun K hK => ?_) ?_
  · go_simp
    have hb : Below V.heap.size V (V.alloc (.cells #[.int .i64 0, .int .i64 0] 31)) := balloc (Below.refl _ V) _
    refine hK.out _ _ ?_ (fun hHeld => ?_)
    · exact KS _ (bnext hV hb)
    clear hK K
    (try simp only [Act.put, List.setIfInBounds_toArray, List.set_cons_zero, List.set_cons_succ])
    exact nd3_7 w w1 a0 b0 c0 a1 b1 c1 KS H _ _ (by kernel_rfl) (bnext hV hb) V.heap.size hV.size (Zr.new V)
  refine AllReadyH.cons (o := { dst := some 8, op := Op.alloc 31, type := 0, pos := "law.go:109", after := #[], guard := none }) (by kernel_rfl) (fun K hK => ?_) ?_
  · go_simp
    have hb : Below V.heap.size V (V.alloc (.cells #[.int .i64 0, .int .i64 0] 31)) := balloc (Below.refl _ V) _
    refine hK.out _ _ ?_ (fun hHeld => ?_)
    · exact KS _ (bnext hV hb)
    clear hK K
    (try simp only [Act.put, List.setIfInBounds_toArray, List.set_cons_zero, List.set_cons_succ])
    exact nd3_8 w w1 a0 b0 c0 a1 b1 c1 KS H _ _ (by kernel_rfl) (bnext hV hb) V.heap.size hV.size (Zr.new V)
  exact AllReadyH.nil
set_option maxHeartbeats 4000000 in
theorem nd2_678 (V : World) (listed : Array Bool) (hl : listed = #[true, true, true, true, true, true, true, true, true, true, true, true, true, true, false, true, true, true, false, false, false]) (hV : Below w1.heap.size w1 V) (g6 : Nat) (l6 : w1.heap.size ≤ g6) (z6 : Zr V g6) (g7 : Nat) (l7 : w1.heap.size ≤ g7) (z7 : Zr V g7) (g8 : Nat) (l8 : w1.heap.size ≤ g8) (z8 : Zr V g8) (n67 : g6 ≠ g7) (n68 : g6 ≠ g8) (n78 : g7 ≠ g8) : wpAnyH Try.prog .any OPS Q (CellsAt w w1 a0 b0 c0 a1 b1 c1) 4 listed ({ tmps := #[.agg #[.int .i64 a0, .int .i64 b0, .int .i64 c0], .agg #[.int .i64 a1, .int .i64 b1, .int .i64 c1], .pointer (some ⟨w.heap.size, 0, none⟩), .pointer (some ⟨w.heap.size + 1, 0, none⟩), .bool false, .bool true, .pointer (some ⟨g6, 0, none⟩), .pointer (some ⟨g7, 0, none⟩), .pointer (some ⟨g8, 0, none⟩), undef, undef, undef, undef, undef, undef, undef, undef, undef, undef, undef, undef, undef, undef, .bool true, .pointer (some ⟨w.heap.size, 0, none⟩), .int .i64 a0, .pointer (some ⟨w.heap.size + 1, 0, none⟩), .int .i64 a1, .agg #[.int .i64 (FP.madeN a0 a1), .int .i64 (FP.madeD a0 a1)], .pointer (some ⟨w.heap.size, 1, none⟩), .int .i64 b0, .pointer (some ⟨w.heap.size + 1, 1, none⟩), .int .i64 b1, .agg #[.int .i64 (FP.madeN b0 b1), .int .i64 (FP.madeD b0 b1)], .pointer (some ⟨w.heap.size, 2, none⟩), .int .i64 c0, .pointer (some ⟨w.heap.size + 1, 2, none⟩), .int .i64 c1, undef, undef, undef, undef, undef, undef, undef, undef, undef, undef, undef, undef, undef, undef, undef, undef, undef, undef, undef, undef, undef, undef, undef, undef, undef, undef, undef, undef, undef, undef, undef, undef, undef, undef, undef, undef, undef, undef, undef, undef, undef, undef, undef, undef, undef, undef, undef, undef, undef, undef, undef, undef, undef, undef, undef, undef, undef, undef, undef, undef, undef, undef, undef, undef, undef, undef, undef, undef, undef, undef, undef, undef, undef, undef, undef, undef, undef, undef, undef, undef, undef, undef, undef, undef, undef, undef, undef, undef, undef, undef, undef, undef, undef, undef, undef, undef, undef, undef, undef, undef, undef, undef, undef, undef, undef, undef, undef, undef, undef, undef, undef, undef, undef, undef, undef, undef], defers := [] } : Act) V := by
  subst hl
  refine wpAnyH_ready (rs := [14]) (by kernel_rfl) (by simp) ?_
  refine AllReadyH.cons (o := { dst := some 38, op := Op.call { callee := Callee.value (Operand.func 23), args := #[Operand.tmp 35, Operand.tmp 37], argTypes := #[3, 3] }, type := 31, pos := "law.go:109", after := #[{ on := 11, ground := Ground.data }, { on := 13, ground := Ground.data }, { on := 9, ground := Ground.chain }], guard := none }) (by kernel_rfl) (fun K hK => ?_) ?_
  · go_simp
    go_at_call 23
    refine (made_eq _ _ _).mono ?_
    rintro e w' ⟨rfl, rfl⟩
    dsimp only
    have hb : Below V.heap.size V ((V.alloc (.cells #[.int .i64 (FP.madeN c0 c1), .int .i64 (FP.madeD c0 c1)] 31)).drew) := (balloc (Below.refl _ V) _).drew
    refine hK.out _ _ ?_ (fun hHeld => ?_)
    · exact KS _ (bnext hV hb)
    clear hK K
    (try simp only [Act.put, List.setIfInBounds_toArray, List.set_cons_zero, List.set_cons_succ])
    exact nd3_678 w w1 a0 b0 c0 a1 b1 c1 KS H _ _ (by kernel_rfl) (bnext hV hb) g6 l6 (z6.keep hb) g7 l7 (z7.keep hb) g8 l8 (z8.keep hb) n67 n68 n78
  exact AllReadyH.nil
set_option maxHeartbeats 4000000 in
theorem nd2_67 (V : World) (listed : Array Bool) (hl : listed = #[true, true, true, true, true, true, true, true, true, true, true, true, true, true, false, true, true, false, false, false, false]) (hV : Below w1.heap.size w1 V) (g6 : Nat) (l6 : w1.heap.size ≤ g6) (z6 : Zr V g6) (g7 : Nat) (l7 : w1.heap.size ≤ g7) (z7 : Zr V g7) (n67 : g6 ≠ g7) : wpAnyH Try.prog .any OPS Q (CellsAt w w1 a0 b0 c0 a1 b1 c1) 5 listed ({ tmps := #[.agg #[.int .i64 a0, .int .i64 b0, .int .i64 c0], .agg #[.int .i64 a1, .int .i64 b1, .int .i64 c1], .pointer (some ⟨w.heap.size, 0, none⟩), .pointer (some ⟨w.heap.size + 1, 0, none⟩), .bool false, .bool true, .pointer (some ⟨g6, 0, none⟩), .pointer (some ⟨g7, 0, none⟩), undef, undef, undef, undef, undef, undef, undef, undef, undef, undef, undef, undef, undef, undef, undef, .bool true, .pointer (some ⟨w.heap.size, 0, none⟩), .int .i64 a0, .pointer (some ⟨w.heap.size + 1, 0, none⟩), .int .i64 a1, .agg #[.int .i64 (FP.madeN a0 a1), .int .i64 (FP.madeD a0 a1)], .pointer (some ⟨w.heap.size, 1, none⟩), .int .i64 b0, .pointer (some ⟨w.heap.size + 1, 1, none⟩), .int .i64 b1, .agg #[.int .i64 (FP.madeN b0 b1), .int .i64 (FP.madeD b0 b1)], .pointer (some ⟨w.heap.size, 2, none⟩), .int .i64 c0, .pointer (some ⟨w.heap.size + 1, 2, none⟩), .int .i64 c1, undef, undef, undef, undef, undef, undef, undef, undef, undef, undef, undef, undef, undef, undef, undef, undef, undef, undef, undef, undef, undef, undef, undef, undef, undef, undef, undef, undef, undef, undef, undef, undef, undef, undef, undef, undef, undef, undef, undef, undef, undef, undef, undef, undef, undef, undef, undef, undef, undef, undef, undef, undef, undef, undef, undef, undef, undef, undef, undef, undef, undef, undef, undef, undef, undef, undef, undef, undef, undef, undef, undef, undef, undef, undef, undef, undef, undef, undef, undef, undef, undef, undef, undef, undef, undef, undef, undef, undef, undef, undef, undef, undef, undef, undef, undef, undef, undef, undef, undef, undef, undef, undef, undef, undef, undef, undef, undef, undef, undef, undef, undef, undef, undef, undef, undef, undef], defers := [] } : Act) V := by
  subst hl
  refine wpAnyH_ready (rs := [14, 17]) (by kernel_rfl) (by simp) ?_
  refine AllReadyH.cons (o := { dst := some 38, op := Op.call { callee := Callee.value (Operand.func 23), args := #[Operand.tmp 35, Operand.tmp 37], argTypes := #[3, 3] }, type := 31, pos := "law.go:109", after := #[{ on := 11, ground := Ground.data }, { on := 13, ground := Ground.data }, { on := 9, ground := Ground.chain }], guard := none }) (by kernel_rfl) (fun K hK => ?_) ?_
  · go_simp
    go_at_call 23
    refine (made_eq _ _ _).mono ?_
    rintro e w' ⟨rfl, rfl⟩
    dsimp only
    have hb : Below V.heap.size V ((V.alloc (.cells #[.int .i64 (FP.madeN c0 c1), .int .i64 (FP.madeD c0 c1)] 31)).drew) := (balloc (Below.refl _ V) _).drew
    refine hK.out _ _ ?_ (fun hHeld => ?_)
    · exact KS _ (bnext hV hb)
    clear hK K
    (try simp only [Act.put, List.setIfInBounds_toArray, List.set_cons_zero, List.set_cons_succ])
    exact nd3_67 w w1 a0 b0 c0 a1 b1 c1 KS H _ _ (by kernel_rfl) (bnext hV hb) g6 l6 (z6.keep hb) g7 l7 (z7.keep hb) n67
  refine AllReadyH.cons (o := { dst := some 8, op := Op.alloc 31, type := 0, pos := "law.go:109", after := #[], guard := none }) (by kernel_rfl) (fun K hK => ?_) ?_
  · go_simp
    have hb : Below V.heap.size V (V.alloc (.cells #[.int .i64 0, .int .i64 0] 31)) := balloc (Below.refl _ V) _
    refine hK.out _ _ ?_ (fun hHeld => ?_)
    · exact KS _ (bnext hV hb)
    clear hK K
    (try simp only [Act.put, List.setIfInBounds_toArray, List.set_cons_zero, List.set_cons_succ])
    exact nd2_678 w w1 a0 b0 c0 a1 b1 c1 KS H _ _ (by kernel_rfl) (bnext hV hb) g6 l6 (z6.keep hb) g7 l7 (z7.keep hb) V.heap.size hV.size (Zr.new V) n67 (Nat.ne_of_lt z6.lt) (Nat.ne_of_lt z7.lt)
  exact AllReadyH.nil
set_option maxHeartbeats 4000000 in
theorem nd2_68 (V : World) (listed : Array Bool) (hl : listed = #[true, true, true, true, true, true, true, true, true, true, true, true, true, true, false, true, false, true, false, false, false]) (hV : Below w1.heap.size w1 V) (g6 : Nat) (l6 : w1.heap.size ≤ g6) (z6 : Zr V g6) (g8 : Nat) (l8 : w1.heap.size ≤ g8) (z8 : Zr V g8) (n68 : g6 ≠ g8) : wpAnyH Try.prog .any OPS Q (CellsAt w w1 a0 b0 c0 a1 b1 c1) 5 listed ({ tmps := #[.agg #[.int .i64 a0, .int .i64 b0, .int .i64 c0], .agg #[.int .i64 a1, .int .i64 b1, .int .i64 c1], .pointer (some ⟨w.heap.size, 0, none⟩), .pointer (some ⟨w.heap.size + 1, 0, none⟩), .bool false, .bool true, .pointer (some ⟨g6, 0, none⟩), undef, .pointer (some ⟨g8, 0, none⟩), undef, undef, undef, undef, undef, undef, undef, undef, undef, undef, undef, undef, undef, undef, .bool true, .pointer (some ⟨w.heap.size, 0, none⟩), .int .i64 a0, .pointer (some ⟨w.heap.size + 1, 0, none⟩), .int .i64 a1, .agg #[.int .i64 (FP.madeN a0 a1), .int .i64 (FP.madeD a0 a1)], .pointer (some ⟨w.heap.size, 1, none⟩), .int .i64 b0, .pointer (some ⟨w.heap.size + 1, 1, none⟩), .int .i64 b1, .agg #[.int .i64 (FP.madeN b0 b1), .int .i64 (FP.madeD b0 b1)], .pointer (some ⟨w.heap.size, 2, none⟩), .int .i64 c0, .pointer (some ⟨w.heap.size + 1, 2, none⟩), .int .i64 c1, undef, undef, undef, undef, undef, undef, undef, undef, undef, undef, undef, undef, undef, undef, undef, undef, undef, undef, undef, undef, undef, undef, undef, undef, undef, undef, undef, undef, undef, undef, undef, undef, undef, undef, undef, undef, undef, undef, undef, undef, undef, undef, undef, undef, undef, undef, undef, undef, undef, undef, undef, undef, undef, undef, undef, undef, undef, undef, undef, undef, undef, undef, undef, undef, undef, undef, undef, undef, undef, undef, undef, undef, undef, undef, undef, undef, undef, undef, undef, undef, undef, undef, undef, undef, undef, undef, undef, undef, undef, undef, undef, undef, undef, undef, undef, undef, undef, undef, undef, undef, undef, undef, undef, undef, undef, undef, undef, undef, undef, undef, undef, undef, undef, undef, undef, undef], defers := [] } : Act) V := by
  subst hl
  refine wpAnyH_ready (rs := [14, 16]) (by kernel_rfl) (by simp) ?_
  refine AllReadyH.cons (o := { dst := some 38, op := Op.call { callee := Callee.value (Operand.func 23), args := #[Operand.tmp 35, Operand.tmp 37], argTypes := #[3, 3] }, type := 31, pos := "law.go:109", after := #[{ on := 11, ground := Ground.data }, { on := 13, ground := Ground.data }, { on := 9, ground := Ground.chain }], guard := none }) (by kernel_rfl) (fun K hK => ?_) ?_
  · go_simp
    go_at_call 23
    refine (made_eq _ _ _).mono ?_
    rintro e w' ⟨rfl, rfl⟩
    dsimp only
    have hb : Below V.heap.size V ((V.alloc (.cells #[.int .i64 (FP.madeN c0 c1), .int .i64 (FP.madeD c0 c1)] 31)).drew) := (balloc (Below.refl _ V) _).drew
    refine hK.out _ _ ?_ (fun hHeld => ?_)
    · exact KS _ (bnext hV hb)
    clear hK K
    (try simp only [Act.put, List.setIfInBounds_toArray, List.set_cons_zero, List.set_cons_succ])
    exact nd3_68 w w1 a0 b0 c0 a1 b1 c1 KS H _ _ (by kernel_rfl) (bnext hV hb) g6 l6 (z6.keep hb) g8 l8 (z8.keep hb) n68
  refine AllReadyH.cons (o := { dst := some 7, op := Op.alloc 31, type := 0, pos := "law.go:109", after := #[], guard := none }) (by kernel_rfl) (fun K hK => ?_) ?_
  · go_simp
    have hb : Below V.heap.size V (V.alloc (.cells #[.int .i64 0, .int .i64 0] 31)) := balloc (Below.refl _ V) _
    refine hK.out _ _ ?_ (fun hHeld => ?_)
    · exact KS _ (bnext hV hb)
    clear hK K
    (try simp only [Act.put, List.setIfInBounds_toArray, List.set_cons_zero, List.set_cons_succ])
    exact nd2_678 w w1 a0 b0 c0 a1 b1 c1 KS H _ _ (by kernel_rfl) (bnext hV hb) g6 l6 (z6.keep hb) V.heap.size hV.size (Zr.new V) g8 l8 (z8.keep hb) (Nat.ne_of_lt z6.lt) n68 (Nat.ne_of_gt z8.lt)
  exact AllReadyH.nil
set_option maxHeartbeats 4000000 in
theorem nd2_78 (V : World) (listed : Array Bool) (hl : listed = #[true, true, true, true, true, true, true, true, true, true, true, true, true, true, false, false, true, true, false, false, false]) (hV : Below w1.heap.size w1 V) (g7 : Nat) (l7 : w1.heap.size ≤ g7) (z7 : Zr V g7) (g8 : Nat) (l8 : w1.heap.size ≤ g8) (z8 : Zr V g8) (n78 : g7 ≠ g8) : wpAnyH Try.prog .any OPS Q (CellsAt w w1 a0 b0 c0 a1 b1 c1) 5 listed ({ tmps := #[.agg #[.int .i64 a0, .int .i64 b0, .int .i64 c0], .agg #[.int .i64 a1, .int .i64 b1, .int .i64 c1], .pointer (some ⟨w.heap.size, 0, none⟩), .pointer (some ⟨w.heap.size + 1, 0, none⟩), .bool false, .bool true, undef, .pointer (some ⟨g7, 0, none⟩), .pointer (some ⟨g8, 0, none⟩), undef, undef, undef, undef, undef, undef, undef, undef, undef, undef, undef, undef, undef, undef, .bool true, .pointer (some ⟨w.heap.size, 0, none⟩), .int .i64 a0, .pointer (some ⟨w.heap.size + 1, 0, none⟩), .int .i64 a1, .agg #[.int .i64 (FP.madeN a0 a1), .int .i64 (FP.madeD a0 a1)], .pointer (some ⟨w.heap.size, 1, none⟩), .int .i64 b0, .pointer (some ⟨w.heap.size + 1, 1, none⟩), .int .i64 b1, .agg #[.int .i64 (FP.madeN b0 b1), .int .i64 (FP.madeD b0 b1)], .pointer (some ⟨w.heap.size, 2, none⟩), .int .i64 c0, .pointer (some ⟨w.heap.size + 1, 2, none⟩), .int .i64 c1, undef, undef, undef, undef, undef, undef, undef, undef, undef, undef, undef, undef, undef, undef, undef, undef, undef, undef, undef, undef, undef, undef, undef, undef, undef, undef, undef, undef, undef, undef, undef, undef, undef, undef, undef, undef, undef, undef, undef, undef, undef, undef, undef, undef, undef, undef, undef, undef, undef, undef, undef, undef, undef, undef, undef, undef, undef, undef, undef, undef, undef, undef, undef, undef, undef, undef, undef, undef, undef, undef, undef, undef, undef, undef, undef, undef, undef, undef, undef, undef, undef, undef, undef, undef, undef, undef, undef, undef, undef, undef, undef, undef, undef, undef, undef, undef, undef, undef, undef, undef, undef, undef, undef, undef, undef, undef, undef, undef, undef, undef, undef, undef, undef, undef, undef, undef], defers := [] } : Act) V := by
  subst hl
  refine wpAnyH_ready (rs := [14, 15]) (by kernel_rfl) (by simp) ?_
  refine AllReadyH.cons (o := { dst := some 38, op := Op.call { callee := Callee.value (Operand.func 23), args := #[Operand.tmp 35, Operand.tmp 37], argTypes := #[3, 3] }, type := 31, pos := "law.go:109", after := #[{ on := 11, ground := Ground.data }, { on := 13, ground := Ground.data }, { on := 9, ground := Ground.chain }], guard := none }) (by kernel_rfl) (fun K hK => ?_) ?_
  · go_simp
    go_at_call 23
    refine (made_eq _ _ _).mono ?_
    rintro e w' ⟨rfl, rfl⟩
    dsimp only
    have hb : Below V.heap.size V ((V.alloc (.cells #[.int .i64 (FP.madeN c0 c1), .int .i64 (FP.madeD c0 c1)] 31)).drew) := (balloc (Below.refl _ V) _).drew
    refine hK.out _ _ ?_ (fun hHeld => ?_)
    · exact KS _ (bnext hV hb)
    clear hK K
    (try simp only [Act.put, List.setIfInBounds_toArray, List.set_cons_zero, List.set_cons_succ])
    exact nd3_78 w w1 a0 b0 c0 a1 b1 c1 KS H _ _ (by kernel_rfl) (bnext hV hb) g7 l7 (z7.keep hb) g8 l8 (z8.keep hb) n78
  refine AllReadyH.cons (o := { dst := some 6, op := Op.alloc 31, type := 0, pos := "law.go:109", after := #[], guard := none }) (by kernel_rfl) (fun K hK => ?_) ?_
  · go_simp
    have hb : Below V.heap.size V (V.alloc (.cells #[.int .i64 0, .int .i64 0] 31)) := balloc (Below.refl _ V) _
    refine hK.out _ _ ?_ (fun hHeld => ?_)
    · exact KS _ (bnext hV hb)
    clear hK K
    (try simp only [Act.put, List.setIfInBounds_toArray, List.set_cons_zero, List.set_cons_succ])
    exact nd2_678 w w1 a0 b0 c0 a1 b1 c1 KS H _ _ (by kernel_rfl) (bnext hV hb) V.heap.size hV.size (Zr.new V) g7 l7 (z7.keep hb) g8 l8 (z8.keep hb) (Nat.ne_of_gt z7.lt) (Nat.ne_of_gt z8.lt) n78
  exact AllReadyH.nil
set_option maxHeartbeats 4000000 in
theorem nd2_6 (V : World) (listed : Array Bool) (hl : listed = #[true, true, true, true, true, true, true, true, true, true, true, true, true, true, false, true, false, false, false, false, false]) (hV : Below w1.heap.size w1 V) (g6 : Nat) (l6 : w1.heap.size ≤ g6) (z6 : Zr V g6) : wpAnyH Try.prog .any OPS Q (CellsAt w w1 a0 b0 c0 a1 b1 c1) 6 listed ({ tmps := #[.agg #[.int .i64 a0, .int .i64 b0, .int .i64 c0], .agg #[.int .i64 a1, .int .i64 b1, .int .i64 c1], .pointer (some ⟨w.heap.size, 0, none⟩), .pointer (some ⟨w.heap.size + 1, 0, none⟩), .bool false, .bool true, .pointer (some ⟨g6, 0, none⟩), undef, undef, undef, undef, undef, undef, undef, undef, undef, undef, undef, undef, undef, undef, undef, undef, .bool true, .pointer (some ⟨w.heap.size, 0, none⟩), .int .i64 a0, .pointer (some ⟨w.heap.size + 1, 0, none⟩), .int .i64 a1, .agg #[.int .i64 (FP.madeN a0 a1), .int .i64 (FP.madeD a0 a1)], .pointer (some ⟨w.heap.size, 1, none⟩), .int .i64 b0, .pointer (some ⟨w.heap.size + 1, 1, none⟩), .int .i64 b1, .agg #[.int .i64 (FP.madeN b0 b1), .int .i64 (FP.madeD b0 b1)], .pointer (some ⟨w.heap.size, 2, none⟩), .int .i64 c0, .pointer (some ⟨w.heap.size + 1, 2, none⟩), .int .i64 c1, undef, undef, undef, undef, undef, undef, undef, undef, undef, undef, undef, undef, undef, undef, undef, undef, undef, undef, undef, undef, undef, undef, undef, undef, undef, undef, undef, undef, undef, undef, undef, undef, undef, undef, undef, undef, undef, undef, undef, undef, undef, undef, undef, undef, undef, undef, undef, undef, undef, undef, undef, undef, undef, undef, undef, undef, undef, undef, undef, undef, undef, undef, undef, undef, undef, undef, undef, undef, undef, undef, undef, undef, undef, undef, undef, undef, undef, undef, undef, undef, undef, undef, undef, undef, undef, undef, undef, undef, undef, undef, undef, undef, undef, undef, undef, undef, undef, undef, undef, undef, undef, undef, undef, undef, undef, undef, undef, undef, undef, undef, undef, undef, undef, undef, undef, undef], defers := [] } : Act) V := by
  subst hl
  refine wpAnyH_ready (rs := [14, 16, 17]) (by kernel_rfl) (by simp) ?_
  refine AllReadyH.cons (o := { dst := some 38, op := Op.call { callee := Callee.value (Operand.func 23), args := #[Operand.tmp 35, Operand.tmp 37], argTypes := #[3, 3] }, type := 31, pos := "law.go:109", after := #[{ on := 11, ground := Ground.data }, { on := 13, ground := Ground.data }, { on := 9, ground := Ground.chain }], guard := none }) (by kernel_rfl) (fun K hK => ?_) ?_
  · go_simp
    go_at_call 23
    refine (made_eq _ _ _).mono ?_
    rintro e w' ⟨rfl, rfl⟩
    dsimp only
    have hb : Below V.heap.size V ((V.alloc (.cells #[.int .i64 (FP.madeN c0 c1), .int .i64 (FP.madeD c0 c1)] 31)).drew) := (balloc (Below.refl _ V) _).drew
    refine hK.out _ _ ?_ (fun hHeld => ?_)
    · exact KS _ (bnext hV hb)
    clear hK K
    (try simp only [Act.put, List.setIfInBounds_toArray, List.set_cons_zero, List.set_cons_succ])
    exact nd3_6 w w1 a0 b0 c0 a1 b1 c1 KS H _ _ (by kernel_rfl) (bnext hV hb) g6 l6 (z6.keep hb)
  refine AllReadyH.cons (o := { dst := some 7, op := Op.alloc 31, type := 0, pos := "law.go:109", after := #[], guard := none }) (by kernel_rfl) (fun K hK => ?_) ?_
  · go_simp
    have hb : Below V.heap.size V (V.alloc (.cells #[.int .i64 0, .int .i64 0] 31)) := balloc (Below.refl _ V) _
    refine hK.out _ _ ?_ (fun hHeld => ?_)
    · exact KS _ (bnext hV hb)
    clear hK K
    (try simp only [Act.put, List.setIfInBounds_toArray, List.set_cons_zero, List.set_cons_succ])
    exact nd2_67 w w1 a0 b0 c0 a1 b1 c1 KS H _ _ (by kernel_rfl) (bnext hV hb) g6 l6 (z6.keep hb) V.heap.size hV.size (Zr.new V) (Nat.ne_of_lt z6.lt)
  refine AllReadyH.cons (o := { dst := some 8, op := Op.alloc 31, type := 0, pos := "law.go:109", after := #[], guard := none }) (by kernel_rfl) (fun K hK => ?_) ?_
  · go_simp
    have hb : Below V.heap.size V (V.alloc (.cells #[.int .i64 0, .int .i64 0] 31)) := balloc (Below.refl _ V) _
    refine hK.out _ _ ?_ (fun hHeld => ?_)
    · exact KS _ (bnext hV hb)
    clear hK K
    (try simp only [Act.put, List.setIfInBounds_toArray, List.set_cons_zero, List.set_cons_succ])
    exact nd2_68 w w1 a0 b0 c0 a1 b1 c1 KS H _ _ (by kernel_rfl) (bnext hV hb) g6 l6 (z6.keep hb) V.heap.size hV.size (Zr.new V) (Nat.ne_of_lt z6.lt)
  exact AllReadyH.nil
set_option maxHeartbeats 4000000 in
theorem nd2_7 (V : World) (listed : Array Bool) (hl : listed = #[true, true, true, true, true, true, true, true, true, true, true, true, true, true, false, false, true, false, false, false, false]) (hV : Below w1.heap.size w1 V) (g7 : Nat) (l7 : w1.heap.size ≤ g7) (z7 : Zr V g7) : wpAnyH Try.prog .any OPS Q (CellsAt w w1 a0 b0 c0 a1 b1 c1) 6 listed ({ tmps := #[.agg #[.int .i64 a0, .int .i64 b0, .int .i64 c0], .agg #[.int .i64 a1, .int .i64 b1, .int .i64 c1], .pointer (some ⟨w.heap.size, 0, none⟩), .pointer (some ⟨w.heap.size + 1, 0, none⟩), .bool false, .bool true, undef, .pointer (some ⟨g7, 0, none⟩), undef, undef, undef, undef, undef, undef, undef, undef, undef, undef, undef, undef, undef, undef, undef, .bool true, .pointer (some ⟨w.heap.size, 0, none⟩), .int .i64 a0, .pointer (some ⟨w.heap.size + 1, 0, none⟩), .int .i64 a1, .agg #[.int .i64 (FP.madeN a0 a1), .int .i64 (FP.madeD a0 a1)], .pointer (some ⟨w.heap.size, 1, none⟩), .int .i64 b0, .pointer (some ⟨w.heap.size + 1, 1, none⟩), .int .i64 b1, .agg #[.int .i64 (FP.madeN b0 b1), .int .i64 (FP.madeD b0 b1)], .pointer (some ⟨w.heap.size, 2, none⟩), .int .i64 c0, .pointer (some ⟨w.heap.size + 1, 2, none⟩), .int .i64 c1, undef, undef, undef, undef, undef, undef, undef, undef, undef, undef, undef, undef, undef, undef, undef, undef, undef, undef, undef, undef, undef, undef, undef, undef, undef, undef, undef, undef, undef, undef, undef, undef, undef, undef, undef, undef, undef, undef, undef, undef, undef, undef, undef, undef, undef, undef, undef, undef, undef, undef, undef, undef, undef, undef, undef, undef, undef, undef, undef, undef, undef, undef, undef, undef, undef, undef, undef, undef, undef, undef, undef, undef, undef, undef, undef, undef, undef, undef, undef, undef, undef, undef, undef, undef, undef, undef, undef, undef, undef, undef, undef, undef, undef, undef, undef, undef, undef, undef, undef, undef, undef, undef, undef, undef, undef, undef, undef, undef, undef, undef, undef, undef, undef, undef, undef, undef], defers := [] } : Act) V := by
  subst hl
  refine wpAnyH_ready (rs := [14, 15, 17]) (by kernel_rfl) (by simp) ?_
  refine AllReadyH.cons (o := { dst := some 38, op := Op.call { callee := Callee.value (Operand.func 23), args := #[Operand.tmp 35, Operand.tmp 37], argTypes := #[3, 3] }, type := 31, pos := "law.go:109", after := #[{ on := 11, ground := Ground.data }, { on := 13, ground := Ground.data }, { on := 9, ground := Ground.chain }], guard := none }) (by kernel_rfl) (fun K hK => ?_) ?_
  · go_simp
    go_at_call 23
    refine (made_eq _ _ _).mono ?_
    rintro e w' ⟨rfl, rfl⟩
    dsimp only
    have hb : Below V.heap.size V ((V.alloc (.cells #[.int .i64 (FP.madeN c0 c1), .int .i64 (FP.madeD c0 c1)] 31)).drew) := (balloc (Below.refl _ V) _).drew
    refine hK.out _ _ ?_ (fun hHeld => ?_)
    · exact KS _ (bnext hV hb)
    clear hK K
    (try simp only [Act.put, List.setIfInBounds_toArray, List.set_cons_zero, List.set_cons_succ])
    exact nd3_7 w w1 a0 b0 c0 a1 b1 c1 KS H _ _ (by kernel_rfl) (bnext hV hb) g7 l7 (z7.keep hb)
  refine AllReadyH.cons (o := { dst := some 6, op := Op.alloc 31, type := 0, pos := "law.go:109", after := #[], guard := none }) (by kernel_rfl) (fun K hK => ?_) ?_
  · go_simp
    have hb : Below V.heap.size V (V.alloc (.cells #[.int .i64 0, .int .i64 0] 31)) := balloc (Below.refl _ V) _
    refine hK.out _ _ ?_ (fun hHeld => ?_)
    · exact KS _ (bnext hV hb)
    clear hK K
    (try simp only [Act.put, List.setIfInBounds_toArray, List.set_cons_zero, List.set_cons_succ])
    exact nd2_67 w w1 a0 b0 c0 a1 b1 c1 KS H _ _ (by kernel_rfl) (bnext hV hb) V.heap.size hV.size (Zr.new V) g7 l7 (z7.keep hb) (Nat.ne_of_gt z7.lt)
  refine AllReadyH.cons (o := { dst := some 8, op := Op.alloc 31, type := 0, pos := "law.go:109", after := #[], guard := none }) (by kernel_rfl) (fun K hK => ?_) ?_
  · go_simp
    have hb : Below V.heap.size V (V.alloc (.cells #[.int .i64 0, .int .i64 0] 31)) := balloc (Below.refl _ V) _
    refine hK.out _ _ ?_ (fun hHeld => ?_)
    · exact KS _ (bnext hV hb)
    clear hK K
    (try simp only [Act.put, List.setIfInBounds_toArray, List.set_cons_zero, List.set_cons_succ])
    exact nd2_78 w w1 a0 b0 c0 a1 b1 c1 KS H _ _ (by kernel_rfl) (bnext hV hb) g7 l7 (z7.keep hb) V.heap.size hV.size (Zr.new V) (Nat.ne_of_lt z7.lt)
  exact AllReadyH.nil
set_option maxHeartbeats 4000000 in
theorem nd2_8 (V : World) (listed : Array Bool) (hl : listed = #[true, true, true, true, true, true, true, true, true, true, true, true, true, true, false, false, false, true, false, false, false]) (hV : Below w1.heap.size w1 V) (g8 : Nat) (l8 : w1.heap.size ≤ g8) (z8 : Zr V g8) : wpAnyH Try.prog .any OPS Q (CellsAt w w1 a0 b0 c0 a1 b1 c1) 6 listed ({ tmps := #[.agg #[.int .i64 a0, .int .i64 b0, .int .i64 c0], .agg #[.int .i64 a1, .int .i64 b1, .int .i64 c1], .pointer (some ⟨w.heap.size, 0, none⟩), .pointer (some ⟨w.heap.size + 1, 0, none⟩), .bool false, .bool true, undef, undef, .pointer (some ⟨g8, 0, none⟩), undef, undef, undef, undef, undef, undef, undef, undef, undef, undef, undef, undef, undef, undef, .bool true, .pointer (some ⟨w.heap.size, 0, none⟩), .int .i64 a0, .pointer (some ⟨w.heap.size + 1, 0, none⟩), .int .i64 a1, .agg #[.int .i64 (FP.madeN a0 a1), .int .i64 (FP.madeD a0 a1)], .pointer (some ⟨w.heap.size, 1, none⟩), .int .i64 b0, .pointer (some ⟨w.heap.size + 1, 1, none⟩), .int .i64 b1, .agg #[.int .i64 (FP.madeN b0 b1), .int .i64 (FP.madeD b0 b1)], .pointer (some ⟨w.heap.size, 2, none⟩), .int .i64 c0, .pointer (some ⟨w.heap.size + 1, 2, none⟩), .int .i64 c1, undef, undef, undef, undef, undef, undef, undef, undef, undef, undef, undef, undef, undef, undef, undef, undef, undef, undef, undef, undef, undef, undef, undef, undef, undef, undef, undef, undef, undef, undef, undef, undef, undef, undef, undef, undef, undef, undef, undef, undef, undef, undef, undef, undef, undef, undef, undef, undef, undef, undef, undef, undef, undef, undef, undef, undef, undef, undef, undef, undef, undef, undef, undef, undef, undef, undef, undef, undef, undef, undef, undef, undef, undef, undef, undef, undef, undef, undef, undef, undef, undef, undef, undef, undef, undef, undef, undef, undef, undef, undef, undef, undef, undef, undef, undef, undef, undef, undef, undef, undef, undef, undef, undef, undef, undef, undef, undef, undef, undef, undef, undef, undef, undef, undef, undef, undef], defers := [] } : Act) V := by
  subst hl
  refine wpAnyH_ready (rs := [14, 15, 16]) (by kernel_rfl) (by simp) ?_
  refine AllReadyH.cons (o := { dst := some 38, op := Op.call { callee := Callee.value (Operand.func 23), args := #[Operand.tmp 35, Operand.tmp 37], argTypes := #[3, 3] }, type := 31, pos := "law.go:109", after := #[{ on := 11, ground := Ground.data }, { on := 13, ground := Ground.data }, { on := 9, ground := Ground.chain }], guard := none }) (by kernel_rfl) (fun K hK => ?_) ?_
  · go_simp
    go_at_call 23
    refine (made_eq _ _ _).mono ?_
    rintro e w' ⟨rfl, rfl⟩
    dsimp only
    have hb : Below V.heap.size V ((V.alloc (.cells #[.int .i64 (FP.madeN c0 c1), .int .i64 (FP.madeD c0 c1)] 31)).drew) := (balloc (Below.refl _ V) _).drew
    refine hK.out _ _ ?_ (fun hHeld => ?_)
    · exact KS _ (bnext hV hb)
    clear hK K
    (try simp only [Act.put, List.setIfInBounds_toArray, List.set_cons_zero, List.set_cons_succ])
    exact nd3_8 w w1 a0 b0 c0 a1 b1 c1 KS H _ _ (by kernel_rfl) (bnext hV hb) g8 l8 (z8.keep hb)
  refine AllReadyH.cons (o := { dst := some 6, op := Op.alloc 31, type := 0, pos := "law.go:109", after := #[], guard := none }) (by kernel_rfl) (fun K hK => ?_) ?_
  · go_simp
    have hb : Below V.heap.size V (V.alloc (.cells #[.int .i64 0, .int .i64 0] 31)) := balloc (Below.refl _ V) _
    refine hK.out _ _ ?_ (fun hHeld => ?_)
    · exact KS _ (bnext hV hb)
    clear hK K
    (try simp only [Act.put, List.setIfInBounds_toArray, List.set_cons_zero, List.set_cons_succ])
    exact nd2_68 w w1 a0 b0 c0 a1 b1 c1 KS H _ _ (by kernel_rfl) (bnext hV hb) V.heap.size hV.size (Zr.new V) g8 l8 (z8.keep hb) (Nat.ne_of_gt z8.lt)
  refine AllReadyH.cons (o := { dst := some 7, op := Op.alloc 31, type := 0, pos := "law.go:109", after := #[], guard := none }) (by kernel_rfl) (fun K hK => ?_) ?_
  · go_simp
    have hb : Below V.heap.size V (V.alloc (.cells #[.int .i64 0, .int .i64 0] 31)) := balloc (Below.refl _ V) _
    refine hK.out _ _ ?_ (fun hHeld => ?_)
    · exact KS _ (bnext hV hb)
    clear hK K
    (try simp only [Act.put, List.setIfInBounds_toArray, List.set_cons_zero, List.set_cons_succ])
    exact nd2_78 w w1 a0 b0 c0 a1 b1 c1 KS H _ _ (by kernel_rfl) (bnext hV hb) V.heap.size hV.size (Zr.new V) g8 l8 (z8.keep hb) (Nat.ne_of_gt z8.lt)
  exact AllReadyH.nil
set_option maxHeartbeats 4000000 in
theorem nd2_ (V : World) (listed : Array Bool) (hl : listed = #[true, true, true, true, true, true, true, true, true, true, true, true, true, true, false, false, false, false, false, false, false]) (hV : Below w1.heap.size w1 V) : wpAnyH Try.prog .any OPS Q (CellsAt w w1 a0 b0 c0 a1 b1 c1) 7 listed ({ tmps := #[.agg #[.int .i64 a0, .int .i64 b0, .int .i64 c0], .agg #[.int .i64 a1, .int .i64 b1, .int .i64 c1], .pointer (some ⟨w.heap.size, 0, none⟩), .pointer (some ⟨w.heap.size + 1, 0, none⟩), .bool false, .bool true, undef, undef, undef, undef, undef, undef, undef, undef, undef, undef, undef, undef, undef, undef, undef, undef, undef, .bool true, .pointer (some ⟨w.heap.size, 0, none⟩), .int .i64 a0, .pointer (some ⟨w.heap.size + 1, 0, none⟩), .int .i64 a1, .agg #[.int .i64 (FP.madeN a0 a1), .int .i64 (FP.madeD a0 a1)], .pointer (some ⟨w.heap.size, 1, none⟩), .int .i64 b0, .pointer (some ⟨w.heap.size + 1, 1, none⟩), .int .i64 b1, .agg #[.int .i64 (FP.madeN b0 b1), .int .i64 (FP.madeD b0 b1)], .pointer (some ⟨w.heap.size, 2, none⟩), .int .i64 c0, .pointer (some ⟨w.heap.size + 1, 2, none⟩), .int .i64 c1, undef, undef, undef, undef, undef, undef, undef, undef, undef, undef, undef, undef, undef, undef, undef, undef, undef, undef, undef, undef, undef, undef, undef, undef, undef, undef, undef, undef, undef, undef, undef, undef, undef, undef, undef, undef, undef, undef, undef, undef, undef, undef, undef, undef, undef, undef, undef, undef, undef, undef, undef, undef, undef, undef, undef, undef, undef, undef, undef, undef, undef, undef, undef, undef, undef, undef, undef, undef, undef, undef, undef, undef, undef, undef, undef, undef, undef, undef, undef, undef, undef, undef, undef, undef, undef, undef, undef, undef, undef, undef, undef, undef, undef, undef, undef, undef, undef, undef, undef, undef, undef, undef, undef, undef, undef, undef, undef, undef, undef, undef, undef, undef, undef, undef, undef, undef], defers := [] } : Act) V := by
  subst hl
  refine wpAnyH_ready (rs := [14, 15, 16, 17]) (by kernel_rfl) (by simp) ?_
  refine AllReadyH.cons (o := { dst := some 38, op := Op.call { callee := Callee.value (Operand.func 23), args := #[Operand.tmp 35, Operand.tmp 37], argTypes := #[3, 3] }, type := 31, pos := "law.go:109", after := #[{ on := 11, ground := Ground.data }, { on := 13, ground := Ground.data }, { on := 9, ground := Ground.chain }], guard := none }) (by kernel_rfl) (fun K hK => ?_) ?_
  · go_simp
    go_at_call 23
    refine (made_eq _ _ _).mono ?_
    rintro e w' ⟨rfl, rfl⟩
    dsimp only
    have hb : Below V.heap.size V ((V.alloc (.cells #[.int .i64 (FP.madeN c0 c1), .int .i64 (FP.madeD c0 c1)] 31)).drew) := (balloc (Below.refl _ V) _).drew
    refine hK.out _ _ ?_ (fun hHeld => ?_)
    · exact KS _ (bnext hV hb)
    clear hK K
    (try simp only [Act.put, List.setIfInBounds_toArray, List.set_cons_zero, List.set_cons_succ])
    exact nd3_ w w1 a0 b0 c0 a1 b1 c1 KS H _ _ (by kernel_rfl) (bnext hV hb)
  refine AllReadyH.cons (o := { dst := some 6, op := Op.alloc 31, type := 0, pos := "law.go:109", after := #[], guard := none }) (by kernel_rfl) (fun K hK => ?_) ?_
  · go_simp
    have hb : Below V.heap.size V (V.alloc (.cells #[.int .i64 0, .int .i64 0] 31)) := balloc (Below.refl _ V) _
    refine hK.out _ _ ?_ (fun hHeld => ?_)
    · exact KS _ (bnext hV hb)
    clear hK K
    (try simp only [Act.put, List.setIfInBounds_toArray, List.set_cons_zero, List.set_cons_succ])
    exact nd2_6 w w1 a0 b0 c0 a1 b1 c1 KS H _ _ (by kernel_rfl) (bnext hV hb) V.heap.size hV.size (Zr.new V)
  refine AllReadyH.cons (o := { dst := some 7, op := Op.alloc 31, type := 0, pos := "law.go:109", after := #[], guard := none }) (by kernel_rfl) (fun K hK => ?_) ?_
  · go_simp
    have hb : Below V.heap.size V (V.alloc (.cells #[.int .i64 0, .int .i64 0] 31)) := balloc (Below.refl _ V) _
    refine hK.out _ _ ?_ (fun hHeld => ?_)
    · exact KS _ (bnext hV hb)
    clear hK K
    (try simp only [Act.put, List.setIfInBounds_toArray, List.set_cons_zero, List.set_cons_succ])
    exact nd2_7 w w1 a0 b0 c0 a1 b1 c1 KS H _ _ (by kernel_rfl) (bnext hV hb) V.heap.size hV.size (Zr.new V)
  refine AllReadyH.cons (o := { dst := some 8, op := Op.alloc 31, type := 0, pos := "law.go:109", after := #[], guard := none }) (by kernel_rfl) (fun K hK => ?_) ?_
  · go_simp
    have hb : Below V.heap.size V (V.alloc (.cells #[.int .i64 0, .int .i64 0] 31)) := balloc (Below.refl _ V) _
    refine hK.out _ _ ?_ (fun hHeld => ?_)
    · exact KS _ (bnext hV hb)
    clear hK K
    (try simp only [Act.put, List.setIfInBounds_toArray, List.set_cons_zero, List.set_cons_succ])
    exact nd2_8 w w1 a0 b0 c0 a1 b1 c1 KS H _ _ (by kernel_rfl) (bnext hV hb) V.heap.size hV.size (Zr.new V)
  exact AllReadyH.nil
set_option maxHeartbeats 4000000 in
theorem nd1_678 (V : World) (listed : Array Bool) (hl : listed = #[true, true, true, true, true, true, true, true, true, false, true, true, true, true, false, true, true, true, false, false, false]) (hV : Below w1.heap.size w1 V) (g6 : Nat) (l6 : w1.heap.size ≤ g6) (z6 : Zr V g6) (g7 : Nat) (l7 : w1.heap.size ≤ g7) (z7 : Zr V g7) (g8 : Nat) (l8 : w1.heap.size ≤ g8) (z8 : Zr V g8) (n67 : g6 ≠ g7) (n68 : g6 ≠ g8) (n78 : g7 ≠ g8) : wpAnyH Try.prog .any OPS Q (CellsAt w w1 a0 b0 c0 a1 b1 c1) 5 listed ({ tmps := #[.agg #[.int .i64 a0, .int .i64 b0, .int .i64 c0], .agg #[.int .i64 a1, .int .i64 b1, .int .i64 c1], .pointer (some ⟨w.heap.size, 0, none⟩), .pointer (some ⟨w.heap.size + 1, 0, none⟩), .bool false, .bool true, .pointer (some ⟨g6, 0, none⟩), .pointer (some ⟨g7, 0, none⟩), .pointer (some ⟨g8, 0, none⟩), undef, undef, undef, undef, undef, undef, undef, undef, undef, undef, undef, undef, undef, undef, .bool true, .pointer (some ⟨w.heap.size, 0, none⟩), .int .i64 a0, .pointer (some ⟨w.heap.size + 1, 0, none⟩), .int .i64 a1, .agg #[.int .i64 (FP.madeN a0 a1), .int .i64 (FP.madeD a0 a1)], .pointer (some ⟨w.heap.size, 1, none⟩), .int .i64 b0, .pointer (some ⟨w.heap.size + 1, 1, none⟩), .int .i64 b1, undef, .pointer (some ⟨w.heap.size, 2, none⟩), .int .i64 c0, .pointer (some ⟨w.heap.size + 1, 2, none⟩), .int .i64 c1, undef, undef, undef, undef, undef, undef, undef, undef, undef, undef, undef, undef, undef, undef, undef, undef, undef, undef, undef, undef, undef, undef, undef, undef, undef, undef, undef, undef, undef, undef, undef, undef, undef, undef, undef, undef, undef, undef, undef, undef, undef, undef, undef, undef, undef, undef, undef, undef, undef, undef, undef, undef, undef, undef, undef, undef, undef, undef, undef, undef, undef, undef, undef, undef, undef, undef, undef, undef, undef, undef, undef, undef, undef, undef, undef, undef, undef, undef, undef, undef, undef, undef, undef, undef, undef, undef, undef, undef, undef, undef, undef, undef, undef, undef, undef, undef, undef, undef, undef, undef, undef, undef, undef, undef, undef, undef, undef, undef, undef, undef, undef, undef, undef, undef, undef, undef], defers := [] } : Act) V := by
  subst hl
  refine wpAnyH_ready (rs := [9]) (by kernel_rfl) (by simp) ?_
  refine AllReadyH.cons (o := { dst := some 33, op := Op.call { callee := Callee.value (Operand.func 23), args := #[Operand.tmp 30, Operand.tmp 32], argTypes := #[3, 3] }, type := 31, pos := "law.go:109", after := #[{ on := 6, ground := Ground.data }, { on := 8, ground := Ground.data }, { on := 4, ground := Ground.chain }], guard := none }) (by kernel_rfl) (fun K hK => ?_) ?_
  · go_simp
    go_at_call 23
    refine (made_eq _ _ _).mono ?_
    rintro e w' ⟨rfl, rfl⟩
    dsimp only
    have hb : Below V.heap.size V ((V.alloc (.cells #[.int .i64 (FP.madeN b0 b1), .int .i64 (FP.madeD b0 b1)] 31)).drew) := (balloc (Below.refl _ V) _).drew
    refine hK.out _ _ ?_ (fun hHeld => ?_)
    · exact KS _ (bnext hV hb)
    clear hK K
    (try simp only [Act.put, List.setIfInBounds_toArray, List.set_cons_zero, List.set_cons_succ])
    exact nd2_678 w w1 a0 b0 c0 a1 b1 c1 KS H _ _ (by kernel_rfl) (bnext hV hb) g6 l6 (z6.keep hb) g7 l7 (z7.keep hb) g8 l8 (z8.keep hb) n67 n68 n78
  exact AllReadyH.nil
set_option maxHeartbeats 4000000 in
theorem nd1_67 (V : World) (listed : Array Bool) (hl : listed = #[true, true, true, true, true, true, true, true, true, false, true, true, true, true, false, true, true, false, false, false, false]) (hV : Below w1.heap.size w1 V) (g6 : Nat) (l6 : w1.heap.size ≤ g6) (z6 : Zr V g6) (g7 : Nat) (l7 : w1.heap.size ≤ g7) (z7 : Zr V g7) (n67 : g6 ≠ g7) : wpAnyH Try.prog .any OPS Q (CellsAt w w1 a0 b0 c0 a1 b1 c1) 6 listed ({ tmps := #[.agg #[.int .i64 a0, .int .i64 b0, .int .i64 c0], .agg #[.int .i64 a1, .int .i64 b1, .int .i64 c1], .pointer (some ⟨w.heap.size, 0, none⟩), .pointer (some ⟨w.heap.size + 1, 0, none⟩), .bool false, .bool true, .pointer (some ⟨g6, 0, none⟩), .pointer (some ⟨g7, 0, none⟩), undef, undef, undef, undef, undef, undef, undef, undef, undef, undef, undef, undef, undef, undef, undef, .bool true, .pointer (some ⟨w.heap.size, 0, none⟩), .int .i64 a0, .pointer (some ⟨w.heap.size + 1, 0, none⟩), .int .i64 a1, .agg #[.int .i64 (FP.madeN a0 a1), .int .i64 (FP.madeD a0 a1)], .pointer (some ⟨w.heap.size, 1, none⟩), .int .i64 b0, .pointer (some ⟨w.heap.size + 1, 1, none⟩), .int .i64 b1, undef, .pointer (some ⟨w.heap.size, 2, none⟩), .int .i64 c0, .pointer (some ⟨w.heap.size + 1, 2, none⟩), .int .i64 c1, undef, undef, undef, undef, undef, undef, undef, undef, undef, undef, undef, undef, undef, undef, undef, undef, undef, undef, undef, undef, undef, undef, undef, undef, undef, undef, undef, undef, undef, undef, undef, undef, undef, undef, undef, undef, undef, undef, undef, undef, undef, undef, undef, undef, undef, undef, undef, undef, undef, undef, undef, undef, undef, undef, undef, undef, undef, undef, undef, undef, undef, undef, undef, undef, undef, undef, undef, undef, undef, undef, undef, undef, undef, undef, undef, undef, undef, undef, undef, undef, undef, undef, undef, undef, undef, undef, undef, undef, undef, undef, undef, undef, undef, undef, undef, undef, undef, undef, undef, undef, undef, undef, undef, undef, undef, undef, undef, undef, undef, undef, undef, undef, undef, undef, undef, undef], defers := [] } : Act) V := by
  subst hl
  refine wpAnyH_ready (rs := [9, 17]) (by kernel_rfl) (by simp) ?_
  refine AllReadyH.cons (o := { dst := some 33, op := Op.call { callee := Callee.value (Operand.func 23), args := #[Operand.tmp 30, Operand.tmp 32], argTypes := #[3, 3] }, type := 31, pos := "law.go:109", after := #[{ on := 6, ground := Ground.data }, { on := 8, ground := Ground.data }, { on := 4, ground := Ground.chain }], guard := none }) (by kernel_rfl) (fun K hK => ?_) ?_
  · go_simp
    go_at_call 23
    refine (made_eq _ _ _).mono ?_
    rintro e w' ⟨rfl, rfl⟩
    dsimp only
    have hb : Below V.heap.size V ((V.alloc (.cells #[.int .i64 (FP.madeN b0 b1), .int .i64 (FP.madeD b0 b1)] 31)).drew) := (balloc (Below.refl _ V) _).drew
    refine hK.out _ _ ?_ (fun hHeld => ?_)
    · exact KS _ (bnext hV hb)
    clear hK K
    (try simp only [Act.put, List.setIfInBounds_toArray, List.set_cons_zero, List.set_cons_succ])
    exact nd2_67 w w1 a0 b0 c0 a1 b1 c1 KS H _ _ (by kernel_rfl) (bnext hV hb) g6 l6 (z6.keep hb) g7 l7 (z7.keep hb) n67
  refine AllReadyH.cons (o := { dst := some 8, op := Op.alloc 31, type := 0, pos := "law.go:109", after := #[], guard := none }) (by kernel_rfl) (fun K hK => ?_) ?_
  · go_simp
    have hb : Below V.heap.size V (V.alloc (.cells #[.int .i64 0, .int .i64 0] 31)) := balloc (Below.refl _ V) _
    refine hK.out _ _ ?_ (fun hHeld => ?_)
    · exact KS _ (bnext hV hb)
    clear hK K
    (try simp only [Act.put, List.setIfInBounds_toArray, List.set_cons_zero, List.set_cons_succ])
    exact nd1_678 w w1 a0 b0 c0 a1 b1 c1 KS H _ _ (by kernel_rfl) (bnext hV hb) g6 l6 (z6.keep hb) g7 l7 (z7.keep hb) V.heap.size hV.size (Zr.new V) n67 (Nat.ne_of_lt z6.lt) (Nat.ne_of_lt z7.lt)
  exact AllReadyH.nil
set_option maxHeartbeats 4000000 in
theorem nd1_68 (V : World) (listed : Array Bool) (hl : listed = #[true, true, true, true, true, true, true, true, true, false, true, true, true, true, false, true, false, true, false, false, false]) (hV : Below w1.heap.size w1 V) (g6 : Nat) (l6 : w1.heap.size ≤ g6) (z6 : Zr V g6) (g8 : Nat) (l8 : w1.heap.size ≤ g8) (z8 : Zr V g8) (n68 : g6 ≠ g8) : wpAnyH Try.prog .any OPS Q (CellsAt w w1 a0 b0 c0 a1 b1 c1) 6 listed ({ tmps := #[.agg #[.int .i64 a0, .int .i64 b0, .int .i64 c0], .agg #[.int .i64 a1, .int .i64 b1, .int .i64 c1], .pointer (some ⟨w.heap.size, 0, none⟩), .pointer (some ⟨w.heap.size + 1, 0, none⟩), .bool false, .bool true, .pointer (some ⟨g6, 0, none⟩), undef, .pointer (some ⟨g8, 0, none⟩), undef, undef, undef, undef, undef, undef, undef, undef, undef, undef, undef, undef, undef, undef, .bool true, .pointer (some ⟨w.heap.size, 0, none⟩), .int .i64 a0, .pointer (some ⟨w.heap.size + 1, 0, none⟩), .int .i64 a1, .agg #[.int .i64 (FP.madeN a0 a1), .int .i64 (FP.madeD a0 a1)], .pointer (some ⟨w.heap.size, 1, none⟩), .int .i64 b0, .pointer (some ⟨w.heap.size + 1, 1, none⟩), .int .i64 b1, undef, .pointer (some ⟨w.heap.size, 2, none⟩), .int .i64 c0, .pointer (some ⟨w.heap.size + 1, 2, none⟩), .int .i64 c1, undef, undef, undef, undef, undef, undef, undef, undef, undef, undef, undef, undef, undef, undef, undef, undef, undef, undef, undef, undef, undef, undef, undef, undef, undef, undef, undef, undef, undef, undef, undef, undef, undef, undef, undef, undef, undef, undef, undef, undef, undef, undef, undef, undef, undef, undef, undef, undef, undef, undef, undef, undef, undef, undef, undef, undef, undef, undef, undef, undef, undef, undef, undef, undef, undef, undef, undef, undef, undef, undef, undef, undef, undef, undef, undef, undef, undef, undef, undef, undef, undef, undef, undef, undef, undef, undef, undef, undef, undef, undef, undef, undef, undef, undef, undef, undef, undef, undef, undef, undef, undef, undef, undef, undef, undef, undef, undef, undef, undef, undef, undef, undef, undef, undef, undef, undef], defers := [] } : Act) V := by
  subst hl
  refine wpAnyH_ready (rs := [9, 16]) (by kernel_rfl) (by simp) ?_
  refine AllReadyH.cons (o := { dst := some 33, op := Op.call { callee := Callee.value (Operand.func 23), args := #[Operand.tmp 30, Operand.tmp 32], argTypes := #[3, 3] }, type := 31, pos := "law.go:109", after := #[{ on := 6, ground := Ground.data }, { on := 8, ground := Ground.data }, { on := 4, ground := Ground.chain }], guard := none }) (by kernel_rfl) (fun K hK => ?_) ?_
  · go_simp
    go_at_call 23
    refine (made_eq _ _ _).mono ?_
    rintro e w' ⟨rfl, rfl⟩
    dsimp only
    have hb : Below V.heap.size V ((V.alloc (.cells #[.int .i64 (FP.madeN b0 b1), .int .i64 (FP.madeD b0 b1)] 31)).drew) := (balloc (Below.refl _ V) _).drew
    refine hK.out _ _ ?_ (fun hHeld => ?_)
    · exact KS _ (bnext hV hb)
    clear hK K
    (try simp only [Act.put, List.setIfInBounds_toArray, List.set_cons_zero, List.set_cons_succ])
    exact nd2_68 w w1 a0 b0 c0 a1 b1 c1 KS H _ _ (by kernel_rfl) (bnext hV hb) g6 l6 (z6.keep hb) g8 l8 (z8.keep hb) n68
  refine AllReadyH.cons (o := { dst := some 7, op := Op.alloc 31, type := 0, pos := "law.go:109", after := #[], guard := none }) (by kernel_rfl) (fun K hK => ?_) ?_
  · go_simp
    have hb : Below V.heap.size V (V.alloc (.cells #[.int .i64 0, .int .i64 0] 31)) := balloc (Below.refl _ V) _
    refine hK.out _ _ ?_ (fun hHeld => ?_)
    · exact KS _ (bnext hV hb)
    clear hK K
    (try simp only [Act.put, List.setIfInBounds_toArray, List.set_cons_zero, List.set_cons_succ])
    exact nd1_678 w w1 a0 b0 c0 a1 b1 c1 KS H _ _ (by kernel_rfl) (bnext hV hb) g6 l6 (z6.keep hb) V.heap.size hV.size (Zr.new V) g8 l8 (z8.keep hb) (Nat.ne_of_lt z6.lt) n68 (Nat.ne_of_gt z8.lt)
  exact AllReadyH.nil
set_option maxHeartbeats 4000000 in
theorem nd1_78 (V : World) (listed : Array Bool) (hl : listed = #[true, true, true, true, true, true, true, true, true, false, true, true, true, true, false, false, true, true, false, false, false]) (hV : Below w1.heap.size w1 V) (g7 : Nat) (l7 : w1.heap.size ≤ g7) (z7 : Zr V g7) (g8 : Nat) (l8 : w1.heap.size ≤ g8) (z8 : Zr V g8) (n78 : g7 ≠ g8) : wpAnyH Try.prog .any OPS Q (CellsAt w w1 a0 b0 c0 a1 b1 c1) 6 listed ({ tmps := #[.agg #[.int .i64 a0, .int .i64 b0, .int .i64 c0], .agg #[.int .i64 a1, .int .i64 b1, .int .i64 c1], .pointer (some ⟨w.heap.size, 0, none⟩), .pointer (some ⟨w.heap.size + 1, 0, none⟩), .bool false, .bool true, undef, .pointer (some ⟨g7, 0, none⟩), .pointer (some ⟨g8, 0, none⟩), undef, undef, undef, undef, undef, undef, undef, undef, undef, undef, undef, undef, undef, undef, .bool true, .pointer (some ⟨w.heap.size, 0, none⟩), .int .i64 a0, .pointer (some ⟨w.heap.size + 1, 0, none⟩), .int .i64 a1, .agg #[.int .i64 (FP.madeN a0 a1), .int .i64 (FP.madeD a0 a1)], .pointer (some ⟨w.heap.size, 1, none⟩), .int .i64 b0, .pointer (some ⟨w.heap.size + 1, 1, none⟩), .int .i64 b1, undef, .pointer (some ⟨w.heap.size, 2, none⟩), .int .i64 c0, .pointer (some ⟨w.heap.size + 1, 2, none⟩), .int .i64 c1, undef, undef, undef, undef, undef, undef, undef, undef, undef, undef, undef, undef, undef, undef, undef, undef, undef, undef, undef, undef, undef, undef, undef, undef, undef, undef, undef, undef, undef, undef, undef, undef, undef, undef, undef, undef, undef, undef, undef, undef, undef, undef, undef, undef, undef, undef, undef, undef, undef, undef, undef, undef, undef, undef, undef, undef, undef, undef, undef, undef, undef, undef, undef, undef, undef, undef, undef, undef, undef, undef, undef, undef, undef, undef, undef, undef, undef, undef, undef, undef, undef, undef, undef, undef, undef, undef, undef, undef, undef, undef, undef, undef, undef, undef, undef, undef, undef, undef, undef, undef, undef, undef, undef, undef, undef, undef, undef, undef, undef, undef, undef, undef, undef, undef, undef, undef], defers := [] } : Act) V := by
  subst hl
  refine wpAnyH_ready (rs := [9, 15]) (by kernel_rfl) (by simp) ?_
  refine AllReadyH.cons (o := { dst := some 33, op := Op.call { callee := Callee.value (Operand.func 23), args := #[Operand.tmp 30, Operand.tmp 32], argTypes := #[3, 3] }, type := 31, pos := "law.go:109", after := #[{ on := 6, ground := Ground.data }, { on := 8, ground := Ground.data }, { on := 4, ground := Ground.chain }], guard := none }) (by kernel_rfl) (fun K hK => ?_) ?_
  · go_simp
    go_at_call 23
    refine (made_eq _ _ _).mono ?_
    rintro e w' ⟨rfl, rfl⟩
    dsimp only
    have hb : Below V.heap.size V ((V.alloc (.cells #[.int .i64 (FP.madeN b0 b1), .int .i64 (FP.madeD b0 b1)] 31)).drew) := (balloc (Below.refl _ V) _).drew
    refine hK.out _ _ ?_ (fun hHeld => ?_)
    · exact KS _ (bnext hV hb)
    clear hK K
    (try simp only [Act.put, List.setIfInBounds_toArray, List.set_cons_zero, List.set_cons_succ])
    exact nd2_78 w w1 a0 b0 c0 a1 b1 c1 KS H _ _ (by kernel_rfl) (bnext hV hb) g7 l7 (z7.keep hb) g8 l8 (z8.keep hb) n78
  refine AllReadyH.cons (o := { dst := some 6, op := Op.alloc 31, type := 0, pos := "law.go:109", after := #[], guard := none }) (by kernel_rfl) (fun K hK => ?_) ?_
  · go_simp
    have hb : Below V.heap.size V (V.alloc (.cells #[.int .i64 0, .int .i64 0] 31)) := balloc (Below.refl _ V) _
    refine hK.out _ _ ?_ (fun hHeld => ?_)
    · exact KS _ (bnext hV hb)
    clear hK K
    (try simp only [Act.put, List.setIfInBounds_toArray, List.set_cons_zero, List.set_cons_succ])
    exact nd1_678 w w1 a0 b0 c0 a1 b1 c1 KS H _ _ (by kernel_rfl) (bnext hV hb) V.heap.size hV.size (Zr.new V) g7 l7 (z7.keep hb) g8 l8 (z8.keep hb) (Nat.ne_of_gt z7.lt) (Nat.ne_of_gt z8.lt) n78
  exact AllReadyH.nil
set_option maxHeartbeats 4000000 in
theorem nd1_6 (V : World) (listed : Array Bool) (hl : listed = #[true, true, true, true, true, true, true, true, true, false, true, true, true, true, false, true, false, false, false, false, false]) (hV : Below w1.heap.size w1 V) (g6 : Nat) (l6 : w1.heap.size ≤ g6) (z6 : Zr V g6) : wpAnyH Try.prog .any OPS Q (CellsAt w w1 a0 b0 c0 a1 b1 c1) 7 listed ({ tmps := #[.agg #[.int .i64 a0, .int .i64 b0, .int .i64 c0], .agg #[.int .i64 a1, .int .i64 b1, .int .i64 c1], .pointer (some ⟨w.heap.size, 0, none⟩), .pointer (some ⟨w.heap.size + 1, 0, none⟩), .bool false, .bool true, .pointer (some ⟨g6, 0, none⟩), undef, undef, undef, undef, undef, undef, undef, undef, undef, undef, undef, undef, undef, undef, undef, undef, .bool true, .pointer (some ⟨w.heap.size, 0, none⟩), .int .i64 a0, .pointer (some ⟨w.heap.size + 1, 0, none⟩), .int .i64 a1, .agg #[.int .i64 (FP.madeN a0 a1), .int .i64 (FP.madeD a0 a1)], .pointer (some ⟨w.heap.size, 1, none⟩), .int .i64 b0, .pointer (some ⟨w.heap.size + 1, 1, none⟩), .int .i64 b1, undef, .pointer (some ⟨w.heap.size, 2, none⟩), .int .i64 c0, .pointer (some ⟨w.heap.size + 1, 2, none⟩), .int .i64 c1, undef, undef, undef, undef, undef, undef, undef, undef, undef, undef, undef, undef, undef, undef, undef, undef, undef, undef, undef, undef, undef, undef, undef, undef, undef, undef, undef, undef, undef, undef, undef, undef, undef, undef, undef, undef, undef, undef, undef, undef, undef, undef, undef, undef, undef, undef, undef, undef, undef, undef, undef, undef, undef, undef, undef, undef, undef, undef, undef, undef, undef, undef, undef, undef, undef, undef, undef, undef, undef, undef, undef, undef, undef, undef, undef, undef, undef, undef, undef, undef, undef, undef, undef, undef, undef, undef, undef, undef, undef, undef, undef, undef, undef, undef, undef, undef, undef, undef, undef, undef, undef, undef, undef, undef, undef, undef, undef, undef, undef, undef, undef, undef, undef, undef, undef, undef], defers := [] } : Act) V := by
  subst hl
  refine wpAnyH_ready (rs := [9, 16, 17]) (by kernel_rfl) (by simp) ?_
  refine AllReadyH.cons (o := { dst := some 33, op := Op.call { callee := Callee.value (Operand.func 23), args := #[Operand.tmp 30, Operand.tmp 32], argTypes := #[3, 3] }, type := 31, pos := "law.go:109", after := #[{ on := 6, ground := Ground.data }, { on := 8, ground := Ground.data }, { on := 4, ground := Ground.chain }], guard := none }) (by kernel_rfl) (fun K hK => ?_) ?_
  · go_simp
    go_at_call 23
    refine (made_eq _ _ _).mono ?_
    rintro e w' ⟨rfl, rfl⟩
    dsimp only
    have hb : Below V.heap.size V ((V.alloc (.cells #[.int .i64 (FP.madeN b0 b1), .int .i64 (FP.madeD b0 b1)] 31)).drew) := (balloc (Below.refl _ V) _).drew
    refine hK.out _ _ ?_ (fun hHeld => ?_)
    · exact KS _ (bnext hV hb)
    clear hK K
    (try simp only [Act.put, List.setIfInBounds_toArray, List.set_cons_zero, List.set_cons_succ])
    exact nd2_6 w w1 a0 b0 c0 a1 b1 c1 KS H _ _ (by kernel_rfl) (bnext hV hb) g6 l6 (z6.keep hb)
  refine AllReadyH.cons (o := { dst := some 7, op := Op.alloc 31, type := 0, pos := "law.go:109", after := #[], guard := none }) (by kernel_rfl) (fun K hK => ?_) ?_
  · go_simp
    have hb : Below V.heap.size V (V.alloc (.cells #[.int .i64 0, .int .i64 0] 31)) := balloc (Below.refl _ V) _
    refine hK.out _ _ ?_ (fun hHeld => ?_)
    · exact KS _ (bnext hV hb)
    clear hK K
    (try simp only [Act.put, List.setIfInBounds_toArray, List.set_cons_zero, List.set_cons_succ])
    exact nd1_67 w w1 a0 b0 c0 a1 b1 c1 KS H _ _ (by kernel_rfl) (bnext hV hb) g6 l6 (z6.keep hb) V.heap.size hV.size (Zr.new V) (Nat.ne_of_lt z6.lt)
  refine AllReadyH.cons (o := { dst := some 8, op := Op.alloc 31, type := 0, pos := "law.go:109", after := #[], guard := none }) (by kernel_rfl) (fun K hK => ?_) ?_
  · go_simp
    have hb : Below V.heap.size V (V.alloc (.cells #[.int .i64 0, .int .i64 0] 31)) := balloc (Below.refl _ V) _
    refine hK.out _ _ ?_ (fun hHeld => ?_)
    · exact KS _ (bnext hV hb)
    clear hK K
    (try simp only [Act.put, List.setIfInBounds_toArray, List.set_cons_zero, List.set_cons_succ])
    exact nd1_68 w w1 a0 b0 c0 a1 b1 c1 KS H _ _ (by kernel_rfl) (bnext hV hb) g6 l6 (z6.keep hb) V.heap.size hV.size (Zr.new V) (Nat.ne_of_lt z6.lt)
  exact AllReadyH.nil
set_option maxHeartbeats 4000000 in
theorem nd1_7 (V : World) (listed : Array Bool) (hl : listed = #[true, true, true, true, true, true, true, true, true, false, true, true, true, true, false, false, true, false, false, false, false]) (hV : Below w1.heap.size w1 V) (g7 : Nat) (l7 : w1.heap.size ≤ g7) (z7 : Zr V g7) : wpAnyH Try.prog .any OPS Q (CellsAt w w1 a0 b0 c0 a1 b1 c1) 7 listed ({ tmps := #[.agg #[.int .i64 a0, .int .i64 b0, .int .i64 c0], .agg #[.int .i64 a1, .int .i64 b1, .int .i64 c1], .pointer (some ⟨w.heap.size, 0, none⟩), .pointer (some ⟨w.heap.size + 1, 0, none⟩), .bool false, .bool true, undef, .pointer (some ⟨g7, 0, none⟩), undef, undef, undef, undef, undef, undef, undef, undef, undef, undef, undef, undef, undef, undef, undef, .bool true, .pointer (some ⟨w.heap.size, 0, none⟩), .int .i64 a0, .pointer (some ⟨w.heap.size + 1, 0, none⟩), .int .i64 a1, .agg #[.int .i64 (FP.madeN a0 a1), .int .i64 (FP.madeD a0 a1)], .pointer (some ⟨w.heap.size, 1, none⟩), .int .i64 b0, .pointer (some ⟨w.heap.size + 1, 1, none⟩), .int .i64 b1, undef, .pointer (some ⟨w.heap.size, 2, none⟩), .int .i64 c0, .pointer (some ⟨w.heap.size + 1, 2, none⟩), .int .i64 c1, undef, undef, undef, undef, undef, undef, undef, undef, undef, undef, undef, undef, undef, undef, undef, undef, undef, undef, undef, undef, undef, undef, undef, undef, undef, undef, undef, undef, undef, undef, undef, undef, undef, undef, undef, undef, undef, undef, undef, undef, undef, undef, undef, undef, undef, undef, undef, undef, undef, undef, undef, undef, undef, undef, undef, undef, undef, undef, undef, undef, undef, undef, undef, undef, undef, undef, undef, undef, undef, undef, undef, undef, undef, undef, undef, undef, undef, undef, undef, undef, undef, undef, undef, undef, undef, undef, undef, undef, undef, undef, undef, undef, undef, undef, undef, undef, undef, undef, undef, undef, undef, undef, undef, undef, undef, undef, undef, undef, undef, undef, undef, undef, undef, undef, undef, undef], defers := [] } : Act) V := by
  subst hl
  refine wpAnyH_ready (rs := [9, 15, 17]) (by kernel_rfl) (by simp) ?_
  refine AllReadyH.cons (o := { dst := some 33, op := Op.call { callee := Callee.value (Operand.func 23), args := #[Operand.tmp 30, Operand.tmp 32], argTypes := #[3, 3] }, type := 31, pos := "law.go:109", after := #[{ on := 6, ground := Ground.data }, { on := 8, ground := Ground.data }, { on := 4, ground := Ground.chain }], guard := none }) (by kernel_rfl) (fun K hK => ?_) ?_
  · go_simp
    go_at_call 23
    refine (made_eq _ _ _).mono ?_
    rintro e w' ⟨rfl, rfl⟩
    dsimp only
    have hb : Below V.heap.size V ((V.alloc (.cells #[.int .i64 (FP.madeN b0 b1), .int .i64 (FP.madeD b0 b1)] 31)).drew) := (balloc (Below.refl _ V) _).drew
    refine hK.out _ _ ?_ (fun hHeld => ?_)
    · exact KS _ (bnext hV hb)
    clear hK K
    (try simp only [Act.put, List.setIfInBounds_toArray, List.set_cons_zero, List.set_cons_succ])
    exact nd2_7 w w1 a0 b0 c0 a1 b1 c1 KS H _ _ (by kernel_rfl) (bnext hV hb) g7 l7 (z7.keep hb)
  refine AllReadyH.cons (o := { dst := some 6, op := Op.alloc 31, type := 0, pos := "law.go:109", after := #[], guard := none }) (by kernel_rfl) (fun K hK => ?_) ?_
  · go_simp
    have hb : Below V.heap.size V (V.alloc (.cells #[.int .i64 0, .int .i64 0] 31)) := balloc (Below.refl _ V) _
    refine hK.out _ _ ?_ (fun hHeld => ?_)
    · exact KS _ (bnext hV hb)
    clear hK K
    (try simp only [Act.put, List.setIfInBounds_toArray, List.set_cons_zero, List.set_cons_succ])
    exact nd1_67 w w1 a0 b0 c0 a1 b1 c1 KS H _ _ (by kernel_rfl) (bnext hV hb) V.heap.size hV.size (Zr.new V) g7 l7 (z7.keep hb) (Nat.ne_of_gt z7.lt)
  refine AllReadyH.cons (o := { dst := some 8, op := Op.alloc 31, type := 0, pos := "law.go:109", after := #[], guard := none }) (by kernel_rfl) (fun K hK => ?_) ?_
  · go_simp
    have hb : Below V.heap.size V (V.alloc (.cells #[.int .i64 0, .int .i64 0] 31)) := balloc (Below.refl _ V) _
    refine hK.out _ _ ?_ (fun hHeld => ?_)
    · exact KS _ (bnext hV hb)
    clear hK K
    (try simp only [Act.put, List.setIfInBounds_toArray, List.set_cons_zero, List.set_cons_succ])
    exact nd1_78 w w1 a0 b0 c0 a1 b1 c1 KS H _ _ (by kernel_rfl) (bnext hV hb) g7 l7 (z7.keep hb) V.heap.size hV.size (Zr.new V) (Nat.ne_of_lt z7.lt)
  exact AllReadyH.nil
set_option maxHeartbeats 4000000 in
theorem nd1_8 (V : World) (listed : Array Bool) (hl : listed = #[true, true, true, true, true, true, true, true, true, false, true, true, true, true, false, false, false, true, false, false, false]) (hV : Below w1.heap.size w1 V) (g8 : Nat) (l8 : w1.heap.size ≤ g8) (z8 : Zr V g8) : wpAnyH Try.prog .any OPS Q (CellsAt w w1 a0 b0 c0 a1 b1 c1) 7 listed ({ tmps := #[.agg #[.int .i64 a0, .int .i64 b0, .int .i64 c0], .agg #[.int .i64 a1, .int .i64 b1, .int .i64 c1], .pointer (some ⟨w.heap.size, 0, none⟩), .pointer (some ⟨w.heap.size + 1, 0, none⟩), .bool false, .bool true, undef, undef, .pointer (some ⟨g8, 0, none⟩), undef, undef, undef, undef, undef, undef, undef, undef, undef, undef, undef, undef, undef, undef, .bool true, .pointer (some ⟨w.heap.size, 0, none⟩), .int .i64 a0, .pointer (some ⟨w.heap.size + 1, 0, none⟩), .int .i64 a1, .agg #[.int .i64 (FP.madeN a0 a1), .int .i64 (FP.madeD a0 a1)], .pointer (some ⟨w.heap.size, 1, none⟩), .int .i64 b0, .pointer (some ⟨w.heap.size + 1, 1, none⟩), .int .i64 b1, undef, .pointer (some ⟨w.heap.size, 2, none⟩), .int .i64 c0, .pointer (some ⟨w.heap.size + 1, 2, none⟩), .int .i64 c1, undef, undef, undef, undef, undef, undef, undef, undef, undef, undef, undef, undef, undef, undef, undef, undef, undef, undef, undef, undef, undef, undef, undef, undef, undef, undef, undef, undef, undef, undef, undef, undef, undef, undef, undef, undef, undef, undef, undef, undef, undef, undef, undef, undef, undef, undef, undef, undef, undef, undef, undef, undef, undef, undef, undef, undef, undef, undef, undef, undef, undef, undef, undef, undef, undef, undef, undef, undef, undef, undef, undef, undef, undef, undef, undef, undef, undef, undef, undef, undef, undef, undef, undef, undef, undef, undef, undef, undef, undef, undef, undef, undef, undef, undef, undef, undef, undef, undef, undef, undef, undef, undef, undef, undef, undef, undef, undef, undef, undef, undef, undef, undef, undef, undef, undef, undef], defers := [] } : Act) V := by
  subst hl
  refine wpAnyH_ready (rs := [9, 15, 16]) (by kernel_rfl) (by simp) ?_
  refine AllReadyH.cons (o := { dst := some 33, op := Op.call { callee := Callee.value (Operand.func 23), args := #[Operand.tmp 30, Operand.tmp 32], argTypes := #[3, 3] }, type := 31, pos := "law.go:109", after := #[{ on := 6, ground := Ground.data }, { on := 8, ground := Ground.data }, { on := 4, ground := Ground.chain }], guard := none }) (by kernel_rfl) (fun K hK => ?_) ?_
  · go_simp
    go_at_call 23
    refine (made_eq _ _ _).mono ?_
    rintro e w' ⟨rfl, rfl⟩
    dsimp only
    have hb : Below V.heap.size V ((V.alloc (.cells #[.int .i64 (FP.madeN b0 b1), .int .i64 (FP.madeD b0 b1)] 31)).drew) := (balloc (Below.refl _ V) _).drew
    refine hK.out _ _ ?_ (fun hHeld => ?_)
    · exact KS _ (bnext hV hb)
    clear hK K
    (try simp only [Act.put, List.setIfInBounds_toArray, List.set_cons_zero, List.set_cons_succ])
    exact nd2_8 w w1 a0 b0 c0 a1 b1 c1 KS H _ _ (by kernel_rfl) (bnext hV hb) g8 l8 (z8.keep hb)
  refine AllReadyH.cons (o := { dst := some 6, op := Op.alloc 31, type := 0, pos := "law.go:109", after := #[], guard := none }) (by kernel_rfl) (fun K hK => ?_) ?_
  · go_simp
    have hb : Below V.heap.size V (V.alloc (.cells #[.int .i64 0, .int .i64 0] 31)) := balloc (Below.refl _ V) _
    refine hK.out _ _ ?_ (fun hHeld => ?_)
    · exact KS _ (bnext hV hb)
    clear hK K
    (try simp only [Act.put, List.setIfInBounds_toArray, List.set_cons_zero, List.set_cons_succ])
    exact nd1_68 w w1 a0 b0 c0 a1 b1 c1 KS H _ _ (by kernel_rfl) (bnext hV hb) V.heap.size hV.size (Zr.new V) g8 l8 (z8.keep hb) (Nat.ne_of_gt z8.lt)
  refine AllReadyH.cons (o := { dst := some 7, op := Op.alloc 31, type := 0, pos := "law.go:109", after := #[], guard := none }) (by kernel_rfl) (fun K hK => ?_) ?_
  · go_simp
    have hb : Below V.heap.size V (V.alloc (.cells #[.int .i64 0, .int .i64 0] 31)) := balloc (Below.refl _ V) _
    refine hK.out _ _ ?_ (fun hHeld => ?_)
    · exact KS _ (bnext hV hb)
    clear hK K
    (try simp only [Act.put, List.setIfInBounds_toArray, List.set_cons_zero, List.set_cons_succ])
    exact nd1_78 w w1 a0 b0 c0 a1 b1 c1 KS H _ _ (by kernel_rfl) (bnext hV hb) V.heap.size hV.size (Zr.new V) g8 l8 (z8.keep hb) (Nat.ne_of_gt z8.lt)
  exact AllReadyH.nil
set_option maxHeartbeats 4000000 in
theorem nd1_ (V : World) (listed : Array Bool) (hl : listed = #[true, true, true, true, true, true, true, true, true, false, true, true, true, true, false, false, false, false, false, false, false]) (hV : Below w1.heap.size w1 V) : wpAnyH Try.prog .any OPS Q (CellsAt w w1 a0 b0 c0 a1 b1 c1) 8 listed ({ tmps := #[.agg #[.int .i64 a0, .int .i64 b0, .int .i64 c0], .agg #[.int .i64 a1, .int .i64 b1, .int .i64 c1], .pointer (some ⟨w.heap.size, 0, none⟩), .pointer (some ⟨w.heap.size + 1, 0, none⟩), .bool false, .bool true, undef, undef, undef, undef, undef, undef, undef, undef, undef, undef, undef, undef, undef, undef, undef, undef, undef, .bool true, .pointer (some ⟨w.heap.size, 0, none⟩), .int .i64 a0, .pointer (some ⟨w.heap.size + 1, 0, none⟩), .int .i64 a1, .agg #[.int .i64 (FP.madeN a0 a1), .int .i64 (FP.madeD a0 a1)], .pointer (some ⟨w.heap.size, 1, none⟩), .int .i64 b0, .pointer (some ⟨w.heap.size + 1, 1, none⟩), .int .i64 b1, undef, .pointer (some ⟨w.heap.size, 2, none⟩), .int .i64 c0, .pointer (some ⟨w.heap.size + 1, 2, none⟩), .int .i64 c1, undef, undef, undef, undef, undef, undef, undef, undef, undef, undef, undef, undef, undef, undef, undef, undef, undef, undef, undef, undef, undef, undef, undef, undef, undef, undef, undef, undef, undef, undef, undef, undef, undef, undef, undef, undef, undef, undef, undef, undef, undef, undef, undef, undef, undef, undef, undef, undef, undef, undef, undef, undef, undef, undef, undef, undef, undef, undef, undef, undef, undef, undef, undef, undef, undef, undef, undef, undef, undef, undef, undef, undef, undef, undef, undef, undef, undef, undef, undef, undef, undef, undef, undef, undef, undef, undef, undef, undef, undef, undef, undef, undef, undef, undef, undef, undef, undef, undef, undef, undef, undef, undef, undef, undef, undef, undef, undef, undef, undef, undef, undef, undef, undef, undef, undef, undef], defers := [] } : Act) V := by
  subst hl
  refine wpAnyH_ready (rs := [9, 15, 16, 17]) (by kernel_rfl) (by simp) ?_
  refine AllReadyH.cons (o := { dst := some 33, op := Op.call { callee := Callee.value (Operand.func 23), args := #[Operand.tmp 30, Operand.tmp 32], argTypes := #[3, 3] }, type := 31, pos := "law.go:109", after := #[{ on := 6, ground := Ground.data }, { on := 8, ground := Ground.data }, { on := 4, ground := Ground.chain }], guard := none }) (by kernel_rfl) (fun K hK => ?_) ?_
  · go_simp
    go_at_call 23
    refine (made_eq _ _ _).mono ?_
    rintro e w' ⟨rfl, rfl⟩
    dsimp only
    have hb : Below V.heap.size V ((V.alloc (.cells #[.int .i64 (FP.madeN b0 b1), .int .i64 (FP.madeD b0 b1)] 31)).drew) := (balloc (Below.refl _ V) _).drew
    refine hK.out _ _ ?_ (fun hHeld => ?_)
    · exact KS _ (bnext hV hb)
    clear hK K
    (try simp only [Act.put, List.setIfInBounds_toArray, List.set_cons_zero, List.set_cons_succ])
    exact nd2_ w w1 a0 b0 c0 a1 b1 c1 KS H _ _ (by kernel_rfl) (bnext hV hb)
  refine AllReadyH.cons (o := { dst := some 6, op := Op.alloc 31, type := 0, pos := "law.go:109", after := #[], guard := none }) (by kernel_rfl) (fun K hK => ?_) ?_
  · go_simp
    have hb : Below V.heap.size V (V.alloc (.cells #[.int .i64 0, .int .i64 0] 31)) := balloc (Below.refl _ V) _
    refine hK.out _ _ ?_ (fun hHeld => ?_)
    · exact KS _ (bnext hV hb)
    clear hK K
    (try simp only [Act.put, List.setIfInBounds_toArray, List.set_cons_zero, List.set_cons_succ])
    exact nd1_6 w w1 a0 b0 c0 a1 b1 c1 KS H _ _ (by kernel_rfl) (bnext hV hb) V.heap.size hV.size (Zr.new V)
  refine AllReadyH.cons (o := { dst := some 7, op := Op.alloc 31, type := 0, pos := "law.go:109", after := #[], guard := none }) (by kernel_rfl) (fun K hK => ?_) ?_
  · go_simp
    have hb : Below V.heap.size V (V.alloc (.cells #[.int .i64 0, .int .i64 0] 31)) := balloc (Below.refl _ V) _
    refine hK.out _ _ ?_ (fun hHeld => ?_)
    · exact KS _ (bnext hV hb)
    clear hK K
    (try simp only [Act.put, List.setIfInBounds_toArray, List.set_cons_zero, List.set_cons_succ])
    exact nd1_7 w w1 a0 b0 c0 a1 b1 c1 KS H _ _ (by kernel_rfl) (bnext hV hb) V.heap.size hV.size (Zr.new V)
  refine AllReadyH.cons (o := { dst := some 8, op := Op.alloc 31, type := 0, pos := "law.go:109", after := #[], guard := none }) (by kernel_rfl) (fun K hK => ?_) ?_
  · go_simp
    have hb : Below V.heap.size V (V.alloc (.cells #[.int .i64 0, .int .i64 0] 31)) := balloc (Below.refl _ V) _
    refine hK.out _ _ ?_ (fun hHeld => ?_)
    · exact KS _ (bnext hV hb)
    clear hK K
    (try simp only [Act.put, List.setIfInBounds_toArray, List.set_cons_zero, List.set_cons_succ])
    exact nd1_8 w w1 a0 b0 c0 a1 b1 c1 KS H _ _ (by kernel_rfl) (bnext hV hb) V.heap.size hV.size (Zr.new V)
  exact AllReadyH.nil
set_option maxHeartbeats 4000000 in
theorem nd0_678 (V : World) (listed : Array Bool) (hl : listed = #[true, true, true, true, false, true, true, true, true, false, true, true, true, true, false, true, true, true, false, false, false]) (hV : Below w1.heap.size w1 V) (g6 : Nat) (l6 : w1.heap.size ≤ g6) (z6 : Zr V g6) (g7 : Nat) (l7 : w1.heap.size ≤ g7) (z7 : Zr V g7) (g8 : Nat) (l8 : w1.heap.size ≤ g8) (z8 : Zr V g8) (n67 : g6 ≠ g7) (n68 : g6 ≠ g8) (n78 : g7 ≠ g8) : wpAnyH Try.prog .any OPS Q (CellsAt w w1 a0 b0 c0 a1 b1 c1) 6 listed ({ tmps := #[.agg #[.int .i64 a0, .int .i64 b0, .int .i64 c0], .agg #[.int .i64 a1, .int .i64 b1, .int .i64 c1], .pointer (some ⟨w.heap.size, 0, none⟩), .pointer (some ⟨w.heap.size + 1, 0, none⟩), .bool false, .bool true, .pointer (some ⟨g6, 0, none⟩), .pointer (some ⟨g7, 0, none⟩), .pointer (some ⟨g8, 0, none⟩), undef, undef, undef, undef, undef, undef, undef, undef, undef, undef, undef, undef, undef, undef, .bool true, .pointer (some ⟨w.heap.size, 0, none⟩), .int .i64 a0, .pointer (some ⟨w.heap.size + 1, 0, none⟩), .int .i64 a1, undef, .pointer (some ⟨w.heap.size, 1, none⟩), .int .i64 b0, .pointer (some ⟨w.heap.size + 1, 1, none⟩), .int .i64 b1, undef, .pointer (some ⟨w.heap.size, 2, none⟩), .int .i64 c0, .pointer (some ⟨w.heap.size + 1, 2, none⟩), .int .i64 c1, undef, undef, undef, undef, undef, undef, undef, undef, undef, undef, undef, undef, undef, undef, undef, undef, undef, undef, undef, undef, undef, undef, undef, undef, undef, undef, undef, undef, undef, undef, undef, undef, undef, undef, undef, undef, undef, undef, undef, undef, undef, undef, undef, undef, undef, undef, undef, undef, undef, undef, undef, undef, undef, undef, undef, undef, undef, undef, undef, undef, undef, undef, undef, undef, undef, undef, undef, undef, undef, undef, undef, undef, undef, undef, undef, undef, undef, undef, undef, undef, undef, undef, undef, undef, undef, undef, undef, undef, undef, undef, undef, undef, undef, undef, undef, undef, undef, undef, undef, undef, undef, undef, undef, undef, undef, undef, undef, undef, undef, undef, undef, undef, undef, undef, undef, undef], defers := [] } : Act) V := by
  subst hl
  refine wpAnyH_ready (rs := [4]) (by kernel_rfl) (by simp) ?_
  refine AllReadyH.cons (o := { dst := some 28, op := Op.call { callee := Callee.value (Operand.func 23), args := #[Operand.tmp 25, Operand.tmp 27], argTypes := #[3, 3] }, type := 31, pos := "law.go:109", after := #[{ on := 1, ground := Ground.data }, { on := 3, ground := Ground.data }], guard := none }) (by kernel_rfl) (fun K hK => ?_) ?_
  · go_simp
    go_at_call 23
    refine (made_eq _ _ _).mono ?_
    rintro e w' ⟨rfl, rfl⟩
    dsimp only
    have hb : Below V.heap.size V ((V.alloc (.cells #[.int .i64 (FP.madeN a0 a1), .int .i64 (FP.madeD a0 a1)] 31)).drew) := (balloc (Below.refl _ V) _).drew
    refine hK.out _ _ ?_ (fun hHeld => ?_)
    · exact KS _ (bnext hV hb)
    clear hK K
    (try simp only [Act.put, List.setIfInBounds_toArray, List.set_cons_zero, List.set_cons_succ])
    exact nd1_678 w w1 a0 b0 c0 a1 b1 c1 KS H _ _ (by kernel_rfl) (bnext hV hb) g6 l6 (z6.keep hb) g7 l7 (z7.keep hb) g8 l8 (z8.keep hb) n67 n68 n78
  exact AllReadyH.nil
set_option maxHeartbeats 4000000 in
theorem nd0_67 (V : World) (listed : Array Bool) (hl : listed = #[true, true, true, true, false, true, true, true, true, false, true, true, true, true, false, true, true, false, false, false, false]) (hV : Below w1.heap.size w1 V) (g6 : Nat) (l6 : w1.heap.size ≤ g6) (z6 : Zr V g6) (g7 : Nat) (l7 : w1.heap.size ≤ g7) (z7 : Zr V g7) (n67 : g6 ≠ g7) : wpAnyH Try.prog .any OPS Q (CellsAt w w1 a0 b0 c0 a1 b1 c1) 7 listed ({ tmps := #[.agg #[.int .i64 a0, .int .i64 b0, .int .i64 c0], .agg #[.int .i64 a1, .int .i64 b1, .int .i64 c1], .pointer (some ⟨w.heap.size, 0, none⟩), .pointer (some ⟨w.heap.size + 1, 0, none⟩), .bool false, .bool true, .pointer (some ⟨g6, 0, none⟩), .pointer (some ⟨g7, 0, none⟩), undef, undef, undef, undef, undef, undef, undef, undef, undef, undef, undef, undef, undef, undef, undef, .bool true, .pointer (some ⟨w.heap.size, 0, none⟩), .int .i64 a0, .pointer (some ⟨w.heap.size + 1, 0, none⟩), .int .i64 a1, undef, .pointer (some ⟨w.heap.size, 1, none⟩), .int .i64 b0, .pointer (some ⟨w.heap.size + 1, 1, none⟩), .int .i64 b1, undef, .pointer (some ⟨w.heap.size, 2, none⟩), .int .i64 c0, .pointer (some ⟨w.heap.size + 1, 2, none⟩), .int .i64 c1, undef, undef, undef, undef, undef, undef, undef, undef, undef, undef, undef, undef, undef, undef, undef, undef, undef, undef, undef, undef, undef, undef, undef, undef, undef, undef, undef, undef, undef, undef, undef, undef, undef, undef, undef, undef, undef, undef, undef, undef, undef, undef, undef, undef, undef, undef, undef, undef, undef, undef, undef, undef, undef, undef, undef, undef, undef, undef, undef, undef, undef, undef, undef, undef, undef, undef, undef, undef, undef, undef, undef, undef, undef, undef, undef, undef, undef, undef, undef, undef, undef, undef, undef, undef, undef, undef, undef, undef, undef, undef, undef, undef, undef, undef, undef, undef, undef, undef, undef, undef, undef, undef, undef, undef, undef, undef, undef, undef, undef, undef, undef, undef, undef, undef, undef, undef], defers := [] } : Act) V := by
  subst hl
  refine wpAnyH_ready (rs := [4, 17]) (by kernel_rfl) (by simp) ?_
  refine AllReadyH.cons (o := { dst := some 28, op := Op.call { callee := Callee.value (Operand.func 23), args := #[Operand.tmp 25, Operand.tmp 27], argTypes := #[3, 3] }, type := 31, pos := "law.go:109", after := #[{ on := 1, ground := Ground.data }, { on := 3, ground := Ground.data }], guard := none }) (by kernel_rfl) (fun K hK => ?_) ?_
  · go_simp
    go_at_call 23
    refine (made_eq _ _ _).mono ?_
    rintro e w' ⟨rfl, rfl⟩
    dsimp only
    have hb : Below V.heap.size V ((V.alloc (.cells #[.int .i64 (FP.madeN a0 a1), .int .i64 (FP.madeD a0 a1)] 31)).drew) := (balloc (Below.refl _ V) _).drew
    refine hK.out _ _ ?_ (fun hHeld => ?_)
    · exact KS _ (bnext hV hb)
    clear hK K
    (try simp only [Act.put, List.setIfInBounds_toArray, List.set_cons_zero, List.set_cons_succ])
    exact nd1_67 w w1 a0 b0 c0 a1 b1 c1 KS H _ _ (by kernel_rfl) (bnext hV hb) g6 l6 (z6.keep hb) g7 l7 (z7.keep hb) n67
  refine AllReadyH.cons (o := { dst := some 8, op := Op.alloc 31, type := 0, pos := "law.go:109", after := #[], guard := none }) (by kernel_rfl) (fun K hK => ?_) ?_
  · go_simp
    have hb : Below V.heap.size V (V.alloc (.cells #[.int .i64 0, .int .i64 0] 31)) := balloc (Below.refl _ V) _
    refine hK.out _ _ ?_ (fun hHeld => ?_)
    · exact KS _ (bnext hV hb)
    clear hK K
    (try simp only [Act.put, List.setIfInBounds_toArray, List.set_cons_zero, List.set_cons_succ])
    exact nd0_678 w w1 a0 b0 c0 a1 b1 c1 KS H _ _ (by kernel_rfl) (bnext hV hb) g6 l6 (z6.keep hb) g7 l7 (z7.keep hb) V.heap.size hV.size (Zr.new V) n67 (Nat.ne_of_lt z6.lt) (Nat.ne_of_lt z7.lt)
  exact AllReadyH.nil
set_option maxHeartbeats 4000000 in
theorem nd0_68 (V : World) (listed : Array Bool) (hl : listed = #[true, true, true, true, false, true, true, true, true, false, true, true, true, true, false, true, false, true, false, false, false]) (hV : Below w1.heap.size w1 V) (g6 : Nat) (l6 : w1.heap.size ≤ g6) (z6 : Zr V g6) (g8 : Nat) (l8 : w1.heap.size ≤ g8) (z8 : Zr V g8) (n68 : g6 ≠ g8) : wpAnyH Try.prog .any OPS Q (CellsAt w w1 a0 b0 c0 a1 b1 c1) 7 listed ({ tmps := #[.agg #[.int .i64 a0, .int .i64 b0, .int .i64 c0], .agg #[.int .i64 a1, .int .i64 b1, .int .i64 c1], .pointer (some ⟨w.heap.size, 0, none⟩), .pointer (some ⟨w.heap.size + 1, 0, none⟩), .bool false, .bool true, .pointer (some ⟨g6, 0, none⟩), undef, .pointer (some ⟨g8, 0, none⟩), undef, undef, undef, undef, undef, undef, undef, undef, undef, undef, undef, undef, undef, undef, .bool true, .pointer (some ⟨w.heap.size, 0, none⟩), .int .i64 a0, .pointer (some ⟨w.heap.size + 1, 0, none⟩), .int .i64 a1, undef, .pointer (some ⟨w.heap.size, 1, none⟩), .int .i64 b0, .pointer (some ⟨w.heap.size + 1, 1, none⟩), .int .i64 b1, undef, .pointer (some ⟨w.heap.size, 2, none⟩), .int .i64 c0, .pointer (some ⟨w.heap.size + 1, 2, none⟩), .int .i64 c1, undef, undef, undef, undef, undef, undef, undef, undef, undef, undef, undef, undef, undef, undef, undef, undef, undef, undef, undef, undef, undef, undef, undef, undef, undef, undef, undef, undef, undef, undef, undef, undef, undef, undef, undef, undef, undef, undef, undef, undef, undef, undef, undef, undef, undef, undef, undef, undef, undef, undef, undef, undef, undef, undef, undef, undef, undef, undef, undef, undef, undef, undef, undef, undef, undef, undef, undef, undef, undef, undef, undef, undef, undef, undef, undef, undef, undef, undef, undef, undef, undef, undef, undef, undef, undef, undef, undef, undef, undef, undef, undef, undef, undef, undef, undef, undef, undef, undef, undef, undef, undef, undef, undef, undef, undef, undef, undef, undef, undef, undef, undef, undef, undef, undef, undef, undef], defers := [] } : Act) V := by
  subst hl
  refine wpAnyH_ready (rs := [4, 16]) (by kernel_rfl) (by simp) ?_
  refine AllReadyH.cons (o := { dst := some 28, op := Op.call { callee := Callee.value (Operand.func 23), args := #[Operand.tmp 25, Operand.tmp 27], argTypes := #[3, 3] }, type := 31, pos := "law.go:109", after := #[{ on := 1, ground := Ground.data }, { on := 3, ground := Ground.data }], guard := none }) (by kernel_rfl) (fun K hK => ?_) ?_
  · go_simp
    go_at_call 23
    refine (made_eq _ _ _).mono ?_
    rintro e w' ⟨rfl, rfl⟩
    dsimp only
    have hb : Below V.heap.size V ((V.alloc (.cells #[.int .i64 (FP.madeN a0 a1), .int .i64 (FP.madeD a0 a1)] 31)).drew) := (balloc (Below.refl _ V) _).drew
    refine hK.out _ _ ?_ (fun hHeld => ?_)
    · exact KS _ (bnext hV hb)
    clear hK K
    (try simp only [Act.put, List.setIfInBounds_toArray, List.set_cons_zero, List.set_cons_succ])
    exact nd1_68 w w1 a0 b0 c0 a1 b1 c1 KS H _ _ (by kernel_rfl) (bnext hV hb) g6 l6 (z6.keep hb) g8 l8 (z8.keep hb) n68
  refine AllReadyH.cons (o := { dst := some 7, op := Op.alloc 31, type := 0, pos := "law.go:109", after := #[], guard := none }) (by kernel_rfl) (fun K hK => ?_) ?_
  · go_simp
    have hb : Below V.heap.size V (V.alloc (.cells #[.int .i64 0, .int .i64 0] 31)) := balloc (Below.refl _ V) _
    refine hK.out _ _ ?_ (fun hHeld => ?_)
    · exact KS _ (bnext hV hb)
    clear hK K
    (try simp only [Act.put, List.setIfInBounds_toArray, List.set_cons_zero, List.set_cons_succ])
    exact nd0_678 w w1 a0 b0 c0 a1 b1 c1 KS H _ _ (by kernel_rfl) (bnext hV hb) g6 l6 (z6.keep hb) V.heap.size hV.size (Zr.new V) g8 l8 (z8.keep hb) (Nat.ne_of_lt z6.lt) n68 (Nat.ne_of_gt z8.lt)
  exact AllReadyH.nil
set_option maxHeartbeats 4000000 in
theorem nd0_78 (V : World) (listed : Array Bool) (hl : listed = #[true, true, true, true, false, true, true, true, true, false, true, true, true, true, false, false, true, true, false, false, false]) (hV : Below w1.heap.size w1 V) (g7 : Nat) (l7 : w1.heap.size ≤ g7) (z7 : Zr V g7) (g8 : Nat) (l8 : w1.heap.size ≤ g8) (z8 : Zr V g8) (n78 : g7 ≠ g8) : wpAnyH Try.prog .any OPS Q (CellsAt w w1 a0 b0 c0 a1 b1 c1) 7 listed ({ tmps := #[.agg #[.int .i64 a0, .int .i64 b0, .int .i64 c0], .agg #[.int .i64 a1, .int .i64 b1, .int .i64 c1], .pointer (some ⟨w.heap.size, 0, none⟩), .pointer (some ⟨w.heap.size + 1, 0, none⟩), .bool false, .bool true, undef, .pointer (some ⟨g7, 0, none⟩), .pointer (some ⟨g8, 0, none⟩), undef, undef, undef, undef, undef, undef, undef, undef, undef, undef, undef, undef, undef, undef, .bool true, .pointer (some ⟨w.heap.size, 0, none⟩), .int .i64 a0, .pointer (some ⟨w.heap.size + 1, 0, none⟩), .int .i64 a1, undef, .pointer (some ⟨w.heap.size, 1, none⟩), .int .i64 b0, .pointer (some ⟨w.heap.size + 1, 1, none⟩), .int .i64 b1, undef, .pointer (some ⟨w.heap.size, 2, none⟩), .int .i64 c0, .pointer (some ⟨w.heap.size + 1, 2, none⟩), .int .i64 c1, undef, undef, undef, undef, undef, undef, undef, undef, undef, undef, undef, undef, undef, undef, undef, undef, undef, undef, undef, undef, undef, undef, undef, undef, undef, undef, undef, undef, undef, undef, undef, undef, undef, undef, undef, undef, undef, undef, undef, undef, undef, undef, undef, undef, undef, undef, undef, undef, undef, undef, undef, undef, undef, undef, undef, undef, undef, undef, undef, undef, undef, undef, undef, undef, undef, undef, undef, undef, undef, undef, undef, undef, undef, undef, undef, undef, undef, undef, undef, undef, undef, undef, undef, undef, undef, undef, undef, undef, undef, undef, undef, undef, undef, undef, undef, undef, undef, undef, undef, undef, undef, undef, undef, undef, undef, undef, undef, undef, undef, undef, undef, undef, undef, undef, undef, undef], defers := [] } : Act) V := by
  subst hl
  refine wpAnyH_ready (rs := [4, 15]) (by kernel_rfl) (by simp) ?_
  refine AllReadyH.cons (o := { dst := some 28, op := Op.call { callee := Callee.value (Operand.func 23), args := #[Operand.tmp 25, Operand.tmp 27], argTypes := #[3, 3] }, type := 31, pos := "law.go:109", after := #[{ on := 1, ground := Ground.data }, { on := 3, ground := Ground.data }], guard := none }) (by kernel_rfl) (fun K hK => ?_) ?_
  · go_simp
    go_at_call 23
    refine (made_eq _ _ _).mono ?_
    rintro e w' ⟨rfl, rfl⟩
    dsimp only
    have hb : Below V.heap.size V ((V.alloc (.cells #[.int .i64 (FP.madeN a0 a1), .int .i64 (FP.madeD a0 a1)] 31)).drew) := (balloc (Below.refl _ V) _).drew
    refine hK.out _ _ ?_ (fun hHeld => ?_)
    · exact KS _ (bnext hV hb)
    clear hK K
    (try simp only [Act.put, List.setIfInBounds_toArray, List.set_cons_zero, List.set_cons_succ])
    exact nd1_78 w w1 a0 b0 c0 a1 b1 c1 KS H _ _ (by kernel_rfl) (bnext hV hb) g7 l7 (z7.keep hb) g8 l8 (z8.keep hb) n78
  refine AllReadyH.cons (o := { dst := some 6, op := Op.alloc 31, type := 0, pos := "law.go:109", after := #[], guard := none }) (by kernel_rfl) (fun K hK => ?_) ?_
  · go_simp
    have hb : Below V.heap.size V (V.alloc (.cells #[.int .i64 0, .int .i64 0] 31)) := balloc (Below.refl _ V) _
    refine hK.out _ _ ?_ (fun hHeld => ?_)
    · exact KS _ (bnext hV hb)
    clear hK K
    (try simp only [Act.put, List.setIfInBounds_toArray, List.set_cons_zero, List.set_cons_succ])
    exact nd0_678 w w1 a0 b0 c0 a1 b1 c1 KS H _ _ (by kernel_rfl) (bnext hV hb) V.heap.size hV.size (Zr.new V) g7 l7 (z7.keep hb) g8 l8 (z8.keep hb) (Nat.ne_of_gt z7.lt) (Nat.ne_of_gt z8.lt) n78
  exact AllReadyH.nil
set_option maxHeartbeats 4000000 in
theorem nd0_6 (V : World) (listed : Array Bool) (hl : listed = #[true, true, true, true, false, true, true, true, true, false, true, true, true, true, false, true, false, false, false, false, false]) (hV : Below w1.heap.size w1 V) (g6 : Nat) (l6 : w1.heap.size ≤ g6) (z6 : Zr V g6) : wpAnyH Try.prog .any OPS Q (CellsAt w w1 a0 b0 c0 a1 b1 c1) 8 listed ({ tmps := #[.agg #[.int .i64 a0, .int .i64 b0, .int .i64 c0], .agg #[.int .i64 a1, .int .i64 b1, .int .i64 c1], .pointer (some ⟨w.heap.size, 0, none⟩), .pointer (some ⟨w.heap.size + 1, 0, none⟩), .bool false, .bool true, .pointer (some ⟨g6, 0, none⟩), undef, undef, undef, undef, undef, undef, undef, undef, undef, undef, undef, undef, undef, undef, undef, undef, .bool true, .pointer (some ⟨w.heap.size, 0, none⟩), .int .i64 a0, .pointer (some ⟨w.heap.size + 1, 0, none⟩), .int .i64 a1, undef, .pointer (some ⟨w.heap.size, 1, none⟩), .int .i64 b0, .pointer (some ⟨w.heap.size + 1, 1, none⟩), .int .i64 b1, undef, .pointer (some ⟨w.heap.size, 2, none⟩), .int .i64 c0, .pointer (some ⟨w.heap.size + 1, 2, none⟩), .int .i64 c1, undef, undef, undef, undef, undef, undef, undef, undef, undef, undef, undef, undef, undef, undef, undef, undef, undef, undef, undef, undef, undef, undef, undef, undef, undef, undef, undef, undef, undef, undef, undef, undef, undef, undef, undef, undef, undef, undef, undef, undef, undef, undef, undef, undef, undef, undef, undef, undef, undef, undef, undef, undef, undef, undef, undef, undef, undef, undef, undef, undef, undef, undef, undef, undef, undef, undef, undef, undef, undef, undef, undef, undef, undef, undef, undef, undef, undef, undef, undef, undef, undef, undef, undef, undef, undef, undef, undef, undef, undef, undef, undef, undef, undef, undef, undef, undef, undef, undef, undef, undef, undef, undef, undef, undef, undef, undef, undef, undef, undef, undef, undef, undef, undef, undef, undef, undef], defers := [] } : Act) V := by
  subst hl
  refine wpAnyH_ready (rs := [4, 16, 17]) (by kernel_rfl) (by simp) ?_
  refine AllReadyH.cons (o := { dst := some 28, op := Op.call { callee := Callee.value (Operand.func 23), args := #[Operand.tmp 25, Operand.tmp 27], argTypes := #[3, 3] }, type := 31, pos := "law.go:109", after := #[{ on := 1, ground := Ground.data }, { on := 3, ground := Ground.data }], guard := none }) (by kernel_rfl) (fun K hK => ?_) ?_
  · go_simp
    go_at_call 23
    refine (made_eq _ _ _).mono ?_
    rintro e w' ⟨rfl, rfl⟩
    dsimp only
    have hb : Below V.heap.size V ((V.alloc (.cells #[.int .i64 (FP.madeN a0 a1), .int .i64 (FP.madeD a0 a1)] 31)).drew) := (balloc (Below.refl _ V) _).drew
    refine hK.out _ _ ?_ (fun hHeld => ?_)
    · exact KS _ (bnext hV hb)
    clear hK K
    (try simp only [Act.put, List.setIfInBounds_toArray, List.set_cons_zero, List.set_cons_succ])
    exact nd1_6 w w1 a0 b0 c0 a1 b1 c1 KS H _ _ (by kernel_rfl) (bnext hV hb) g6 l6 (z6.keep hb)
  refine AllReadyH.cons (o := { dst := some 7, op := Op.alloc 31, type := 0, pos := "law.go:109", after := #[], guard := none }) (by kernel_rfl) (fun K hK => ?_) ?_
  · go_simp
    have hb : Below V.heap.size V (V.alloc (.cells #[.int .i64 0, .int .i64 0] 31)) := balloc (Below.refl _ V) _
    refine hK.out _ _ ?_ (fun hHeld => ?_)
    · exact KS _ (bnext hV hb)
    clear hK K
    (try simp only [Act.put, List.setIfInBounds_toArray, List.set_cons_zero, List.set_cons_succ])
    exact nd0_67 w w1 a0 b0 c0 a1 b1 c1 KS H _ _ (by kernel_rfl) (bnext hV hb) g6 l6 (z6.keep hb) V.heap.size hV.size (Zr.new V) (Nat.ne_of_lt z6.lt)
  refine AllReadyH.cons (o := { dst := some 8, op := Op.alloc 31, type := 0, pos := "law.go:109", after := #[], guard := none }) (by kernel_rfl) (fun K hK => ?_) ?_
  · go_simp
    have hb : Below V.heap.size V (V.alloc (.cells #[.int .i64 0, .int .i64 0] 31)) := balloc (Below.refl _ V) _
    refine hK.out _ _ ?_ (fun hHeld => ?_)
    · exact KS _ (bnext hV hb)
    clear hK K
    (try simp only [Act.put, List.setIfInBounds_toArray, List.set_cons_zero, List.set_cons_succ])
    exact nd0_68 w w1 a0 b0 c0 a1 b1 c1 KS H _ _ (by kernel_rfl) (bnext hV hb) g6 l6 (z6.keep hb) V.heap.size hV.size (Zr.new V) (Nat.ne_of_lt z6.lt)
  exact AllReadyH.nil
set_option maxHeartbeats 4000000 in
theorem nd0_7 (V : World) (listed : Array Bool) (hl : listed = #[true, true, true, true, false, true, true, true, true, false, true, true, true, true, false, false, true, false, false, false, false]) (hV : Below w1.heap.size w1 V) (g7 : Nat) (l7 : w1.heap.size ≤ g7) (z7 : Zr V g7) : wpAnyH Try.prog .any OPS Q (CellsAt w w1 a0 b0 c0 a1 b1 c1) 8 listed ({ tmps := #[.agg #[.int .i64 a0, .int .i64 b0, .int .i64 c0], .agg #[.int .i64 a1, .int .i64 b1, .int .i64 c1], .pointer (some ⟨w.heap.size, 0, none⟩), .pointer (some ⟨w.heap.size + 1, 0, none⟩), .bool false, .bool true, undef, .pointer (some ⟨g7, 0, none⟩), undef, undef, undef, undef, undef, undef, undef, undef, undef, undef, undef, undef, undef, undef, undef, .bool true, .pointer (some ⟨w.heap.size, 0, none⟩), .int .i64 a0, .pointer (some ⟨w.heap.size + 1, 0, none⟩), .int .i64 a1, undef, .pointer (some ⟨w.heap.size, 1, none⟩), .int .i64 b0, .pointer (some ⟨w.heap.size + 1, 1, none⟩), .int .i64 b1, undef, .pointer (some ⟨w.heap.size, 2, none⟩), .int .i64 c0, .pointer (some ⟨w.heap.size + 1, 2, none⟩), .int .i64 c1, undef, undef, undef, undef, undef, undef, undef, undef, undef, undef, undef, undef, undef, undef, undef, undef, undef, undef, undef, undef, undef, undef, undef, undef, undef, undef, undef, undef, undef, undef, undef, undef, undef, undef, undef, undef, undef, undef, undef, undef, undef, undef, undef, undef, undef, undef, undef, undef, undef, undef, undef, undef, undef, undef, undef, undef, undef, undef, undef, undef, undef, undef, undef, undef, undef, undef, undef, undef, undef, undef, undef, undef, undef, undef, undef, undef, undef, undef, undef, undef, undef, undef, undef, undef, undef, undef, undef, undef, undef, undef, undef, undef, undef, undef, undef, undef, undef, undef, undef, undef, undef, undef, undef, undef, undef, undef, undef, undef, undef, undef, undef, undef, undef, undef, undef, undef], defers := [] } : Act) V := by
  subst hl
  refine wpAnyH_ready (rs := [4, 15, 17]) (by kernel_rfl) (by simp) ?_
  refine AllReadyH.cons (o := { dst := some 28, op := Op.call { callee := Callee.value (Operand.func 23), args := #[Operand.tmp 25, Operand.tmp 27], argTypes := #[3, 3] }, type := 31, pos := "law.go:109", after := #[{ on := 1, ground := Ground.data }, { on := 3, ground := Ground.data }], guard := none }) (by kernel_rfl) (fun K hK => ?_) ?_
  · go_simp
    go_at_call 23
    refine (made_eq _ _ _).mono ?_
    rintro e w' ⟨rfl, rfl⟩
    dsimp only
    have hb : Below V.heap.size V ((V.alloc (.cells #[.int .i64 (FP.madeN a0 a1), .int .i64 (FP.madeD a0 a1)] 31)).drew) := (balloc (Below.refl _ V) _).drew
    refine hK.out _ _ ?_ (fun hHeld => ?_)
    · exact KS _ (bnext hV hb)
    clear hK K
    (try simp only [Act.put, List.setIfInBounds_toArray, List.set_cons_zero, List.set_cons_succ])
    exact nd1_7 w w1 a0 b0 c0 a1 b1 c1 KS H _ _ (by kernel_rfl) (bnext hV hb) g7 l7 (z7.keep hb)
  refine AllReadyH.cons (o := { dst := some 6, op := Op.alloc 31, type := 0, pos := "law.go:109", after := #[], guard := none }) (by kernel_rfl) (fun K hK => ?_) ?_
  · go_simp
    have hb : Below V.heap.size V (V.alloc (.cells #[.int .i64 0, .int .i64 0] 31)) := balloc (Below.refl _ V) _
    refine hK.out _ _ ?_ (fun hHeld => ?_)
    · exact KS _ (bnext hV hb)
    clear hK K
    (try simp only [Act.put, List.setIfInBounds_toArray, List.set_cons_zero, List.set_cons_succ])
    exact nd0_67 w w1 a0 b0 c0 a1 b1 c1 KS H _ _ (by kernel_rfl) (bnext hV hb) V.heap.size hV.size (Zr.new V) g7 l7 (z7.keep hb) (Nat.ne_of_gt z7.lt)
  refine AllReadyH.cons (o := { dst := some 8, op := Op.alloc 31, type := 0, pos := "law.go:109", after := #[], guard := none }) (by kernel_rfl) (fun K hK => ?_) ?_
  · go_simp
    have hb : Below V.heap.size V (V.alloc (.cells #[.int .i64 0, .int .i64 0] 31)) := balloc (Below.refl _ V) _
    refine hK.out _ _ ?_ (fun hHeld => ?_)
    · exact KS _ (bnext hV hb)
    clear hK K
    (try simp only [Act.put, List.setIfInBounds_toArray, List.set_cons_zero, List.set_cons_succ])
    exact nd0_78 w w1 a0 b0 c0 a1 b1 c1 KS H _ _ (by kernel_rfl) (bnext hV hb) g7 l7 (z7.keep hb) V.heap.size hV.size (Zr.new V) (Nat.ne_of_lt z7.lt)
  exact AllReadyH.nil
set_option maxHeartbeats 4000000 in
theorem nd0_8 (V : World) (listed : Array Bool) (hl : listed = #[true, true, true, true, false, true, true, true, true, false, true, true, true, true, false, false, false, true, false, false, false]) (hV : Below w1.heap.size w1 V) (g8 : Nat) (l8 : w1.heap.size ≤ g8) (z8 : Zr V g8) : wpAnyH Try.prog .any OPS Q (CellsAt w w1 a0 b0 c0 a1 b1 c1) 8 listed ({ tmps := #[.agg #[.int .i64 a0, .int .i64 b0, .int .i64 c0], .agg #[.int .i64 a1, .int .i64 b1, .int .i64 c1], .pointer (some ⟨w.heap.size, 0, none⟩), .pointer (some ⟨w.heap.size + 1, 0, none⟩), .bool false, .bool true, undef, undef, .pointer (some ⟨g8, 0, none⟩), undef, undef, undef, undef, undef, undef, undef, undef, undef, undef, undef, undef, undef, undef, .bool true, .pointer (some ⟨w.heap.size, 0, none⟩), .int .i64 a0, .pointer (some ⟨w.heap.size + 1, 0, none⟩), .int .i64 a1, undef, .pointer (some ⟨w.heap.size, 1, none⟩), .int .i64 b0, .pointer (some ⟨w.heap.size + 1, 1, none⟩), .int .i64 b1, undef, .pointer (some ⟨w.heap.size, 2, none⟩), .int .i64 c0, .pointer (some ⟨w.heap.size + 1, 2, none⟩), .int .i64 c1, undef, undef, undef, undef, undef, undef, undef, undef, undef, undef, undef, undef, undef, undef, undef, undef, undef, undef, undef, undef, undef, undef, undef, undef, undef, undef, undef, undef, undef, undef, undef, undef, undef, undef, undef, undef, undef, undef, undef, undef, undef, undef, undef, undef, undef, undef, undef, undef, undef, undef, undef, undef, undef, undef, undef, undef, undef, undef, undef, undef, undef, undef, undef, undef, undef, undef, undef, undef, undef, undef, undef, undef, undef, undef, undef, undef, undef, undef, undef, undef, undef, undef, undef, undef, undef, undef, undef, undef, undef, undef, undef, undef, undef, undef, undef, undef, undef, undef, undef, undef, undef, undef, undef, undef, undef, undef, undef, undef, undef, undef, undef, undef, undef, undef, undef, undef], defers := [] } : Act) V := by
  subst hl
  refine wpAnyH_ready (rs := [4, 15, 16]) (by kernel_rfl) (by simp) ?_
  refine AllReadyH.cons (o := { dst := some 28, op := Op.call { callee := Callee.value (Operand.func 23), args := #[Operand.tmp 25, Operand.tmp 27], argTypes := #[3, 3] }, type := 31, pos := "law.go:109", after := #[{ on := 1, ground := Ground.data }, { on := 3, ground := Ground.data }], guard := none }) (by kernel_rfl) (fun K hK => ?_) ?_
  · go_simp
    go_at_call 23
    refine (made_eq _ _ _).mono ?_
    rintro e w' ⟨rfl, rfl⟩
    dsimp only
    have hb : Below V.heap.size V ((V.alloc (.cells #[.int .i64 (FP.madeN a0 a1), .int .i64 (FP.madeD a0 a1)] 31)).drew) := (balloc (Below.refl _ V) _).drew
    refine hK.out _ _ ?_ (fun hHeld => ?_)
    · exact KS _ (bnext hV hb)
    clear hK K
    (try simp only [Act.put, List.setIfInBounds_toArray, List.set_cons_zero, List.set_cons_succ])
    exact nd1_8 w w1 a0 b0 c0 a1 b1 c1 KS H _ _ (by kernel_rfl) (bnext hV hb) g8 l8 (z8.keep hb)
  refine AllReadyH.cons (o := { dst := some 6, op := Op.alloc 31, type := 0, pos := "law.go:109", after := #[], guard := none }) (by kernel_rfl) (fun K hK => ?_) ?_
  · go_simp
    have hb : Below V.heap.size V (V.alloc (.cells #[.int .i64 0, .int .i64 0] 31)) := balloc (Below.refl _ V) _
    refine hK.out _ _ ?_ (fun hHeld => ?_)
    · exact KS _ (bnext hV hb)
    clear hK K
    (try simp only [Act.put, List.setIfInBounds_toArray, List.set_cons_zero, List.set_cons_succ])
    exact nd0_68 w w1 a0 b0 c0 a1 b1 c1 KS H _ _ (by kernel_rfl) (bnext hV hb) V.heap.size hV.size (Zr.new V) g8 l8 (z8.keep hb) (Nat.ne_of_gt z8.lt)
  refine AllReadyH.cons (o := { dst := some 7, op := Op.alloc 31, type := 0, pos := "law.go:109", after := #[], guard := none }) (by kernel_rfl) (fun K hK => ?_) ?_
  · go_simp
    have hb : Below V.heap.size V (V.alloc (.cells #[.int .i64 0, .int .i64 0] 31)) := balloc (Below.refl _ V) _
    refine hK.out _ _ ?_ (fun hHeld => ?_)
    · exact KS _ (bnext hV hb)
    clear hK K
    (try simp only [Act.put, List.setIfInBounds_toArray, List.set_cons_zero, List.set_cons_succ])
    exact nd0_78 w w1 a0 b0 c0 a1 b1 c1 KS H _ _ (by kernel_rfl) (bnext hV hb) V.heap.size hV.size (Zr.new V) g8 l8 (z8.keep hb) (Nat.ne_of_gt z8.lt)
  exact AllReadyH.nil
set_option maxHeartbeats 4000000 in
theorem nd0_ (V : World) (listed : Array Bool) (hl : listed = #[true, true, true, true, false, true, true, true, true, false, true, true, true, true, false, false, false, false, false, false, false]) (hV : Below w1.heap.size w1 V) : wpAnyH Try.prog .any OPS Q (CellsAt w w1 a0 b0 c0 a1 b1 c1) 9 listed ({ tmps := #[.agg #[.int .i64 a0, .int .i64 b0, .int .i64 c0], .agg #[.int .i64 a1, .int .i64 b1, .int .i64 c1], .pointer (some ⟨w.heap.size, 0, none⟩), .pointer (some ⟨w.heap.size + 1, 0, none⟩), .bool false, .bool true, undef, undef, undef, undef, undef, undef, undef, undef, undef, undef, undef, undef, undef, undef, undef, undef, undef, .bool true, .pointer (some ⟨w.heap.size, 0, none⟩), .int .i64 a0, .pointer (some ⟨w.heap.size + 1, 0, none⟩), .int .i64 a1, undef, .pointer (some ⟨w.heap.size, 1, none⟩), .int .i64 b0, .pointer (some ⟨w.heap.size + 1, 1, none⟩), .int .i64 b1, undef, .pointer (some ⟨w.heap.size, 2, none⟩), .int .i64 c0, .pointer (some ⟨w.heap.size + 1, 2, none⟩), .int .i64 c1, undef, undef, undef, undef, undef, undef, undef, undef, undef, undef, undef, undef, undef, undef, undef, undef, undef, undef, undef, undef, undef, undef, undef, undef, undef, undef, undef, undef, undef, undef, undef, undef, undef, undef, undef, undef, undef, undef, undef, undef, undef, undef, undef, undef, undef, undef, undef, undef, undef, undef, undef, undef, undef, undef, undef, undef, undef, undef, undef, undef, undef, undef, undef, undef, undef, undef, undef, undef, undef, undef, undef, undef, undef, undef, undef, undef, undef, undef, undef, undef, undef, undef, undef, undef, undef, undef, undef, undef, undef, undef, undef, undef, undef, undef, undef, undef, undef, undef, undef, undef, undef, undef, undef, undef, undef, undef, undef, undef, undef, undef, undef, undef, undef, undef, undef, undef], defers := [] } : Act) V := by
  subst hl
  refine wpAnyH_ready (rs := [4, 15, 16, 17]) (by kernel_rfl) (by simp) ?_
  refine AllReadyH.cons (o := { dst := some 28, op := Op.call { callee := Callee.value (Operand.func 23), args := #[Operand.tmp 25, Operand.tmp 27], argTypes := #[3, 3] }, type := 31, pos := "law.go:109", after := #[{ on := 1, ground := Ground.data }, { on := 3, ground := Ground.data }], guard := none }) (by kernel_rfl) (fun K hK => ?_) ?_
  · go_simp
    go_at_call 23
    refine (made_eq _ _ _).mono ?_
    rintro e w' ⟨rfl, rfl⟩
    dsimp only
    have hb : Below V.heap.size V ((V.alloc (.cells #[.int .i64 (FP.madeN a0 a1), .int .i64 (FP.madeD a0 a1)] 31)).drew) := (balloc (Below.refl _ V) _).drew
    refine hK.out _ _ ?_ (fun hHeld => ?_)
    · exact KS _ (bnext hV hb)
    clear hK K
    (try simp only [Act.put, List.setIfInBounds_toArray, List.set_cons_zero, List.set_cons_succ])
    exact nd1_ w w1 a0 b0 c0 a1 b1 c1 KS H _ _ (by kernel_rfl) (bnext hV hb)
  refine AllReadyH.cons (o := { dst := some 6, op := Op.alloc 31, type := 0, pos := "law.go:109", after := #[], guard := none }) (by kernel_rfl) (fun K hK => ?_) ?_
  · go_simp
    have hb : Below V.heap.size V (V.alloc (.cells #[.int .i64 0, .int .i64 0] 31)) := balloc (Below.refl _ V) _
    refine hK.out _ _ ?_ (fun hHeld => ?_)
    · exact KS _ (bnext hV hb)
    clear hK K
    (try simp only [Act.put, List.setIfInBounds_toArray, List.set_cons_zero, List.set_cons_succ])
    exact nd0_6 w w1 a0 b0 c0 a1 b1 c1 KS H _ _ (by kernel_rfl) (bnext hV hb) V.heap.size hV.size (Zr.new V)
  refine AllReadyH.cons (o := { dst := some 7, op := Op.alloc 31, type := 0, pos := "law.go:109", after := #[], guard := none }) (by kernel_rfl) (fun K hK => ?_) ?_
  · go_simp
    have hb : Below V.heap.size V (V.alloc (.cells #[.int .i64 0, .int .i64 0] 31)) := balloc (Below.refl _ V) _
    refine hK.out _ _ ?_ (fun hHeld => ?_)
    · exact KS _ (bnext hV hb)
    clear hK K
    (try simp only [Act.put, List.setIfInBounds_toArray, List.set_cons_zero, List.set_cons_succ])
    exact nd0_7 w w1 a0 b0 c0 a1 b1 c1 KS H _ _ (by kernel_rfl) (bnext hV hb) V.heap.size hV.size (Zr.new V)
  refine AllReadyH.cons (o := { dst := some 8, op := Op.alloc 31, type := 0, pos := "law.go:109", after := #[], guard := none }) (by kernel_rfl) (fun K hK => ?_) ?_
  · go_simp
    have hb : Below V.heap.size V (V.alloc (.cells #[.int .i64 0, .int .i64 0] 31)) := balloc (Below.refl _ V) _
    refine hK.out _ _ ?_ (fun hHeld => ?_)
    · exact KS _ (bnext hV hb)
    clear hK K
    (try simp only [Act.put, List.setIfInBounds_toArray, List.set_cons_zero, List.set_cons_succ])
    exact nd0_8 w w1 a0 b0 c0 a1 b1 c1 KS H _ _ (by kernel_rfl) (bnext hV hb) V.heap.size hV.size (Zr.new V)
  exact AllReadyH.nil
end Go.Proofs.Ytbjikilhfnbniaa.fixScalars
