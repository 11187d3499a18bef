/- Counting a key. No conditions. -/
import Derived.Test.YtmnajongifdajaaMem6
import Derived.Test.YtmnajongifdajaaLast
namespace Go.Proofs.Ytmnajongifdajaa
set_option maxRecDepth 100000
set_option linter.unusedVariables false
open Go.RowKit
abbrev enV (e : En) : Value := .agg #[.int .i64 e.f, .int .i64 e.k, .int .i64 e.n, .int .i64 e.r, .int .i64 e.size, .bool e.pin]
set_option maxHeartbeats 4000000 in
theorem count_any (W : World) (M root : Nat) (bu us pn sg : Int) (mp : Value) (e : En) (h : Mm W M bu us pn mp root) (hs : sg = 1 ∨ sg = -1) (h0 : 0 ≤ e.size) (h1 : e.size ≤ 65536) (hu0 : -1000000000000 ≤ us) (hu1 : us ≤ 1000000000000) (hp0 : -1000000000000 ≤ pn) (hp1 : pn ≤ 1000000000000) :
    Calls Try.prog 30 #[ptr M, enV e, .int .i64 sg] W fun x w' => x = .returned (.tuple #[]) ∧ Mm w' M bu (us + sg * e.size) (if e.pin then pn + sg * e.size else pn) mp root ∧ FrS (fun b => b = M) W w' := by
  obtain ⟨d, hd⟩ : ∃ d, sg * e.size = d := ⟨_, rfl⟩
  have hdb : -65536 ≤ d ∧ d ≤ 65536 := by rcases hs with rfl | rfl <;> omega
  clear hs
  have hw1 : IntKind.i64.wrap d = d := IntWalk.i64_in _ (by omega)
  have hw2 : IntKind.i64.wrap (us + d) = us + d := IntWalk.i64_in _ (by omega)
  have hw3 : IntKind.i64.wrap (pn + d) = pn + d := IntWalk.i64_in _ (by omega)
  obtain ⟨X, hX⟩ : ∃ X, W.heap.size = X := ⟨_, rfl⟩
  have hx := heap_alloc_new W (.cells #[.int .i64 e.f, .int .i64 e.k, .int .i64 e.n, .int .i64 e.r, .int .i64 e.size, .bool e.pin] 73)
  have hf0 : FrS (fun b => b = M) W (W.alloc (.cells #[.int .i64 e.f, .int .i64 e.k, .int .i64 e.n, .int .i64 e.r, .int .i64 e.size, .bool e.pin] 73)) := FrS.alloc _ _
  have hk1 := h.kept (S := fun _ => False) (FrS.alloc W (.cells #[.int .i64 e.f, .int .i64 e.k, .int .i64 e.n, .int .i64 e.r, .int .i64 e.size, .bool e.pin] 73)) (fun x => x)
  have hMX : M ≠ X := by have := h.lt; omega
  obtain ⟨W1, hW1⟩ : ∃ W1, W.alloc (.cells #[.int .i64 e.f, .int .i64 e.k, .int .i64 e.n, .int .i64 e.r, .int .i64 e.size, .bool e.pin] 73) = W1 := ⟨_, rfl⟩
  rw [hW1] at hx hf0 hk1
  rw [hX] at hx
  obtain ⟨c0, c1, c2, c3, c4⟩ := hk1.cells
  have g1 := hk1.frozen 1
  have x4 : W1.cell? ⟨X, 4, none⟩ = some (.int .i64 e.size) := nd_cell hx rfl
  go_enter Try.func30, Try.ntmps30
  go_upto_region 1 with fail
  try rw [hW1]
  try rw [hX]
  clear hW1 hX
  refine wp_region_last #[{ dst := some 6, op := Op.move (Operand.tmp 0), type := 24, pos := "memory.go:46", after := #[], guard := none }, { dst := some 7, op := Op.nilCheck (Operand.tmp 6), type := 0, pos := "memory.go:46", after := #[{ on := 0, ground := Ground.data }], guard := none }, { dst := some 8, op := Op.fieldAddr 65 (Operand.tmp 7) 1, type := 0, pos := "memory.go:46", after := #[{ on := 1, ground := Ground.data }], guard := none }, { dst := some 9, op := Op.load 3 (Operand.tmp 8), type := 3, pos := "memory.go:46", after := #[{ on := 2, ground := Ground.data }], guard := none }, { dst := some 10, op := Op.move (Operand.tmp 2), type := 3, pos := "memory.go:46", after := #[], guard := none }, { dst := some 11, op := Op.fieldAddr 73 (Operand.tmp 4) 1, type := 0, pos := "memory.go:46", after := #[], guard := none }, { dst := some 12, op := Op.load 3 (Operand.tmp 11), type := 3, pos := "memory.go:46", after := #[{ on := 5, ground := Ground.data }], guard := none }, { dst := some 13, op := Op.binOp BinOp.mul 3 (Operand.tmp 10) (Operand.tmp 12) 3, type := 3, pos := "memory.go:46", after := #[{ on := 4, ground := Ground.data }, { on := 6, ground := Ground.data }], guard := none }, { dst := some 14, op := Op.binOp BinOp.add 3 (Operand.tmp 9) (Operand.tmp 13) 3, type := 3, pos := "memory.go:46", after := #[{ on := 3, ground := Ground.data }, { on := 7, ground := Ground.data }], guard := none }, { dst := some 15, op := Op.nilCheck (Operand.tmp 6), type := 0, pos := "memory.go:46", after := #[{ on := 0, ground := Ground.data }, { on := 0, ground := Ground.phase }, { on := 1, ground := Ground.phase }, { on := 2, ground := Ground.phase }, { on := 3, ground := Ground.phase }, { on := 4, ground := Ground.phase }, { on := 5, ground := Ground.phase }, { on := 6, ground := Ground.phase }, { on := 7, ground := Ground.phase }, { on := 8, ground := Ground.phase }], guard := none }, { dst := some 16, op := Op.fieldAddr 65 (Operand.tmp 15) 1, type := 0, pos := "memory.go:46", after := #[{ on := 9, ground := Ground.data }, { on := 0, ground := Ground.phase }, { on := 1, ground := Ground.phase }, { on := 2, ground := Ground.phase }, { on := 3, ground := Ground.phase }, { on := 4, ground := Ground.phase }, { on := 5, ground := Ground.phase }, { on := 6, ground := Ground.phase }, { on := 7, ground := Ground.phase }, { on := 8, ground := Ground.phase }], guard := none }] { dst := none, op := Op.store 3 (Operand.tmp 16) (Operand.tmp 14), type := 0, pos := "memory.go:46", after := #[{ on := 10, ground := Ground.data }, { on := 8, ground := Ground.data }, { on := 0, ground := Ground.phase }, { on := 1, ground := Ground.phase }, { on := 2, ground := Ground.phase }, { on := 3, ground := Ground.phase }, { on := 4, ground := Ground.phase }, { on := 5, ground := Ground.phase }, { on := 6, ground := Ground.phase }, { on := 7, ground := Ground.phase }, { on := 8, ground := Ground.phase }], guard := none } rfl (by kernel_rfl) (by kernel_rfl) (fun w' => w'.cell? ⟨M, 1, none⟩ = some (.int .i64 us) ∧ w'.cell? ⟨X, 4, none⟩ = some (.int .i64 e.size)) ?_ (fun hHeld => ?_)
  · exact ⟨c1, x4⟩
  refine wpAnyH_take (i := 0) (oi := { dst := some 6, op := Op.move (Operand.tmp 0), type := 24, pos := "memory.go:46", after := #[], guard := none }) (v := ?_) rfl (by kernel_rfl) (by kernel_rfl) (by kernel_rfl) (fun _ _ _ h => h) (Or.inl ⟨by rfl, ?_⟩) (by assumption) ?_
  rotate_left
  · ((intro w hSw; (try dsimp only at hSw); go_simp; (try rw [if_neg (by omega)])); try with_reducible rfl)
  (try simp only [Act.put, List.setIfInBounds_toArray, List.set_cons_zero, List.set_cons_succ])
  refine wpAnyH_take (i := 4) (oi := { dst := some 10, op := Op.move (Operand.tmp 2), type := 3, pos := "memory.go:46", after := #[], guard := none }) (v := ?_) rfl (by kernel_rfl) (by kernel_rfl) (by kernel_rfl) (fun _ _ _ h => h) (Or.inl ⟨by rfl, ?_⟩) (by assumption) ?_
  rotate_left
  · ((intro w hSw; (try dsimp only at hSw); go_simp; (try rw [if_neg (by omega)])); try with_reducible rfl)
  (try simp only [Act.put, List.setIfInBounds_toArray, List.set_cons_zero, List.set_cons_succ])
  refine wpAnyH_take (i := 5) (oi := { dst := some 11, op := Op.fieldAddr 73 (Operand.tmp 4) 1, type := 0, pos := "memory.go:46", after := #[], guard := none }) (v := ?_) rfl (by kernel_rfl) (by kernel_rfl) (by kernel_rfl) (fun _ _ _ h => h) (Or.inl ⟨by rfl, ?_⟩) (by assumption) ?_
  rotate_left
  · ((intro w hSw; (try dsimp only at hSw); go_simp; (try rw [if_neg (by omega)])); try with_reducible rfl)
  (try simp only [Act.put, List.setIfInBounds_toArray, List.set_cons_zero, List.set_cons_succ])
  refine wpAnyH_take (i := 6) (oi := { dst := some 12, op := Op.load 3 (Operand.tmp 11), type := 3, pos := "memory.go:46", after := #[{ on := 5, ground := Ground.data }], guard := none }) (v := ?_) rfl (by kernel_rfl) (by kernel_rfl) (by kernel_rfl) (fun _ _ _ h => h) (Or.inl ⟨by rfl, ?_⟩) (by assumption) ?_
  rotate_left
  · ((intro w hSw; (try dsimp only at hSw); go_simp; (try rw [if_neg (by omega)])); try with_reducible rfl)
  (try simp only [Act.put, List.setIfInBounds_toArray, List.set_cons_zero, List.set_cons_succ])
  refine wpAnyH_take (i := 7) (oi := { dst := some 13, op := Op.binOp BinOp.mul 3 (Operand.tmp 10) (Operand.tmp 12) 3, type := 3, pos := "memory.go:46", after := #[{ on := 4, ground := Ground.data }, { on := 6, ground := Ground.data }], guard := none }) (v := ?_) rfl (by kernel_rfl) (by kernel_rfl) (by kernel_rfl) (fun _ _ _ h => h) (Or.inl ⟨by rfl, ?_⟩) (by assumption) ?_
  rotate_left
  · ((intro w hSw; (try dsimp only at hSw); go_simp; (try rw [if_neg (by omega)])); try with_reducible rfl)
  (try simp only [Act.put, List.setIfInBounds_toArray, List.set_cons_zero, List.set_cons_succ])
  refine wpAnyH_ready (rs := [1]) (by kernel_rfl) (by simp) ?_
  refine AllReadyH.cons (o := { dst := some 7, op := Op.nilCheck (Operand.tmp 6), type := 0, pos := "memory.go:46", after := #[{ on := 0, ground := Ground.data }], guard := none }) rfl (fun K hK => ?_) AllReadyH.nil
  go_simp
  refine hK.out _ _ ?_ (fun hHeld => ?_)
  · exact ⟨c1, x4⟩
  clear hK K
  (try simp only [Act.put, List.setIfInBounds_toArray, List.set_cons_zero, List.set_cons_succ])
  refine wpAnyH_take (i := 2) (oi := { dst := some 8, op := Op.fieldAddr 65 (Operand.tmp 7) 1, type := 0, pos := "memory.go:46", after := #[{ on := 1, ground := Ground.data }], guard := none }) (v := ?_) rfl (by kernel_rfl) (by kernel_rfl) (by kernel_rfl) (fun _ _ _ h => h) (Or.inl ⟨by rfl, ?_⟩) (by assumption) ?_
  rotate_left
  · ((intro w hSw; (try dsimp only at hSw); go_simp; (try rw [if_neg (by omega)])); try with_reducible rfl)
  (try simp only [Act.put, List.setIfInBounds_toArray, List.set_cons_zero, List.set_cons_succ])
  refine wpAnyH_take (i := 3) (oi := { dst := some 9, op := Op.load 3 (Operand.tmp 8), type := 3, pos := "memory.go:46", after := #[{ on := 2, ground := Ground.data }], guard := none }) (v := ?_) rfl (by kernel_rfl) (by kernel_rfl) (by kernel_rfl) (fun _ _ _ h => h) (Or.inl ⟨by rfl, ?_⟩) (by assumption) ?_
  rotate_left
  · ((intro w hSw; (try dsimp only at hSw); go_simp; (try rw [if_neg (by omega)])); try with_reducible rfl)
  (try simp only [Act.put, List.setIfInBounds_toArray, List.set_cons_zero, List.set_cons_succ])
  refine wpAnyH_take (i := 8) (oi := { dst := some 14, op := Op.binOp BinOp.add 3 (Operand.tmp 9) (Operand.tmp 13) 3, type := 3, pos := "memory.go:46", after := #[{ on := 3, ground := Ground.data }, { on := 7, ground := Ground.data }], guard := none }) (v := ?_) rfl (by kernel_rfl) (by kernel_rfl) (by kernel_rfl) (fun _ _ _ h => h) (Or.inl ⟨by rfl, ?_⟩) (by assumption) ?_
  rotate_left
  · ((intro w hSw; (try dsimp only at hSw); go_simp; (try rw [if_neg (by omega)])); try with_reducible rfl)
  (try simp only [Act.put, List.setIfInBounds_toArray, List.set_cons_zero, List.set_cons_succ])
  refine wpAnyH_ready (rs := [9]) (by kernel_rfl) (by simp) ?_
  refine AllReadyH.cons (o := { dst := some 15, op := Op.nilCheck (Operand.tmp 6), type := 0, pos := "memory.go:46", after := #[{ on := 0, ground := Ground.data }, { on := 0, ground := Ground.phase }, { on := 1, ground := Ground.phase }, { on := 2, ground := Ground.phase }, { on := 3, ground := Ground.phase }, { on := 4, ground := Ground.phase }, { on := 5, ground := Ground.phase }, { on := 6, ground := Ground.phase }, { on := 7, ground := Ground.phase }, { on := 8, ground := Ground.phase }], guard := none }) rfl (fun K hK => ?_) AllReadyH.nil
  go_simp
  refine hK.out _ _ ?_ (fun hHeld => ?_)
  · exact ⟨c1, x4⟩
  clear hK K
  (try simp only [Act.put, List.setIfInBounds_toArray, List.set_cons_zero, List.set_cons_succ])
  refine wpAnyH_take (i := 10) (oi := { dst := some 16, op := Op.fieldAddr 65 (Operand.tmp 15) 1, type := 0, pos := "memory.go:46", after := #[{ on := 9, ground := Ground.data }, { on := 0, ground := Ground.phase }, { on := 1, ground := Ground.phase }, { on := 2, ground := Ground.phase }, { on := 3, ground := Ground.phase }, { on := 4, ground := Ground.phase }, { on := 5, ground := Ground.phase }, { on := 6, ground := Ground.phase }, { on := 7, ground := Ground.phase }, { on := 8, ground := Ground.phase }], guard := none }) (v := ?_) rfl (by kernel_rfl) (by kernel_rfl) (by kernel_rfl) (fun _ _ _ h => h) (Or.inl ⟨by rfl, ?_⟩) (by assumption) ?_
  rotate_left
  · ((intro w hSw; (try dsimp only at hSw); go_simp; (try rw [if_neg (by omega)])); try with_reducible rfl)
  (try simp only [Act.put, List.setIfInBounds_toArray, List.set_cons_zero, List.set_cons_succ])
  refine wpAnyH_done (by kernel_rfl) ?_ _
  show Oper.wp _ _ _ _ _ _
  have c1' : W1.drew.cell? ⟨M, 1, none⟩ = some (.int .i64 us) := c1
  have g1' : W1.drew.frozen? ⟨M, 1, none⟩ = false := g1
  go_upto_region 2 with fail
  obtain ⟨W2, hW2⟩ : ∃ W2, (W1.setCell ⟨M, 1, none⟩ (.int .i64 (us + d))).drew = W2 := ⟨_, rfl⟩
  have hm2 : Mm W2 M bu (us + d) pn mp root := by rw [← hW2]; exact hk1.set1 (us + d)
  have hf2 : FrS (fun b => b = M) W W2 := by rw [← hW2]; exact (hf0.trans (FrS.set (S := fun b => b = M) _ (b := M) rfl _)).trans (FrS.drew _)
  have hx2 : W2.heap[X]? = some (.cells #[.int .i64 e.f, .int .i64 e.k, .int .i64 e.n, .int .i64 e.r, .int .i64 e.size, .bool e.pin] 73 (0, 0)) := by
    rw [← hW2]
    exact (Below.heap_setCell W1 ⟨M, 1, none⟩ _ X hMX.symm).trans hx
  try rw [hW2]
  clear hW2 c0 c1 c2 c3 c4 g1 x4 c1' g1'
  obtain ⟨c0, c1, c2, c3, c4⟩ := hm2.cells
  have g1 := hm2.frozen 2
  have x4 : W2.cell? ⟨X, 4, none⟩ = some (.int .i64 e.size) := nd_cell hx2 rfl
  have x5 : W2.cell? ⟨X, 5, none⟩ = some (.bool e.pin) := nd_cell hx2 rfl
  rcases hpin : e.pin with _ | _
  · rw [hpin] at x5
    go_wp2
    all_goals
      go_end0
      exact ⟨rfl, hm2, hf2⟩
  · rw [hpin] at x5
    go_upto_region 3 with fail
    refine wp_region_last #[{ dst := some 19, op := Op.move (Operand.tmp 0), type := 24, pos := "memory.go:48", after := #[], guard := none }, { dst := some 20, op := Op.nilCheck (Operand.tmp 19), type := 0, pos := "memory.go:48", after := #[{ on := 0, ground := Ground.data }], guard := none }, { dst := some 21, op := Op.fieldAddr 65 (Operand.tmp 20) 2, type := 0, pos := "memory.go:48", after := #[{ on := 1, ground := Ground.data }], guard := none }, { dst := some 22, op := Op.load 3 (Operand.tmp 21), type := 3, pos := "memory.go:48", after := #[{ on := 2, ground := Ground.data }], guard := none }, { dst := some 23, op := Op.move (Operand.tmp 2), type := 3, pos := "memory.go:48", after := #[], guard := none }, { dst := some 24, op := Op.fieldAddr 73 (Operand.tmp 4) 1, type := 0, pos := "memory.go:48", after := #[], guard := none }, { dst := some 25, op := Op.load 3 (Operand.tmp 24), type := 3, pos := "memory.go:48", after := #[{ on := 5, ground := Ground.data }], guard := none }, { dst := some 26, op := Op.binOp BinOp.mul 3 (Operand.tmp 23) (Operand.tmp 25) 3, type := 3, pos := "memory.go:48", after := #[{ on := 4, ground := Ground.data }, { on := 6, ground := Ground.data }], guard := none }, { dst := some 27, op := Op.binOp BinOp.add 3 (Operand.tmp 22) (Operand.tmp 26) 3, type := 3, pos := "memory.go:48", after := #[{ on := 3, ground := Ground.data }, { on := 7, ground := Ground.data }], guard := none }, { dst := some 28, op := Op.nilCheck (Operand.tmp 19), type := 0, pos := "memory.go:48", after := #[{ on := 0, ground := Ground.data }, { on := 0, ground := Ground.phase }, { on := 1, ground := Ground.phase }, { on := 2, ground := Ground.phase }, { on := 3, ground := Ground.phase }, { on := 4, ground := Ground.phase }, { on := 5, ground := Ground.phase }, { on := 6, ground := Ground.phase }, { on := 7, ground := Ground.phase }, { on := 8, ground := Ground.phase }], guard := none }, { dst := some 29, op := Op.fieldAddr 65 (Operand.tmp 28) 2, type := 0, pos := "memory.go:48", after := #[{ on := 9, ground := Ground.data }, { on := 0, ground := Ground.phase }, { on := 1, ground := Ground.phase }, { on := 2, ground := Ground.phase }, { on := 3, ground := Ground.phase }, { on := 4, ground := Ground.phase }, { on := 5, ground := Ground.phase }, { on := 6, ground := Ground.phase }, { on := 7, ground := Ground.phase }, { on := 8, ground := Ground.phase }], guard := none }] { dst := none, op := Op.store 3 (Operand.tmp 29) (Operand.tmp 27), type := 0, pos := "memory.go:48", after := #[{ on := 10, ground := Ground.data }, { on := 8, ground := Ground.data }, { on := 0, ground := Ground.phase }, { on := 1, ground := Ground.phase }, { on := 2, ground := Ground.phase }, { on := 3, ground := Ground.phase }, { on := 4, ground := Ground.phase }, { on := 5, ground := Ground.phase }, { on := 6, ground := Ground.phase }, { on := 7, ground := Ground.phase }, { on := 8, ground := Ground.phase }], guard := none } rfl (by kernel_rfl) (by kernel_rfl) (fun w' => w'.cell? ⟨M, 2, none⟩ = some (.int .i64 pn) ∧ w'.cell? ⟨X, 4, none⟩ = some (.int .i64 e.size)) ?_ (fun hHeld => ?_)
    · exact ⟨c2, x4⟩
    refine wpAnyH_take (i := 0) (oi := { dst := some 19, op := Op.move (Operand.tmp 0), type := 24, pos := "memory.go:48", after := #[], guard := none }) (v := ?_) rfl (by kernel_rfl) (by kernel_rfl) (by kernel_rfl) (fun _ _ _ h => h) (Or.inl ⟨by rfl, ?_⟩) (by assumption) ?_
    rotate_left
    · ((intro w hSw; (try dsimp only at hSw); go_simp; (try rw [if_neg (by omega)])); try with_reducible rfl)
    (try simp only [Act.put, List.setIfInBounds_toArray, List.set_cons_zero, List.set_cons_succ])
    refine wpAnyH_take (i := 4) (oi := { dst := some 23, op := Op.move (Operand.tmp 2), type := 3, pos := "memory.go:48", after := #[], guard := none }) (v := ?_) rfl (by kernel_rfl) (by kernel_rfl) (by kernel_rfl) (fun _ _ _ h => h) (Or.inl ⟨by rfl, ?_⟩) (by assumption) ?_
    rotate_left
    · ((intro w hSw; (try dsimp only at hSw); go_simp; (try rw [if_neg (by omega)])); try with_reducible rfl)
    (try simp only [Act.put, List.setIfInBounds_toArray, List.set_cons_zero, List.set_cons_succ])
    refine wpAnyH_take (i := 5) (oi := { dst := some 24, op := Op.fieldAddr 73 (Operand.tmp 4) 1, type := 0, pos := "memory.go:48", after := #[], guard := none }) (v := ?_) rfl (by kernel_rfl) (by kernel_rfl) (by kernel_rfl) (fun _ _ _ h => h) (Or.inl ⟨by rfl, ?_⟩) (by assumption) ?_
    rotate_left
    · ((intro w hSw; (try dsimp only at hSw); go_simp; (try rw [if_neg (by omega)])); try with_reducible rfl)
    (try simp only [Act.put, List.setIfInBounds_toArray, List.set_cons_zero, List.set_cons_succ])
    refine wpAnyH_take (i := 6) (oi := { dst := some 25, op := Op.load 3 (Operand.tmp 24), type := 3, pos := "memory.go:48", after := #[{ on := 5, ground := Ground.data }], guard := none }) (v := ?_) rfl (by kernel_rfl) (by kernel_rfl) (by kernel_rfl) (fun _ _ _ h => h) (Or.inl ⟨by rfl, ?_⟩) (by assumption) ?_
    rotate_left
    · ((intro w hSw; (try dsimp only at hSw); go_simp; (try rw [if_neg (by omega)])); try with_reducible rfl)
    (try simp only [Act.put, List.setIfInBounds_toArray, List.set_cons_zero, List.set_cons_succ])
    refine wpAnyH_take (i := 7) (oi := { dst := some 26, op := Op.binOp BinOp.mul 3 (Operand.tmp 23) (Operand.tmp 25) 3, type := 3, pos := "memory.go:48", after := #[{ on := 4, ground := Ground.data }, { on := 6, ground := Ground.data }], guard := none }) (v := ?_) rfl (by kernel_rfl) (by kernel_rfl) (by kernel_rfl) (fun _ _ _ h => h) (Or.inl ⟨by rfl, ?_⟩) (by assumption) ?_
    rotate_left
    · ((intro w hSw; (try dsimp only at hSw); go_simp; (try rw [if_neg (by omega)])); try with_reducible rfl)
    (try simp only [Act.put, List.setIfInBounds_toArray, List.set_cons_zero, List.set_cons_succ])
    refine wpAnyH_ready (rs := [1]) (by kernel_rfl) (by simp) ?_
    refine AllReadyH.cons (o := { dst := some 20, op := Op.nilCheck (Operand.tmp 19), type := 0, pos := "memory.go:48", after := #[{ on := 0, ground := Ground.data }], guard := none }) rfl (fun K hK => ?_) AllReadyH.nil
    go_simp
    refine hK.out _ _ ?_ (fun hHeld => ?_)
    · exact ⟨c2, x4⟩
    clear hK K
    (try simp only [Act.put, List.setIfInBounds_toArray, List.set_cons_zero, List.set_cons_succ])
    refine wpAnyH_take (i := 2) (oi := { dst := some 21, op := Op.fieldAddr 65 (Operand.tmp 20) 2, type := 0, pos := "memory.go:48", after := #[{ on := 1, ground := Ground.data }], guard := none }) (v := ?_) rfl (by kernel_rfl) (by kernel_rfl) (by kernel_rfl) (fun _ _ _ h => h) (Or.inl ⟨by rfl, ?_⟩) (by assumption) ?_
    rotate_left
    · ((intro w hSw; (try dsimp only at hSw); go_simp; (try rw [if_neg (by omega)])); try with_reducible rfl)
    (try simp only [Act.put, List.setIfInBounds_toArray, List.set_cons_zero, List.set_cons_succ])
    refine wpAnyH_take (i := 3) (oi := { dst := some 22, op := Op.load 3 (Operand.tmp 21), type := 3, pos := "memory.go:48", after := #[{ on := 2, ground := Ground.data }], guard := none }) (v := ?_) rfl (by kernel_rfl) (by kernel_rfl) (by kernel_rfl) (fun _ _ _ h => h) (Or.inl ⟨by rfl, ?_⟩) (by assumption) ?_
    rotate_left
    · ((intro w hSw; (try dsimp only at hSw); go_simp; (try rw [if_neg (by omega)])); try with_reducible rfl)
    (try simp only [Act.put, List.setIfInBounds_toArray, List.set_cons_zero, List.set_cons_succ])
    refine wpAnyH_take (i := 8) (oi := { dst := some 27, op := Op.binOp BinOp.add 3 (Operand.tmp 22) (Operand.tmp 26) 3, type := 3, pos := "memory.go:48", after := #[{ on := 3, ground := Ground.data }, { on := 7, ground := Ground.data }], guard := none }) (v := ?_) rfl (by kernel_rfl) (by kernel_rfl) (by kernel_rfl) (fun _ _ _ h => h) (Or.inl ⟨by rfl, ?_⟩) (by assumption) ?_
    rotate_left
    · ((intro w hSw; (try dsimp only at hSw); go_simp; (try rw [if_neg (by omega)])); try with_reducible rfl)
    (try simp only [Act.put, List.setIfInBounds_toArray, List.set_cons_zero, List.set_cons_succ])
    refine wpAnyH_ready (rs := [9]) (by kernel_rfl) (by simp) ?_
    refine AllReadyH.cons (o := { dst := some 28, op := Op.nilCheck (Operand.tmp 19), type := 0, pos := "memory.go:48", after := #[{ on := 0, ground := Ground.data }, { on := 0, ground := Ground.phase }, { on := 1, ground := Ground.phase }, { on := 2, ground := Ground.phase }, { on := 3, ground := Ground.phase }, { on := 4, ground := Ground.phase }, { on := 5, ground := Ground.phase }, { on := 6, ground := Ground.phase }, { on := 7, ground := Ground.phase }, { on := 8, ground := Ground.phase }], guard := none }) rfl (fun K hK => ?_) AllReadyH.nil
    go_simp
    refine hK.out _ _ ?_ (fun hHeld => ?_)
    · exact ⟨c2, x4⟩
    clear hK K
    (try simp only [Act.put, List.setIfInBounds_toArray, List.set_cons_zero, List.set_cons_succ])
    refine wpAnyH_take (i := 10) (oi := { dst := some 29, op := Op.fieldAddr 65 (Operand.tmp 28) 2, type := 0, pos := "memory.go:48", after := #[{ on := 9, ground := Ground.data }, { on := 0, ground := Ground.phase }, { on := 1, ground := Ground.phase }, { on := 2, ground := Ground.phase }, { on := 3, ground := Ground.phase }, { on := 4, ground := Ground.phase }, { on := 5, ground := Ground.phase }, { on := 6, ground := Ground.phase }, { on := 7, ground := Ground.phase }, { on := 8, ground := Ground.phase }], guard := none }) (v := ?_) rfl (by kernel_rfl) (by kernel_rfl) (by kernel_rfl) (fun _ _ _ h => h) (Or.inl ⟨by rfl, ?_⟩) (by assumption) ?_
    rotate_left
    · ((intro w hSw; (try dsimp only at hSw); go_simp; (try rw [if_neg (by omega)])); try with_reducible rfl)
    (try simp only [Act.put, List.setIfInBounds_toArray, List.set_cons_zero, List.set_cons_succ])
    refine wpAnyH_done (by kernel_rfl) ?_ _
    show Oper.wp _ _ _ _ _ _
    have c1' : W2.drew.cell? ⟨M, 2, none⟩ = some (.int .i64 pn) := c2
    have g1' : W2.drew.frozen? ⟨M, 2, none⟩ = false := g1
    go_wp2
    go_end0
    refine ⟨rfl, ?_, (hf2.trans (FrS.set (S := fun b => b = M) _ (b := M) rfl _)).trans (FrS.drew _)⟩
    exact hm2.set2 (pn + d)
end Go.Proofs.Ytmnajongifdajaa
