/- Memories that are nothing: acts; filled. No conditions. -/
import Derived.Test.YtmnajongifdajaaMem31
namespace Go.Proofs.Ytmnajongifdajaa
set_option maxRecDepth 100000
set_option linter.unusedVariables false
open Go.RowKit Go.Deep ME
set_option maxHeartbeats 8000000 in
theorem do_nil (W : World) (wh nn sz : Int) (hw0 : 0 ≤ wh) (hw1 : wh ≤ 255) (hn0 : 0 ≤ nn) (hn1 : nn ≤ 255) :
    Calls Try.prog 23 #[.pointer none, .pointer none, .agg #[.int .u8 wh, .int .u8 nn, .int .i64 sz]] W fun x w' => x = .returned (.bool true) ∧ Below W.heap.size W w' := by
  obtain ⟨ky, hky⟩ : ∃ ky, kyE (nn % 9) = ky := ⟨_, rfl⟩
  have mixed : Try.prog.follows .mixedOrders = true := by kernel_rfl
  have hb1 := balloc (Below.refl _ W) (.cells #[.int .u8 wh, .int .u8 nn, .int .i64 sz] 37)
  have bx := heap_alloc_new W (.cells #[.int .u8 wh, .int .u8 nn, .int .i64 sz] 37)
  have HKY := Lib.hid fun V => key_any (nn % 9) V (by omega) (by omega)
  rw [hky] at HKY
  have hre : (nn.tmod 9) = nn % 9 := Int.tmod_eq_emod_of_nonneg hn0
  clear hky
  go_enter Try.func23, Try.ntmps23
  go_upto_region 2 with (go_at_call 13; refine (HKY.out _).mono ?_; rintro e w2 ⟨rfl, hb2⟩)
  obtain ⟨X, hX⟩ : ∃ X, w2.heap.size = X := ⟨_, rfl⟩
  have b5 := (hb2.block W.heap.size (by simp)).trans bx
  have hb4 := balloc (Below.refl _ w2) (.cells #[.int .i64 ky.1, .int .i64 ky.2.1, .int .i64 ky.2.2.1, .int .i64 ky.2.2.2] 34)
  have b7 := heap_alloc_new w2 (.cells #[.int .i64 ky.1, .int .i64 ky.2.1, .int .i64 ky.2.2.1, .int .i64 ky.2.2.2] 34)
  obtain ⟨W4, hW4⟩ : ∃ W4, w2.alloc (.cells #[.int .i64 ky.1, .int .i64 ky.2.1, .int .i64 ky.2.2.1, .int .i64 ky.2.2.2] 34) = W4 := ⟨_, rfl⟩
  rw [hW4] at b7 hb4
  rw [hW4]
  rw [hX] at b7
  try rw [hX]
  have hbW := bnext (bnext hb1 hb2) hb4
  have HBW := Lib.hid hbW
  have b54 := (hb4.block W.heap.size (Array.getElem?_eq_some_iff.1 b5).1).trans b5
  have HS : Hid (∀ V, Below W4.heap.size W4 V → (fun w' => w'.cell? ⟨X, 0, none⟩ = some (.int .i64 ky.1) ∧ w'.cell? ⟨X, 1, none⟩ = some (.int .i64 ky.2.1) ∧ w'.cell? ⟨X, 2, none⟩ = some (.int .i64 ky.2.2.1) ∧ w'.cell? ⟨X, 3, none⟩ = some (.int .i64 ky.2.2.2) ∧ w'.cell? ⟨W.heap.size, 2, none⟩ = some (.int .i64 sz)) V) := Lib.hid fun V hV => by
    have q7 := (hV.block X (Array.getElem?_eq_some_iff.1 b7).1).trans b7
    have q5 := (hV.block W.heap.size (Array.getElem?_eq_some_iff.1 b54).1).trans b54
    exact ⟨nd_cell q7 rfl, nd_cell q7 rfl, nd_cell q7 rfl, nd_cell q7 rfl, nd_cell q5 rfl⟩
  have w50 : W4.cell? ⟨W.heap.size, 0, none⟩ = some (.int .u8 wh) := nd_cell b54 rfl
  have hre6 : wh.tmod 6 = wh % 6 := Int.tmod_eq_emod_of_nonneg hw0
  have b4 : Below W4.heap.size W4 W4.drew := Below.drew (Below.refl _ _)
  clear hb1 bx hb2 b5 hb4 b7 hbW b54 hW4 hX HKY
  by_cases h3 : wh % 6 = 3
  · go_upto_region 4 with fail
    clear h3 hre6 w50
    refine wp_region_held_drew (S := (fun w' => w'.cell? ⟨X, 0, none⟩ = some (.int .i64 ky.1) ∧ w'.cell? ⟨X, 1, none⟩ = some (.int .i64 ky.2.1) ∧ w'.cell? ⟨X, 2, none⟩ = some (.int .i64 ky.2.2.1) ∧ w'.cell? ⟨X, 3, none⟩ = some (.int .i64 ky.2.2.2) ∧ w'.cell? ⟨W.heap.size, 2, none⟩ = some (.int .i64 sz))) (by kernel_rfl) ?_ (fun hHeld => ?_)
    · exact HS.out _ b4
    refine wpAnyH_take (i := 0) (oi := { dst := some 22, op := Op.move (Operand.tmp 0), type := 24, pos := "law.go:47", after := #[], guard := none }) (v := ?_) rfl (by kernel_rfl) (by kernel_rfl) (by kernel_rfl) (fun _ _ _ h => h) (Or.inl ⟨by rfl, ?_⟩) (by assumption) ?_
    rotate_left
    · ((intro w hSw; (try dsimp only at hSw); go_simp; (try rw [if_neg (by omega)])); try with_reducible rfl)
    (try simp only [Act.put, List.setIfInBounds_toArray, List.set_cons_zero, List.set_cons_succ])
    refine wpAnyH_take (i := 1) (oi := { dst := some 23, op := Op.load 34 (Operand.tmp 7), type := 34, pos := "law.go:47", after := #[], guard := none }) (v := ?_) rfl (by kernel_rfl) (by kernel_rfl) (by kernel_rfl) (fun _ _ _ h => h) (Or.inl ⟨by rfl, ?_⟩) (by assumption) ?_
    rotate_left
    · ((intro w hSw; (try dsimp only at hSw); go_simp; (try rw [if_neg (by omega)])); try with_reducible rfl)
    (try simp only [Act.put, List.setIfInBounds_toArray, List.set_cons_zero, List.set_cons_succ])
    refine wpAnyH_take (i := 3) (oi := { dst := some 25, op := Op.move (Operand.tmp 1), type := 25, pos := "law.go:47", after := #[], guard := none }) (v := ?_) rfl (by kernel_rfl) (by kernel_rfl) (by kernel_rfl) (fun _ _ _ h => h) (Or.inl ⟨by rfl, ?_⟩) (by assumption) ?_
    rotate_left
    · ((intro w hSw; (try dsimp only at hSw); go_simp; (try rw [if_neg (by omega)])); try with_reducible rfl)
    (try simp only [Act.put, List.setIfInBounds_toArray, List.set_cons_zero, List.set_cons_succ])
    refine wpAnyH_take (i := 4) (oi := { dst := some 26, op := Op.load 34 (Operand.tmp 7), type := 34, pos := "law.go:47", after := #[], guard := none }) (v := ?_) rfl (by kernel_rfl) (by kernel_rfl) (by kernel_rfl) (fun _ _ _ h => h) (Or.inl ⟨by rfl, ?_⟩) (by assumption) ?_
    rotate_left
    · ((intro w hSw; (try dsimp only at hSw); go_simp; (try rw [if_neg (by omega)])); try with_reducible rfl)
    (try simp only [Act.put, List.setIfInBounds_toArray, List.set_cons_zero, List.set_cons_succ])
    refine wpAnyH_ready (rs := [2]) (by kernel_rfl) (by simp) ?_
    refine AllReadyH.cons (o := { dst := some 24, op := Op.call { callee := Callee.value (Operand.func 14), args := #[Operand.tmp 22, Operand.tmp 23], argTypes := #[24, 34] }, type := 4, pos := "law.go:47", after := #[{ on := 0, ground := Ground.data }, { on := 1, ground := Ground.data }], guard := none }) rfl (fun K hK => ?_) ?_
    · (go_simp; go_at_call 14; refine (nuse_any _ (.pointer none) ky (.inl rfl)).mono ?_; rintro x w5 ⟨rfl, b5'⟩; have b5 := bnext b4 b5'; dsimp only)
      refine hK.out _ _ ?_ (fun hHeld => ?_)
      · exact HS.out _ b5
      clear hK K
      (try simp only [Act.put, List.setIfInBounds_toArray, List.set_cons_zero, List.set_cons_succ])
      refine wpAnyH_ready (rs := [5]) (by kernel_rfl) (by simp) ?_
      refine AllReadyH.cons (o := { dst := some 27, op := Op.call { callee := Callee.value (Operand.func 35), args := #[Operand.tmp 25, Operand.tmp 26], argTypes := #[25, 34] }, type := 4, pos := "law.go:47", after := #[{ on := 3, ground := Ground.data }, { on := 4, ground := Ground.data }, { on := 2, ground := Ground.chain }], guard := none }) rfl (fun K hK => ?_) ?_
      · (go_simp; go_at_call 35; refine (rnuse_any _ ky).mono ?_; rintro x w6 ⟨rfl, b6'⟩; have b6 := bnext b5 b6'; dsimp only)
        refine hK.out _ _ ?_ (fun hHeld => ?_)
        · exact HS.out _ b6
        clear hK K
        (try simp only [Act.put, List.setIfInBounds_toArray, List.set_cons_zero, List.set_cons_succ])
        refine wpAnyH_take (i := 6) (oi := { dst := some 28, op := Op.binOp BinOp.eql 4 (Operand.tmp 24) (Operand.tmp 27) 4, type := 4, pos := "law.go:47", after := #[{ on := 2, ground := Ground.data }, { on := 5, ground := Ground.data }], guard := none }) (v := ?_) rfl (by kernel_rfl) (by kernel_rfl) (by kernel_rfl) (fun _ _ _ h => h) (Or.inl ⟨by rfl, ?_⟩) (by assumption) ?_
        rotate_left
        · ((intro w hSw; (try dsimp only at hSw); go_simp; (try rw [if_neg (by omega)])); try with_reducible rfl)
        (try simp only [Act.put, List.setIfInBounds_toArray, List.set_cons_zero, List.set_cons_succ])
        refine wpAnyH_take (i := 7) (oi := { dst := some 6, op := Op.assign (Operand.tmp 28), type := 4, pos := "law.go:47", after := #[{ on := 6, ground := Ground.data }, { on := 5, ground := Ground.chain }, { on := 0, ground := Ground.phase }, { on := 1, ground := Ground.phase }, { on := 2, ground := Ground.phase }, { on := 3, ground := Ground.phase }, { on := 4, ground := Ground.phase }, { on := 5, ground := Ground.phase }, { on := 6, ground := Ground.phase }], guard := none }) (v := ?_) rfl (by kernel_rfl) (by kernel_rfl) (by kernel_rfl) (fun _ _ _ h => h) (Or.inl ⟨by rfl, ?_⟩) (by assumption) ?_
        rotate_left
        · ((intro w hSw; (try dsimp only at hSw); go_simp; (try rw [if_neg (by omega)])); try with_reducible rfl)
        (try simp only [Act.put, List.setIfInBounds_toArray, List.set_cons_zero, List.set_cons_succ])
        refine wpAnyH_done (by kernel_rfl) ?_ _
        have HP := Lib.hid (bnext HBW.out b6)
        clear b5 b6 b5' b6'
        go_wp2
        go_ret
        exact ⟨by simp, HP.out⟩
      exact AllReadyH.nil
    exact AllReadyH.nil
  · by_cases h44 : wh % 6 = 4
    · obtain ⟨on, hon⟩ : ∃ on, decide (sz.tmod 2 = 0) = on := ⟨_, rfl⟩
      have hon2 : (sz.tmod 2 == 0) = on := by rw [← hon]; rfl
      clear hon
      go_upto_region 6 with fail
      clear h3 h44 hre6 w50
      refine wp_region_held_drew (S := (fun w' => w'.cell? ⟨X, 0, none⟩ = some (.int .i64 ky.1) ∧ w'.cell? ⟨X, 1, none⟩ = some (.int .i64 ky.2.1) ∧ w'.cell? ⟨X, 2, none⟩ = some (.int .i64 ky.2.2.1) ∧ w'.cell? ⟨X, 3, none⟩ = some (.int .i64 ky.2.2.2) ∧ w'.cell? ⟨W.heap.size, 2, none⟩ = some (.int .i64 sz))) (by kernel_rfl) ?_ (fun hHeld => ?_)
      · exact HS.out _ b4
      refine wpAnyH_take (i := 0) (oi := { dst := some 31, op := Op.move (Operand.tmp 0), type := 24, pos := "law.go:49", after := #[], guard := none }) (v := ?_) rfl (by kernel_rfl) (by kernel_rfl) (by kernel_rfl) (fun _ _ _ h => h) (Or.inl ⟨by rfl, ?_⟩) (by assumption) ?_
      rotate_left
      · ((intro w hSw; (try dsimp only at hSw); go_simp; (try rw [if_neg (by omega)])); try with_reducible rfl)
      (try simp only [Act.put, List.setIfInBounds_toArray, List.set_cons_zero, List.set_cons_succ])
      refine wpAnyH_take (i := 1) (oi := { dst := some 32, op := Op.load 34 (Operand.tmp 7), type := 34, pos := "law.go:49", after := #[], guard := none }) (v := ?_) rfl (by kernel_rfl) (by kernel_rfl) (by kernel_rfl) (fun _ _ _ h => h) (Or.inl ⟨by rfl, ?_⟩) (by assumption) ?_
      rotate_left
      · ((intro w hSw; (try dsimp only at hSw); go_simp; (try rw [if_neg (by omega)])); try with_reducible rfl)
      (try simp only [Act.put, List.setIfInBounds_toArray, List.set_cons_zero, List.set_cons_succ])
      refine wpAnyH_take (i := 2) (oi := { dst := some 33, op := Op.fieldAddr 37 (Operand.tmp 5) 2, type := 0, pos := "law.go:49", after := #[], guard := none }) (v := ?_) rfl (by kernel_rfl) (by kernel_rfl) (by kernel_rfl) (fun _ _ _ h => h) (Or.inl ⟨by rfl, ?_⟩) (by assumption) ?_
      rotate_left
      · ((intro w hSw; (try dsimp only at hSw); go_simp; (try rw [if_neg (by omega)])); try with_reducible rfl)
      (try simp only [Act.put, List.setIfInBounds_toArray, List.set_cons_zero, List.set_cons_succ])
      refine wpAnyH_take (i := 3) (oi := { dst := some 34, op := Op.load 3 (Operand.tmp 33), type := 3, pos := "law.go:49", after := #[{ on := 2, ground := Ground.data }], guard := none }) (v := ?_) rfl (by kernel_rfl) (by kernel_rfl) (by kernel_rfl) (fun _ _ _ h => h) (Or.inl ⟨by rfl, ?_⟩) (by assumption) ?_
      rotate_left
      · ((intro w hSw; (try dsimp only at hSw); go_simp; (try rw [if_neg (by omega)])); try with_reducible rfl)
      (try simp only [Act.put, List.setIfInBounds_toArray, List.set_cons_zero, List.set_cons_succ])
      refine wpAnyH_take (i := 4) (oi := { dst := some 35, op := Op.binOp BinOp.rem 3 (Operand.tmp 34) (Operand.const (Value.int IntKind.i64 2)) 3, type := 3, pos := "law.go:49", after := #[{ on := 3, ground := Ground.data }], guard := none }) (v := ?_) rfl (by kernel_rfl) (by kernel_rfl) (by kernel_rfl) (fun _ _ _ h => h) (Or.inl ⟨by rfl, ?_⟩) (by assumption) ?_
      rotate_left
      · ((intro w hSw; (try dsimp only at hSw); go_simp; (try rw [if_neg (by omega)])); try with_reducible rfl)
      (try simp only [Act.put, List.setIfInBounds_toArray, List.set_cons_zero, List.set_cons_succ])
      refine wpAnyH_take (i := 5) (oi := { dst := some 36, op := Op.binOp BinOp.eql 3 (Operand.tmp 35) (Operand.const (Value.int IntKind.i64 0)) 3, type := 4, pos := "law.go:49", after := #[{ on := 4, ground := Ground.data }], guard := none }) (v := ?_) rfl (by kernel_rfl) (by kernel_rfl) (by kernel_rfl) (fun _ _ _ h => h) (Or.inl ⟨by rfl, ?_⟩) (by assumption) ?_
      rotate_left
      · ((intro w hSw; (try dsimp only at hSw); go_simp; (try rw [if_neg (by omega)])); try with_reducible rfl)
      (try simp only [Act.put, List.setIfInBounds_toArray, List.set_cons_zero, List.set_cons_succ])
      refine wpAnyH_take (i := 7) (oi := { dst := some 38, op := Op.move (Operand.tmp 1), type := 25, pos := "law.go:49", after := #[], guard := none }) (v := ?_) rfl (by kernel_rfl) (by kernel_rfl) (by kernel_rfl) (fun _ _ _ h => h) (Or.inl ⟨by rfl, ?_⟩) (by assumption) ?_
      rotate_left
      · ((intro w hSw; (try dsimp only at hSw); go_simp; (try rw [if_neg (by omega)])); try with_reducible rfl)
      (try simp only [Act.put, List.setIfInBounds_toArray, List.set_cons_zero, List.set_cons_succ])
      refine wpAnyH_take (i := 8) (oi := { dst := some 39, op := Op.load 34 (Operand.tmp 7), type := 34, pos := "law.go:49", after := #[], guard := none }) (v := ?_) rfl (by kernel_rfl) (by kernel_rfl) (by kernel_rfl) (fun _ _ _ h => h) (Or.inl ⟨by rfl, ?_⟩) (by assumption) ?_
      rotate_left
      · ((intro w hSw; (try dsimp only at hSw); go_simp; (try rw [if_neg (by omega)])); try with_reducible rfl)
      (try simp only [Act.put, List.setIfInBounds_toArray, List.set_cons_zero, List.set_cons_succ])
      refine wpAnyH_take (i := 9) (oi := { dst := some 40, op := Op.fieldAddr 37 (Operand.tmp 5) 2, type := 0, pos := "law.go:49", after := #[], guard := none }) (v := ?_) rfl (by kernel_rfl) (by kernel_rfl) (by kernel_rfl) (fun _ _ _ h => h) (Or.inl ⟨by rfl, ?_⟩) (by assumption) ?_
      rotate_left
      · ((intro w hSw; (try dsimp only at hSw); go_simp; (try rw [if_neg (by omega)])); try with_reducible rfl)
      (try simp only [Act.put, List.setIfInBounds_toArray, List.set_cons_zero, List.set_cons_succ])
      refine wpAnyH_take (i := 10) (oi := { dst := some 41, op := Op.load 3 (Operand.tmp 40), type := 3, pos := "law.go:49", after := #[{ on := 9, ground := Ground.data }], guard := none }) (v := ?_) rfl (by kernel_rfl) (by kernel_rfl) (by kernel_rfl) (fun _ _ _ h => h) (Or.inl ⟨by rfl, ?_⟩) (by assumption) ?_
      rotate_left
      · ((intro w hSw; (try dsimp only at hSw); go_simp; (try rw [if_neg (by omega)])); try with_reducible rfl)
      (try simp only [Act.put, List.setIfInBounds_toArray, List.set_cons_zero, List.set_cons_succ])
      refine wpAnyH_take (i := 11) (oi := { dst := some 42, op := Op.binOp BinOp.rem 3 (Operand.tmp 41) (Operand.const (Value.int IntKind.i64 2)) 3, type := 3, pos := "law.go:49", after := #[{ on := 10, ground := Ground.data }], guard := none }) (v := ?_) rfl (by kernel_rfl) (by kernel_rfl) (by kernel_rfl) (fun _ _ _ h => h) (Or.inl ⟨by rfl, ?_⟩) (by assumption) ?_
      rotate_left
      · ((intro w hSw; (try dsimp only at hSw); go_simp; (try rw [if_neg (by omega)])); try with_reducible rfl)
      (try simp only [Act.put, List.setIfInBounds_toArray, List.set_cons_zero, List.set_cons_succ])
      refine wpAnyH_take (i := 12) (oi := { dst := some 43, op := Op.binOp BinOp.eql 3 (Operand.tmp 42) (Operand.const (Value.int IntKind.i64 0)) 3, type := 4, pos := "law.go:49", after := #[{ on := 11, ground := Ground.data }], guard := none }) (v := ?_) rfl (by kernel_rfl) (by kernel_rfl) (by kernel_rfl) (fun _ _ _ h => h) (Or.inl ⟨by rfl, ?_⟩) (by assumption) ?_
      rotate_left
      · ((intro w hSw; (try dsimp only at hSw); go_simp; (try rw [if_neg (by omega)])); try with_reducible rfl)
      (try simp only [Act.put, List.setIfInBounds_toArray, List.set_cons_zero, List.set_cons_succ])
      refine wpAnyH_ready (rs := [6]) (by kernel_rfl) (by simp) ?_
      refine AllReadyH.cons (o := { dst := some 37, op := Op.call { callee := Callee.value (Operand.func 15), args := #[Operand.tmp 31, Operand.tmp 32, Operand.tmp 36], argTypes := #[24, 34, 4] }, type := 40, pos := "law.go:49", after := #[{ on := 0, ground := Ground.data }, { on := 1, ground := Ground.data }, { on := 5, ground := Ground.data }], guard := none }) rfl (fun K hK => ?_) ?_
      · (go_simp; go_at_call 15; refine (npin_any _ (.pointer none) ky on (.inl rfl)).mono ?_; rintro x w5 ⟨rfl, b5'⟩; have b5 := bnext b4 b5'; dsimp only)
        refine hK.out _ _ ?_ (fun hHeld => ?_)
        · exact HS.out _ b5
        clear hK K
        (try simp only [Act.put, List.setIfInBounds_toArray, List.set_cons_zero, List.set_cons_succ])
        refine wpAnyH_ready (rs := [13]) (by kernel_rfl) (by simp) ?_
        refine AllReadyH.cons (o := { dst := some 44, op := Op.call { callee := Callee.value (Operand.func 36), args := #[Operand.tmp 38, Operand.tmp 39, Operand.tmp 43], argTypes := #[25, 34, 4] }, type := 40, pos := "law.go:49", after := #[{ on := 7, ground := Ground.data }, { on := 8, ground := Ground.data }, { on := 12, ground := Ground.data }, { on := 6, ground := Ground.chain }], guard := none }) rfl (fun K hK => ?_) ?_
        · (go_simp; go_at_call 36; refine (rnpin_any _ ky on).mono ?_; rintro x w6 ⟨rfl, b6'⟩; have b6 := bnext b5 b6'; dsimp only)
          refine hK.out _ _ ?_ (fun hHeld => ?_)
          · exact HS.out _ b6
          clear hK K
          (try simp only [Act.put, List.setIfInBounds_toArray, List.set_cons_zero, List.set_cons_succ])
          refine wpAnyH_take (i := 14) (oi := { dst := some 45, op := Op.binOp BinOp.eql 40 (Operand.tmp 37) (Operand.tmp 44) 40, type := 4, pos := "law.go:49", after := #[{ on := 6, ground := Ground.data }, { on := 13, ground := Ground.data }], guard := none }) (v := ?_) rfl (by kernel_rfl) (by kernel_rfl) (by kernel_rfl) (fun _ _ _ h => h) (Or.inl ⟨by rfl, ?_⟩) (by assumption) ?_
          rotate_left
          · ((intro w hSw; (try dsimp only at hSw); go_simp; (try rw [if_neg (by omega)])); try with_reducible rfl)
          (try simp only [Act.put, List.setIfInBounds_toArray, List.set_cons_zero, List.set_cons_succ])
          refine wpAnyH_take (i := 15) (oi := { dst := some 6, op := Op.assign (Operand.tmp 45), type := 4, pos := "law.go:49", after := #[{ on := 14, ground := Ground.data }, { on := 13, ground := Ground.chain }, { on := 0, ground := Ground.phase }, { on := 1, ground := Ground.phase }, { on := 2, ground := Ground.phase }, { on := 3, ground := Ground.phase }, { on := 4, ground := Ground.phase }, { on := 5, ground := Ground.phase }, { on := 6, ground := Ground.phase }, { on := 7, ground := Ground.phase }, { on := 8, ground := Ground.phase }, { on := 9, ground := Ground.phase }, { on := 10, ground := Ground.phase }, { on := 11, ground := Ground.phase }, { on := 12, ground := Ground.phase }, { on := 13, ground := Ground.phase }, { on := 14, ground := Ground.phase }], guard := none }) (v := ?_) rfl (by kernel_rfl) (by kernel_rfl) (by kernel_rfl) (fun _ _ _ h => h) (Or.inl ⟨by rfl, ?_⟩) (by assumption) ?_
          rotate_left
          · ((intro w hSw; (try dsimp only at hSw); go_simp; (try rw [if_neg (by omega)])); try with_reducible rfl)
          (try simp only [Act.put, List.setIfInBounds_toArray, List.set_cons_zero, List.set_cons_succ])
          refine wpAnyH_done (by kernel_rfl) ?_ _
          have HP := Lib.hid (bnext HBW.out b6)
          clear b5 b6 b5' b6'
          go_wp2
          go_ret
          exact ⟨by simp, HP.out⟩
        exact AllReadyH.nil
      exact AllReadyH.nil
    · by_cases h5 : wh % 6 = 5
      · go_upto_region 8 with fail
        clear h3 h5 h44 hre6 w50
        refine wp_region_held_drew (S := (fun w' => w'.cell? ⟨X, 0, none⟩ = some (.int .i64 ky.1) ∧ w'.cell? ⟨X, 1, none⟩ = some (.int .i64 ky.2.1) ∧ w'.cell? ⟨X, 2, none⟩ = some (.int .i64 ky.2.2.1) ∧ w'.cell? ⟨X, 3, none⟩ = some (.int .i64 ky.2.2.2) ∧ w'.cell? ⟨W.heap.size, 2, none⟩ = some (.int .i64 sz))) (by kernel_rfl) ?_ (fun hHeld => ?_)
        · exact HS.out _ b4
        refine wpAnyH_take (i := 0) (oi := { dst := some 48, op := Op.move (Operand.tmp 0), type := 24, pos := "law.go:51", after := #[], guard := none }) (v := ?_) rfl (by kernel_rfl) (by kernel_rfl) (by kernel_rfl) (fun _ _ _ h => h) (Or.inl ⟨by rfl, ?_⟩) (by assumption) ?_
        rotate_left
        · ((intro w hSw; (try dsimp only at hSw); go_simp; (try rw [if_neg (by omega)])); try with_reducible rfl)
        (try simp only [Act.put, List.setIfInBounds_toArray, List.set_cons_zero, List.set_cons_succ])
        refine wpAnyH_take (i := 1) (oi := { dst := some 49, op := Op.load 34 (Operand.tmp 7), type := 34, pos := "law.go:51", after := #[], guard := none }) (v := ?_) rfl (by kernel_rfl) (by kernel_rfl) (by kernel_rfl) (fun _ _ _ h => h) (Or.inl ⟨by rfl, ?_⟩) (by assumption) ?_
        rotate_left
        · ((intro w hSw; (try dsimp only at hSw); go_simp; (try rw [if_neg (by omega)])); try with_reducible rfl)
        (try simp only [Act.put, List.setIfInBounds_toArray, List.set_cons_zero, List.set_cons_succ])
        refine wpAnyH_take (i := 3) (oi := { dst := some 51, op := Op.move (Operand.tmp 1), type := 25, pos := "law.go:51", after := #[], guard := none }) (v := ?_) rfl (by kernel_rfl) (by kernel_rfl) (by kernel_rfl) (fun _ _ _ h => h) (Or.inl ⟨by rfl, ?_⟩) (by assumption) ?_
        rotate_left
        · ((intro w hSw; (try dsimp only at hSw); go_simp; (try rw [if_neg (by omega)])); try with_reducible rfl)
        (try simp only [Act.put, List.setIfInBounds_toArray, List.set_cons_zero, List.set_cons_succ])
        refine wpAnyH_take (i := 4) (oi := { dst := some 52, op := Op.load 34 (Operand.tmp 7), type := 34, pos := "law.go:51", after := #[], guard := none }) (v := ?_) rfl (by kernel_rfl) (by kernel_rfl) (by kernel_rfl) (fun _ _ _ h => h) (Or.inl ⟨by rfl, ?_⟩) (by assumption) ?_
        rotate_left
        · ((intro w hSw; (try dsimp only at hSw); go_simp; (try rw [if_neg (by omega)])); try with_reducible rfl)
        (try simp only [Act.put, List.setIfInBounds_toArray, List.set_cons_zero, List.set_cons_succ])
        refine wpAnyH_ready (rs := [2]) (by kernel_rfl) (by simp) ?_
        refine AllReadyH.cons (o := { dst := some 50, op := Op.call { callee := Callee.value (Operand.func 16), args := #[Operand.tmp 48, Operand.tmp 49], argTypes := #[24, 34] }, type := 40, pos := "law.go:51", after := #[{ on := 0, ground := Ground.data }, { on := 1, ground := Ground.data }], guard := none }) rfl (fun K hK => ?_) ?_
        · (go_simp; go_at_call 16; refine (ndrop_any _ (.pointer none) ky (.inl rfl)).mono ?_; rintro x w5 ⟨rfl, b5'⟩; have b5 := bnext b4 b5'; dsimp only)
          refine hK.out _ _ ?_ (fun hHeld => ?_)
          · exact HS.out _ b5
          clear hK K
          (try simp only [Act.put, List.setIfInBounds_toArray, List.set_cons_zero, List.set_cons_succ])
          refine wpAnyH_ready (rs := [5]) (by kernel_rfl) (by simp) ?_
          refine AllReadyH.cons (o := { dst := some 53, op := Op.call { callee := Callee.value (Operand.func 37), args := #[Operand.tmp 51, Operand.tmp 52], argTypes := #[25, 34] }, type := 40, pos := "law.go:51", after := #[{ on := 3, ground := Ground.data }, { on := 4, ground := Ground.data }, { on := 2, ground := Ground.chain }], guard := none }) rfl (fun K hK => ?_) ?_
          · (go_simp; go_at_call 37; refine (rndrop_any _ ky).mono ?_; rintro x w6 ⟨rfl, b6'⟩; have b6 := bnext b5 b6'; dsimp only)
            refine hK.out _ _ ?_ (fun hHeld => ?_)
            · exact HS.out _ b6
            clear hK K
            (try simp only [Act.put, List.setIfInBounds_toArray, List.set_cons_zero, List.set_cons_succ])
            refine wpAnyH_take (i := 6) (oi := { dst := some 54, op := Op.binOp BinOp.eql 40 (Operand.tmp 50) (Operand.tmp 53) 40, type := 4, pos := "law.go:51", after := #[{ on := 2, ground := Ground.data }, { on := 5, ground := Ground.data }], guard := none }) (v := ?_) rfl (by kernel_rfl) (by kernel_rfl) (by kernel_rfl) (fun _ _ _ h => h) (Or.inl ⟨by rfl, ?_⟩) (by assumption) ?_
            rotate_left
            · ((intro w hSw; (try dsimp only at hSw); go_simp; (try rw [if_neg (by omega)])); try with_reducible rfl)
            (try simp only [Act.put, List.setIfInBounds_toArray, List.set_cons_zero, List.set_cons_succ])
            refine wpAnyH_take (i := 7) (oi := { dst := some 6, op := Op.assign (Operand.tmp 54), type := 4, pos := "law.go:51", after := #[{ on := 6, ground := Ground.data }, { on := 5, ground := Ground.chain }, { on := 0, ground := Ground.phase }, { on := 1, ground := Ground.phase }, { on := 2, ground := Ground.phase }, { on := 3, ground := Ground.phase }, { on := 4, ground := Ground.phase }, { on := 5, ground := Ground.phase }, { on := 6, ground := Ground.phase }], guard := none }) (v := ?_) rfl (by kernel_rfl) (by kernel_rfl) (by kernel_rfl) (fun _ _ _ h => h) (Or.inl ⟨by rfl, ?_⟩) (by assumption) ?_
            rotate_left
            · ((intro w hSw; (try dsimp only at hSw); go_simp; (try rw [if_neg (by omega)])); try with_reducible rfl)
            (try simp only [Act.put, List.setIfInBounds_toArray, List.set_cons_zero, List.set_cons_succ])
            refine wpAnyH_done (by kernel_rfl) ?_ _
            have HP := Lib.hid (bnext HBW.out b6)
            clear b5 b6 b5' b6'
            go_wp2
            go_ret
            exact ⟨by simp, HP.out⟩
          exact AllReadyH.nil
        exact AllReadyH.nil
      · go_upto_region 9 with fail
        obtain ⟨t70, t71, t72, t73, t52⟩ := HS.out W4 (Below.refl _ _)
        clear h3 h5 h44 hre6
        go_wp2_with fail
        go_at_call 17
        refine (nput_any W4 (.pointer none) ky sz (.inl rfl)).mono ?_
        rintro x w5 ⟨rfl, b5⟩
        go_upto_region 10 with fail
        clear w50 t70 t71 t72 t73 t52
        obtain ⟨t70, t71, t72, t73, t52⟩ := HS.out w5 b5
        go_wp2_with fail
        go_at_call 38
        refine (rnput_any w5 ky sz).mono ?_
        rintro x w6 ⟨rfl, b6⟩
        have HB6 := Lib.hid (bnext HBW.out (bnext b5 b6))
        clear t70 t71 t72 t73 t52 b5 b6 b4
        go_upto_region 11 with fail
        go_wp2_with fail
        go_at_call 20
        refine (same_any w6 (.slice none 0 0) (.slice none 0 0) [] [] (SrcN.nil 4 _) (SrcN.nil 4 _) (by simp) (by simp)).mono ?_
        rintro x w7 ⟨rfl, nq, rfl⟩
        have HFJ : Hid (Below W.heap.size W (w6.drewN nq)) := Lib.hid ⟨HB6.out.os, HB6.out.tape, HB6.out.output, HB6.out.size, HB6.out.block⟩
        go_wp2
        go_ret
        exact ⟨by simp, HFJ.out⟩
set_option maxHeartbeats 8000000 in
theorem filled_no (w : World) (bu : Int) (v : Value) (l : List Ac) (h : bu < 0 ∨ 1073741824 < bu) (hv : AcArg w v l) :
    Calls Try.prog 11 #[.int .i64 bu, v] w fun x w' => x = .returned (.tuple #[.pointer none, .pointer none, .bool true]) ∧ Below w.heap.size w w' := by
  obtain ⟨va, vc, rfl, -⟩ := id hv.src
  obtain ⟨n, hn⟩ : ∃ n, l.length = n := ⟨_, rfl⟩
  have hlen := hv.len
  unfold maxLen at hlen
  rw [hn] at hv hlen ⊢
  have HN := Lib.hid hn
  have HV := Lib.hid hv
  clear hn hv
  go_enter Try.func11, Try.ntmps11
  go_upto_region 4 with (first
    | (go_at_call 12; refine (new_no w bu h).mono ?_; rintro x w1 ⟨rfl, he⟩; have he' := he.symm; subst he')
    | (go_at_call 22; refine (rnew_no _ bu h).mono ?_; rintro x w1 ⟨rfl, he⟩; have he' := he.symm; subst he'))
  go_wp2_with fail
  go_loopw [9] (fun v9 wr => ∃ i : Nat, v9 = .int .i64 (i : Int) ∧ i ≤ n ∧ i ≤ 60 ∧ Hid (Below w.heap.size w wr)) (fun v _ => n - (intOf v).toNat)
  case atStart => exact ⟨0, rfl, Nat.zero_le _, by omega, Lib.hid (Below.refl _ _)⟩
  case round =>
    obtain ⟨i, rfl, hi, hi60, HP⟩ := hrel
    have hbl := HP.out
    by_cases hin : i < n ∧ i < 60
    · obtain ⟨hin, hi6⟩ := hin
      have hii : (i : Int) < (n : Int) := by omega
      have hii6 : (i : Int) < 60 := by omega
      have hi0 : (0 : Int) ≤ (i : Int) := by omega
      obtain ⟨a, ha⟩ : ∃ a, l[i]? = some a := ⟨l[i]'(by rw [HN.out]; exact hin), List.getElem?_eq_getElem _⟩
      have hs := (HV.out.keep hbl).src
      rw [HN.out] at hs
      obtain ⟨g, o, rfl, hg, k0, k1, k2⟩ := ac_at hs ha hin
      obtain ⟨a0, a1, a2⟩ := HV.out.ok a (List.mem_of_getElem? ha)
      clear ha hs
      go_upto_region 6 with (first
        | (go_at_call 23; refine (do_nil wr a.1 a.2.1 a.2.2 a0.1 a0.2 a1.1 a1.2).mono ?_; rintro x w3 ⟨rfl, hp3⟩)
        | (go_at_call 19; refine (nused_any w3 (.pointer none) (.inl rfl)).mono ?_; rintro x w4 ⟨rfl, he⟩; have he' := he.symm; subst he')
        | (go_at_call 24; refine (rnused_any w3).mono ?_; rintro x w4 ⟨rfl, he⟩; have he' := he.symm; subst he')
        | (go_at_call 18; refine (nlist_any w3 (.pointer none) (.inl rfl)).mono ?_; rintro x w4 ⟨rfl, he⟩; have he' := he.symm; subst he')
        | (go_at_call 25; refine (rnlist_any w3).mono ?_; rintro x w4 ⟨rfl, he⟩; have he' := he.symm; subst he')
        | (go_at_call 20; refine (same_any w3 (.slice none 0 0) (.slice none 0 0) [] [] (SrcN.nil 4 _) (SrcN.nil 4 _) (by simp) (by simp)).mono ?_; rintro x w6 ⟨rfl, nq, rfl⟩))
      have HB3 := bnext hbl hp3
      have HP6 : Hid (Below w.heap.size w (w3.drewN nq)) := Lib.hid ⟨HB3.os, HB3.tape, HB3.output, HB3.size, HB3.block⟩
      clear hp3 HB3 hbl k0 k1 k2
      go_wp2
      go_roundw
      case rel => exact ⟨i + 1, by go_num, hin, by omega, HP6⟩
      case measure => simp [intOf]; omega
    · clear hbl
      by_cases hin2 : i < n
      · have hii : (i : Int) < (n : Int) := by omega
        have hii6 : ¬ (i : Int) < 60 := by omega
        go_wp2
        go_ret3
        exact ⟨rfl, HP.out⟩
      · have hii : ¬ (i : Int) < (n : Int) := by omega
        go_wp2
        go_ret3
        exact ⟨rfl, HP.out⟩
end Go.Proofs.Ytmnajongifdajaa
