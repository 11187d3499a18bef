/- A case: its sizes and its rows. No conditions. -/
import Derived.Test.YtmiennkldkcnfaaDoorPn25
import Derived.Test.YtmiennkldkcnfaaDoorPn23
namespace Go.Proofs.YtmiennkldkcnfaaDoor
set_option maxRecDepth 100000
set_option linter.unusedVariables false
open Go.ChangeShapes Go.WideShapes Go.ChangeAt Go.RowKit Go.Joins Go.Deep
set_option maxHeartbeats 2000000 in
theorem sizes_any (W : World) (a b c : Int) (p q : Value) (pw ph : Nat) (ha : 0 ≤ a ∧ a ≤ 255) (hb : 0 ≤ b ∧ b ≤ 255) (hw : 1 + a % 64 = (pw : Int)) (hh : 1 + b % 64 = (ph : Int)) :
    Calls Tryd.prog 27 #[.agg #[.int .u8 a, .int .u8 b, p, q, .int .u8 c]] W fun e w' => e = .returned (.tuple #[.int .i64 (pw : Int), .int .i64 (ph : Int)]) ∧ Below W.heap.size W w' := by
  obtain ⟨B, hB⟩ : ∃ B, W.heap.size = B := ⟨_, rfl⟩
  have hx1 := heap_alloc_new W (.cells #[.int .u8 a, .int .u8 b, p, q, .int .u8 c] 53)
  have hb1 := balloc (Below.refl _ W) (.cells #[.int .u8 a, .int .u8 b, p, q, .int .u8 c] 53)
  obtain ⟨w1, hw1⟩ : ∃ w1, W.alloc (.cells #[.int .u8 a, .int .u8 b, p, q, .int .u8 c] 53) = w1 := ⟨_, rfl⟩
  rw [hw1, hB] at hx1
  rw [hw1] at hb1
  have HB1 := Lib.hid hb1
  have HX1 := Lib.hid hx1
  clear hx1 hb1
  have e1 : IntKind.i64.wrap a = a := IntWalk.i64_in _ (by omega)
  have e2 : IntKind.i64.wrap b = b := IntWalk.i64_in _ (by omega)
  have e3 : a.tmod 64 = a % 64 := Int.tmod_eq_emod_of_nonneg ha.1
  have e4 : b.tmod 64 = b % 64 := Int.tmod_eq_emod_of_nonneg hb.1
  have e5 : IntKind.i64.wrap (pw : Int) = (pw : Int) := IntWalk.i64_in _ (by omega)
  have e6 : IntKind.i64.wrap (ph : Int) = (ph : Int) := IntWalk.i64_in _ (by omega)
  go_enter Tryd.func27, Tryd.ntmps27
  go_upto_region 1 with fail
  try rw [hw1]
  try rw [hB]
  clear hw1 hB
  obtain ⟨wd, hwd⟩ : ∃ wd, w1.drew = wd := ⟨_, rfl⟩
  have HWD := Lib.hid hwd
  have HBD := Lib.hid (show Below w1.heap.size w1 wd from by rw [← hwd]; exact Below.drew (Below.refl _ w1))
  have hxd := (HBD.out.block B (Array.getElem?_eq_some_iff.1 HX1.out).1).trans HX1.out
  have HKS : Hid (wd.cell? ⟨B, 0, none⟩ = some (.int .u8 a) ∧ wd.cell? ⟨B, 1, none⟩ = some (.int .u8 b)) := Lib.hid ⟨nd_cell hxd rfl, nd_cell hxd rfl⟩
  clear hwd hxd
  refine wp_region_held_drew (S := (fun U => U.cell? ⟨B, 0, none⟩ = some (.int .u8 a) ∧ U.cell? ⟨B, 1, none⟩ = some (.int .u8 b))) (by kernel_rfl) ?_ (fun hHeld => ?_)
  · (rw [HWD.out]; exact HKS.out)
  rw [HWD.out] at hHeld ⊢
  refine wpAnyH_take (i := 0) (oi := { dst := some 4, op := Op.fieldAddr 53 (Operand.tmp 1) 0, type := 0, pos := "law.go:113", after := #[], guard := none }) (v := ?_) rfl (by kernel_rfl) (by kernel_rfl) (by kernel_rfl) (fun _ _ _ h => h) (Or.inl ⟨by rfl, ?_⟩) (by assumption) ?_
  rotate_left
  · ((intro w hSw; (try dsimp only at hSw); go_simp; (try rw [if_neg (by omega)])); try with_reducible rfl)
  (try simp only [Act.put, List.setIfInBounds_toArray, List.set_cons_zero, List.set_cons_succ])
  refine wpAnyH_take (i := 1) (oi := { dst := some 5, op := Op.load 5 (Operand.tmp 4), type := 5, pos := "law.go:113", after := #[{ on := 0, ground := Ground.data }], guard := none }) (v := ?_) rfl (by kernel_rfl) (by kernel_rfl) (by kernel_rfl) (fun _ _ _ h => h) (Or.inl ⟨by rfl, ?_⟩) (by assumption) ?_
  rotate_left
  · ((intro w hSw; (try dsimp only at hSw); go_simp; (try rw [if_neg (by omega)])); try with_reducible rfl)
  (try simp only [Act.put, List.setIfInBounds_toArray, List.set_cons_zero, List.set_cons_succ])
  refine wpAnyH_take (i := 2) (oi := { dst := some 6, op := Op.convert 5 3 (Operand.tmp 5), type := 3, pos := "law.go:113", after := #[{ on := 1, ground := Ground.data }], guard := none }) (v := ?_) rfl (by kernel_rfl) (by kernel_rfl) (by kernel_rfl) (fun _ _ _ h => h) (Or.inl ⟨by rfl, ?_⟩) (by assumption) ?_
  rotate_left
  · ((intro w hSw; (try dsimp only at hSw); go_simp; (try rw [if_neg (by omega)])); try with_reducible rfl)
  (try simp only [Act.put, List.setIfInBounds_toArray, List.set_cons_zero, List.set_cons_succ])
  refine wpAnyH_take (i := 3) (oi := { dst := some 7, op := Op.binOp BinOp.rem 3 (Operand.tmp 6) (Operand.const (Value.int IntKind.i64 64)) 3, type := 3, pos := "law.go:113", after := #[{ on := 2, ground := Ground.data }], guard := none }) (v := ?_) rfl (by kernel_rfl) (by kernel_rfl) (by kernel_rfl) (fun _ _ _ h => h) (Or.inl ⟨by rfl, ?_⟩) (by assumption) ?_
  rotate_left
  · ((intro w hSw; (try dsimp only at hSw); go_simp; (try rw [if_neg (by omega)])); try with_reducible rfl)
  (try simp only [Act.put, List.setIfInBounds_toArray, List.set_cons_zero, List.set_cons_succ])
  refine wpAnyH_take (i := 4) (oi := { dst := some 8, op := Op.binOp BinOp.add 3 (Operand.const (Value.int IntKind.i64 1)) (Operand.tmp 7) 3, type := 3, pos := "law.go:113", after := #[{ on := 3, ground := Ground.data }], guard := none }) (v := ?_) rfl (by kernel_rfl) (by kernel_rfl) (by kernel_rfl) (fun _ _ _ h => h) (Or.inl ⟨by rfl, ?_⟩) (by assumption) ?_
  rotate_left
  · ((intro w hSw; (try dsimp only at hSw); go_simp; (try rw [if_neg (by omega)])); try with_reducible rfl)
  (try simp only [Act.put, List.setIfInBounds_toArray, List.set_cons_zero, List.set_cons_succ])
  refine wpAnyH_take (i := 5) (oi := { dst := some 9, op := Op.fieldAddr 53 (Operand.tmp 1) 1, type := 0, pos := "law.go:113", after := #[{ on := 10, ground := Ground.gcOnly Departure.lateStores }], guard := none }) (v := ?_) rfl (by kernel_rfl) (by kernel_rfl) (by kernel_rfl) (fun _ _ _ h => h) (Or.inl ⟨by rfl, ?_⟩) (by assumption) ?_
  rotate_left
  · ((intro w hSw; (try dsimp only at hSw); go_simp; (try rw [if_neg (by omega)])); try with_reducible rfl)
  (try simp only [Act.put, List.setIfInBounds_toArray, List.set_cons_zero, List.set_cons_succ])
  refine wpAnyH_take (i := 6) (oi := { dst := some 10, op := Op.load 5 (Operand.tmp 9), type := 5, pos := "law.go:113", after := #[{ on := 5, ground := Ground.data }, { on := 10, ground := Ground.gcOnly Departure.lateStores }], guard := none }) (v := ?_) rfl (by kernel_rfl) (by kernel_rfl) (by kernel_rfl) (fun _ _ _ h => h) (Or.inl ⟨by rfl, ?_⟩) (by assumption) ?_
  rotate_left
  · ((intro w hSw; (try dsimp only at hSw); go_simp; (try rw [if_neg (by omega)])); try with_reducible rfl)
  (try simp only [Act.put, List.setIfInBounds_toArray, List.set_cons_zero, List.set_cons_succ])
  refine wpAnyH_take (i := 7) (oi := { dst := some 11, op := Op.convert 5 3 (Operand.tmp 10), type := 3, pos := "law.go:113", after := #[{ on := 6, ground := Ground.data }, { on := 10, ground := Ground.gcOnly Departure.lateStores }], guard := none }) (v := ?_) rfl (by kernel_rfl) (by kernel_rfl) (by kernel_rfl) (fun _ _ _ h => h) (Or.inl ⟨by rfl, ?_⟩) (by assumption) ?_
  rotate_left
  · ((intro w hSw; (try dsimp only at hSw); go_simp; (try rw [if_neg (by omega)])); try with_reducible rfl)
  (try simp only [Act.put, List.setIfInBounds_toArray, List.set_cons_zero, List.set_cons_succ])
  refine wpAnyH_take (i := 8) (oi := { dst := some 12, op := Op.binOp BinOp.rem 3 (Operand.tmp 11) (Operand.const (Value.int IntKind.i64 64)) 3, type := 3, pos := "law.go:113", after := #[{ on := 7, ground := Ground.data }, { on := 10, ground := Ground.gcOnly Departure.lateStores }], guard := none }) (v := ?_) rfl (by kernel_rfl) (by kernel_rfl) (by kernel_rfl) (fun _ _ _ h => h) (Or.inl ⟨by rfl, ?_⟩) (by assumption) ?_
  rotate_left
  · ((intro w hSw; (try dsimp only at hSw); go_simp; (try rw [if_neg (by omega)])); try with_reducible rfl)
  (try simp only [Act.put, List.setIfInBounds_toArray, List.set_cons_zero, List.set_cons_succ])
  refine wpAnyH_take (i := 9) (oi := { dst := some 13, op := Op.binOp BinOp.add 3 (Operand.const (Value.int IntKind.i64 1)) (Operand.tmp 12) 3, type := 3, pos := "law.go:113", after := #[{ on := 8, ground := Ground.data }, { on := 10, ground := Ground.gcOnly Departure.lateStores }], guard := none }) (v := ?_) rfl (by kernel_rfl) (by kernel_rfl) (by kernel_rfl) (fun _ _ _ h => h) (Or.inl ⟨by rfl, ?_⟩) (by assumption) ?_
  rotate_left
  · ((intro w hSw; (try dsimp only at hSw); go_simp; (try rw [if_neg (by omega)])); try with_reducible rfl)
  (try simp only [Act.put, List.setIfInBounds_toArray, List.set_cons_zero, List.set_cons_succ])
  refine wpAnyH_take (i := 10) (oi := { dst := some 2, op := Op.assign (Operand.tmp 8), type := 3, pos := "law.go:113", after := #[{ on := 4, ground := Ground.data }, { on := 0, ground := Ground.phase }, { on := 1, ground := Ground.phase }, { on := 2, ground := Ground.phase }, { on := 3, ground := Ground.phase }, { on := 4, ground := Ground.phase }, { on := 5, ground := Ground.textOnly Departure.lateStores }, { on := 6, ground := Ground.textOnly Departure.lateStores }, { on := 7, ground := Ground.textOnly Departure.lateStores }, { on := 8, ground := Ground.textOnly Departure.lateStores }, { on := 9, ground := Ground.textOnly Departure.lateStores }], guard := none }) (v := ?_) rfl (by kernel_rfl) (by kernel_rfl) (by kernel_rfl) (fun _ _ _ h => h) (Or.inl ⟨by rfl, ?_⟩) (by assumption) ?_
  rotate_left
  · ((intro w hSw; (try dsimp only at hSw); go_simp; (try rw [if_neg (by omega)])); try with_reducible rfl)
  (try simp only [Act.put, List.setIfInBounds_toArray, List.set_cons_zero, List.set_cons_succ])
  refine wpAnyH_take (i := 11) (oi := { dst := some 3, op := Op.assign (Operand.tmp 13), type := 3, pos := "law.go:113", after := #[{ on := 9, ground := Ground.data }, { on := 10, ground := Ground.chain }, { on := 0, ground := Ground.phase }, { on := 1, ground := Ground.phase }, { on := 2, ground := Ground.phase }, { on := 3, ground := Ground.phase }, { on := 4, ground := Ground.phase }, { on := 5, ground := Ground.phase }, { on := 6, ground := Ground.phase }, { on := 7, ground := Ground.phase }, { on := 8, ground := Ground.phase }, { on := 9, ground := Ground.phase }, { on := 10, ground := Ground.phase }], guard := none }) (v := ?_) rfl (by kernel_rfl) (by kernel_rfl) (by kernel_rfl) (fun _ _ _ h => h) (Or.inl ⟨by rfl, ?_⟩) (by assumption) ?_
  rotate_left
  · ((intro w hSw; (try dsimp only at hSw); go_simp; (try rw [if_neg (by omega)])); try with_reducible rfl)
  (try simp only [Act.put, List.setIfInBounds_toArray, List.set_cons_zero, List.set_cons_succ])
  refine wpAnyH_done (by kernel_rfl) ?_ _
  skip
  clear hHeld
  go_simp
  go_wp2
  refine bodyPost_ret (results_tmp2 Tryd.results27 _ _ _) rfl ?_
  exact ⟨rfl, bnext HB1.out HBD.out⟩
set_option maxHeartbeats 4000000 in
theorem rows_any (W : World) (a b c : Int) (pa qa : Option Addr) (pc qc : Nat) (l m : List Nat) (pw ph : Nat) (ha : 0 ≤ a ∧ a ≤ 255) (hb : 0 ≤ b ∧ b ≤ 255) (hw : 1 + a % 64 = (pw : Int)) (hh : 1 + b % 64 = (ph : Int)) (hp : UsArg W (.slice pa l.length pc) l) (hq : UsArg W (.slice qa m.length qc) m) :
    Calls Tryd.prog 28 #[.agg #[.int .u8 a, .int .u8 b, .slice pa l.length pc, .slice qa m.length qc, .int .u8 c]] W fun e w' => ∃ v1 v2, e = .returned (.tuple #[v1, v2]) ∧ w'.ownsRow W.heap.size 63 1 v1 ph ((mkRow l pw ph).map U6) ∧ w'.ownsRow W.heap.size 63 1 v2 ph ((mkRow m pw ph).map U6) ∧ Below W.heap.size W w' := by
  obtain ⟨B, hB⟩ : ∃ B, W.heap.size = B := ⟨_, rfl⟩
  have hx1 := heap_alloc_new W (.cells #[.int .u8 a, .int .u8 b, .slice pa l.length pc, .slice qa m.length qc, .int .u8 c] 53)
  have hb1 := balloc (Below.refl _ W) (.cells #[.int .u8 a, .int .u8 b, .slice pa l.length pc, .slice qa m.length qc, .int .u8 c] 53)
  obtain ⟨w1, hw1⟩ : ∃ w1, W.alloc (.cells #[.int .u8 a, .int .u8 b, .slice pa l.length pc, .slice qa m.length qc, .int .u8 c] 53) = w1 := ⟨_, rfl⟩
  rw [hw1, hB] at hx1
  rw [hw1] at hb1
  have HB1 := Lib.hid hb1
  have HX1 := Lib.hid hx1
  clear hx1 hb1
  have HP := Lib.hid hp
  have HQ := Lib.hid hq
  clear hp hq
  have HS := Lib.hid (fun U => sizes_any U a b c (.slice pa l.length pc) (.slice qa m.length qc) pw ph ha hb hw hh)
  have HPW : Hid (pw ≤ 64 ∧ ph ≤ 64) := Lib.hid (by omega)
  clear ha hb hw hh
  have hx1 := HX1.out
  have x0 : w1.cell? ⟨B, 0, none⟩ = some (.int .u8 a) := nd_cell hx1 rfl
  have x1 : w1.cell? ⟨B, 1, none⟩ = some (.int .u8 b) := nd_cell hx1 rfl
  have x2 : w1.cell? ⟨B, 2, none⟩ = some (.slice pa l.length pc) := nd_cell hx1 rfl
  have x3 : w1.cell? ⟨B, 3, none⟩ = some (.slice qa m.length qc) := nd_cell hx1 rfl
  have x4 : w1.cell? ⟨B, 4, none⟩ = some (.int .u8 c) := nd_cell hx1 rfl
  clear hx1
  go_enter Tryd.func28, Tryd.ntmps28
  go_upto_region 1 with fail
  try rw [hw1]
  try rw [hB]
  clear hw1 hB
  go_wp2_with fail
  go_at_call 27
  refine (HS.out _).mono ?_
  rintro e w2 ⟨rfl, kb⟩
  clear x0 x1 x2 x3 x4
  have HB2 := Lib.hid kb
  clear kb
  go_upto_region 2 with fail
  obtain ⟨wd, hwd⟩ : ∃ wd, w2.drew = wd := ⟨_, rfl⟩
  have HWD := Lib.hid hwd
  have HBD := Lib.hid (show Below w2.heap.size w2 wd from by rw [← hwd]; exact Below.drew (Below.refl _ w2))
  have HKS : Hid (∀ U, Below wd.heap.size wd U → U.cell? ⟨B, 2, none⟩ = some (.slice pa l.length pc) ∧ U.cell? ⟨B, 3, none⟩ = some (.slice qa m.length qc)) := Lib.hid fun U hU => by
    have h1 := ((bnext HB2.out (bnext HBD.out hU)).block B (Array.getElem?_eq_some_iff.1 HX1.out).1).trans HX1.out
    exact ⟨nd_cell h1 rfl, nd_cell h1 rfl⟩
  have HBW := Lib.hid (bnext HB1.out (bnext HB2.out HBD.out))
  clear hwd
  refine wp_region_held_drew (S := (fun U => U.cell? ⟨B, 2, none⟩ = some (.slice pa l.length pc) ∧ U.cell? ⟨B, 3, none⟩ = some (.slice qa m.length qc))) (by kernel_rfl) ?_ (fun hHeld => ?_)
  · (rw [HWD.out]; exact HKS.out _ (Below.refl _ _))
  rw [HWD.out] at hHeld ⊢
  refine wpAnyH_take (i := 0) (oi := { dst := some 11, op := Op.fieldAddr 53 (Operand.tmp 1) 2, type := 0, pos := "law.go:118", after := #[], guard := none }) (v := ?_) rfl (by kernel_rfl) (by kernel_rfl) (by kernel_rfl) (fun _ _ _ h => h) (Or.inl ⟨by rfl, ?_⟩) (by assumption) ?_
  rotate_left
  · ((intro w hSw; (try dsimp only at hSw); go_simp; (try rw [if_neg (by omega)])); try with_reducible rfl)
  (try simp only [Act.put, List.setIfInBounds_toArray, List.set_cons_zero, List.set_cons_succ])
  refine wpAnyH_take (i := 1) (oi := { dst := some 12, op := Op.fieldAddr 41 (Operand.tmp 11) 0, type := 0, pos := "law.go:118", after := #[{ on := 0, ground := Ground.data }], guard := none }) (v := ?_) rfl (by kernel_rfl) (by kernel_rfl) (by kernel_rfl) (fun _ _ _ h => h) (Or.inl ⟨by rfl, ?_⟩) (by assumption) ?_
  rotate_left
  · ((intro w hSw; (try dsimp only at hSw); go_simp; (try rw [if_neg (by omega)])); try with_reducible rfl)
  (try simp only [Act.put, List.setIfInBounds_toArray, List.set_cons_zero, List.set_cons_succ])
  refine wpAnyH_take (i := 2) (oi := { dst := some 13, op := Op.load 32 (Operand.tmp 12), type := 32, pos := "law.go:118", after := #[{ on := 1, ground := Ground.data }], guard := none }) (v := ?_) rfl (by kernel_rfl) (by kernel_rfl) (by kernel_rfl) (fun _ _ _ h => h) (Or.inl ⟨by rfl, ?_⟩) (by assumption) ?_
  rotate_left
  · ((intro w hSw; (try dsimp only at hSw); go_simp; (try rw [if_neg (by omega)])); try with_reducible rfl)
  (try simp only [Act.put, List.setIfInBounds_toArray, List.set_cons_zero, List.set_cons_succ])
  refine wpAnyH_take (i := 3) (oi := { dst := some 14, op := Op.move (Operand.tmp 4), type := 3, pos := "law.go:118", after := #[], guard := none }) (v := ?_) rfl (by kernel_rfl) (by kernel_rfl) (by kernel_rfl) (fun _ _ _ h => h) (Or.inl ⟨by rfl, ?_⟩) (by assumption) ?_
  rotate_left
  · ((intro w hSw; (try dsimp only at hSw); go_simp; (try rw [if_neg (by omega)])); try with_reducible rfl)
  (try simp only [Act.put, List.setIfInBounds_toArray, List.set_cons_zero, List.set_cons_succ])
  refine wpAnyH_take (i := 4) (oi := { dst := some 15, op := Op.move (Operand.tmp 5), type := 3, pos := "law.go:118", after := #[], guard := none }) (v := ?_) rfl (by kernel_rfl) (by kernel_rfl) (by kernel_rfl) (fun _ _ _ h => h) (Or.inl ⟨by rfl, ?_⟩) (by assumption) ?_
  rotate_left
  · ((intro w hSw; (try dsimp only at hSw); go_simp; (try rw [if_neg (by omega)])); try with_reducible rfl)
  (try simp only [Act.put, List.setIfInBounds_toArray, List.set_cons_zero, List.set_cons_succ])
  refine wpAnyH_take (i := 6) (oi := { dst := some 17, op := Op.fieldAddr 53 (Operand.tmp 1) 2, type := 0, pos := "law.go:118", after := #[], guard := none }) (v := ?_) rfl (by kernel_rfl) (by kernel_rfl) (by kernel_rfl) (fun _ _ _ h => h) (Or.inl ⟨by rfl, ?_⟩) (by assumption) ?_
  rotate_left
  · ((intro w hSw; (try dsimp only at hSw); go_simp; (try rw [if_neg (by omega)])); try with_reducible rfl)
  (try simp only [Act.put, List.setIfInBounds_toArray, List.set_cons_zero, List.set_cons_succ])
  refine wpAnyH_take (i := 7) (oi := { dst := some 18, op := Op.fieldAddr 41 (Operand.tmp 17) 1, type := 0, pos := "law.go:118", after := #[{ on := 6, ground := Ground.data }], guard := none }) (v := ?_) rfl (by kernel_rfl) (by kernel_rfl) (by kernel_rfl) (fun _ _ _ h => h) (Or.inl ⟨by rfl, ?_⟩) (by assumption) ?_
  rotate_left
  · ((intro w hSw; (try dsimp only at hSw); go_simp; (try rw [if_neg (by omega)])); try with_reducible rfl)
  (try simp only [Act.put, List.setIfInBounds_toArray, List.set_cons_zero, List.set_cons_succ])
  refine wpAnyH_take (i := 8) (oi := { dst := some 19, op := Op.load 32 (Operand.tmp 18), type := 32, pos := "law.go:118", after := #[{ on := 7, ground := Ground.data }], guard := none }) (v := ?_) rfl (by kernel_rfl) (by kernel_rfl) (by kernel_rfl) (fun _ _ _ h => h) (Or.inl ⟨by rfl, ?_⟩) (by assumption) ?_
  rotate_left
  · ((intro w hSw; (try dsimp only at hSw); go_simp; (try rw [if_neg (by omega)])); try with_reducible rfl)
  (try simp only [Act.put, List.setIfInBounds_toArray, List.set_cons_zero, List.set_cons_succ])
  refine wpAnyH_take (i := 9) (oi := { dst := some 20, op := Op.move (Operand.tmp 4), type := 3, pos := "law.go:118", after := #[], guard := none }) (v := ?_) rfl (by kernel_rfl) (by kernel_rfl) (by kernel_rfl) (fun _ _ _ h => h) (Or.inl ⟨by rfl, ?_⟩) (by assumption) ?_
  rotate_left
  · ((intro w hSw; (try dsimp only at hSw); go_simp; (try rw [if_neg (by omega)])); try with_reducible rfl)
  (try simp only [Act.put, List.setIfInBounds_toArray, List.set_cons_zero, List.set_cons_succ])
  refine wpAnyH_take (i := 10) (oi := { dst := some 21, op := Op.move (Operand.tmp 5), type := 3, pos := "law.go:118", after := #[], guard := none }) (v := ?_) rfl (by kernel_rfl) (by kernel_rfl) (by kernel_rfl) (fun _ _ _ h => h) (Or.inl ⟨by rfl, ?_⟩) (by assumption) ?_
  rotate_left
  · ((intro w hSw; (try dsimp only at hSw); go_simp; (try rw [if_neg (by omega)])); try with_reducible rfl)
  (try simp only [Act.put, List.setIfInBounds_toArray, List.set_cons_zero, List.set_cons_succ])
  refine wpAnyH_ready (rs := [5]) (by kernel_rfl) (by simp) ?_
  refine AllReadyH.cons (o := { dst := some 16, op := Op.call { callee := Callee.value (Operand.func 34), args := #[Operand.tmp 13, Operand.tmp 14, Operand.tmp 15], argTypes := #[32, 3, 3] }, type := 32, pos := "law.go:118", after := #[{ on := 2, ground := Ground.data }, { on := 3, ground := Ground.data }, { on := 4, ground := Ground.data }], guard := none }) rfl (fun K hK => ?_) ?_
  · (go_simp; go_at_call 34; refine (made_any wd l (.slice pa l.length pc) pw ph HPW.out.1 (by have := HPW.out; omega) (HP.out.ua.keep HBW.out) HP.out.len HP.out.lt).mono ?_; rintro u wz1 ⟨v1, rfl, ko1, bz1⟩; dsimp only)
    refine hK.out _ _ ?_ (fun hHeld => ?_)
    · exact HKS.out _ bz1
    clear hK K
    (try simp only [Act.put, List.setIfInBounds_toArray, List.set_cons_zero, List.set_cons_succ])
    refine wpAnyH_ready (rs := [11]) (by kernel_rfl) (by simp) ?_
    refine AllReadyH.cons (o := { dst := some 22, op := Op.call { callee := Callee.value (Operand.func 34), args := #[Operand.tmp 19, Operand.tmp 20, Operand.tmp 21], argTypes := #[32, 3, 3] }, type := 32, pos := "law.go:118", after := #[{ on := 8, ground := Ground.data }, { on := 9, ground := Ground.data }, { on := 10, ground := Ground.data }, { on := 5, ground := Ground.chain }], guard := none }) rfl (fun K hK => ?_) ?_
    · (go_simp; go_at_call 34; refine (made_any wz1 m (.slice qa m.length qc) pw ph HPW.out.1 (by have := HPW.out; omega) (HQ.out.ua.keep (bnext HBW.out bz1)) HQ.out.len HQ.out.lt).mono ?_; rintro u wz2 ⟨v2, rfl, ko2, dz⟩; have bz2 := bnext bz1 dz; dsimp only)
      refine hK.out _ _ ?_ (fun hHeld => ?_)
      · exact HKS.out _ bz2
      clear hK K
      (try simp only [Act.put, List.setIfInBounds_toArray, List.set_cons_zero, List.set_cons_succ])
      refine wpAnyH_take (i := 12) (oi := { dst := some 2, op := Op.assign (Operand.tmp 16), type := 32, pos := "law.go:118", after := #[{ on := 5, ground := Ground.data }, { on := 11, ground := Ground.chain }, { on := 0, ground := Ground.phase }, { on := 1, ground := Ground.phase }, { on := 2, ground := Ground.phase }, { on := 3, ground := Ground.phase }, { on := 4, ground := Ground.phase }, { on := 5, ground := Ground.phase }, { on := 6, ground := Ground.textOnly Departure.lateStores }, { on := 7, ground := Ground.textOnly Departure.lateStores }, { on := 8, ground := Ground.textOnly Departure.lateStores }, { on := 9, ground := Ground.textOnly Departure.lateStores }, { on := 10, ground := Ground.textOnly Departure.lateStores }, { on := 11, ground := Ground.textOnly Departure.lateStoresUnsure }], guard := none }) (v := ?_) rfl (by kernel_rfl) (by kernel_rfl) (by kernel_rfl) (fun _ _ _ h => h) (Or.inl ⟨by rfl, ?_⟩) (by assumption) ?_
      rotate_left
      · ((intro w hSw; (try dsimp only at hSw); go_simp; (try rw [if_neg (by omega)])); try with_reducible rfl)
      (try simp only [Act.put, List.setIfInBounds_toArray, List.set_cons_zero, List.set_cons_succ])
      refine wpAnyH_take (i := 13) (oi := { dst := some 3, op := Op.assign (Operand.tmp 22), type := 32, pos := "law.go:118", after := #[{ on := 11, ground := Ground.data }, { on := 12, ground := Ground.chain }, { on := 0, ground := Ground.phase }, { on := 1, ground := Ground.phase }, { on := 2, ground := Ground.phase }, { on := 3, ground := Ground.phase }, { on := 4, ground := Ground.phase }, { on := 5, ground := Ground.phase }, { on := 6, ground := Ground.phase }, { on := 7, ground := Ground.phase }, { on := 8, ground := Ground.phase }, { on := 9, ground := Ground.phase }, { on := 10, ground := Ground.phase }, { on := 11, ground := Ground.phase }, { on := 12, ground := Ground.phase }], guard := none }) (v := ?_) rfl (by kernel_rfl) (by kernel_rfl) (by kernel_rfl) (fun _ _ _ h => h) (Or.inl ⟨by rfl, ?_⟩) (by assumption) ?_
      rotate_left
      · ((intro w hSw; (try dsimp only at hSw); go_simp; (try rw [if_neg (by omega)])); try with_reducible rfl)
      (try simp only [Act.put, List.setIfInBounds_toArray, List.set_cons_zero, List.set_cons_succ])
      refine wpAnyH_done (by kernel_rfl) ?_ _
      clear hHeld
      have hsz := (bnext HBW.out bz1).size
      have hsz0 := HBW.out.size
      have HR : Hid (wz2.ownsRow W.heap.size 63 1 v1 ph ((mkRow l pw ph).map U6) ∧ wz2.ownsRow W.heap.size 63 1 v2 ph ((mkRow m pw ph).map U6) ∧ Below W.heap.size W wz2) := Lib.hid ⟨ownsRow_base (own_below ko1 dz) hsz0, ownsRow_base ko2 hsz, bnext HBW.out bz2⟩
      clear ko1 ko2 dz bz1 bz2 hsz hsz0
      go_simp
      go_wp2
      refine bodyPost_ret (results_tmp2 Tryd.results28 _ _ _) rfl ?_
      exact ⟨v1, v2, rfl, HR.out⟩
    exact AllReadyH.nil
  exact AllReadyH.nil
end Go.Proofs.YtmiennkldkcnfaaDoor
