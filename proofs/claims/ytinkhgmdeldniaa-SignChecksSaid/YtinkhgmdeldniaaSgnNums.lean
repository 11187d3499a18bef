/- The arrays of numbers: ends, digits, advance. No conditions. -/
import Derived.Test.YtinkhgmdeldniaaSgnPick
import Derived.Deep.Cut
namespace Go.Proofs.Ytinkhgmdeldniaa.SG
set_option maxRecDepth 100000
open Go.RowKit
theorem numA_size (D : Nat → Nat) : (numA D).size = 18 := by simp [numA]
theorem numA_one (D : Nat → Nat) : (numA D).all (·.oneCell') = true := by simp [numA, Value.oneCell']
theorem numA_congr {D E : Nat → Nat} (h : ∀ c, c < 18 → D c = E c) : numA D = numA E := by
  unfold numA
  congr 1
  apply List.map_congr_left
  intro c hc
  rw [h c (List.mem_range.1 hc)]
theorem numA_set (D : Nat → Nat) (c v : Nat) : (numA D).setIfInBounds c (.int .i64 (v : Int)) = numA (fun k => if k = c then v else D k) := by
  unfold numA
  rw [List.setIfInBounds_toArray]
  congr 1
  apply List.ext_getElem
  · simp
  · intro k h1 h2
    rw [List.getElem_set]
    simp only [List.getElem_map, List.getElem_range]
    by_cases hk : c = k
    · subst hk; simp
    · rw [if_neg hk, if_neg (fun e => hk e.symm)]
theorem numA_inj {D E : Nat → Nat} (h : numA D = numA E) {c : Nat} (hc : c < 18) : D c = E c := by
  have h1 := numA_at D hc
  rw [h, numA_at E hc] at h1
  have := Option.some.inj h1
  injection this with _ h2
  omega
end Go.Proofs.Ytinkhgmdeldniaa.SG
namespace Go.Proofs.Ytinkhgmdeldniaa
set_option maxRecDepth 100000
set_option linter.unusedVariables false
open Go.RowKit Go.Deep
theorem info_nums (D : Nat → Nat) : (Try.prog.info? 61).map (·.size) = some (SG.numA D).size := by rw [SG.numA_size]; kernel_rfl
/-- An array of numbers in a block. -/
def NumAt (W : World) (b : Nat) (D : Nat → Nat) : Prop := W.heap[b]? = some (.cells (SG.numA D) 61 (0, 0))
theorem NumAt.lt {W : World} {b : Nat} {D : Nat → Nat} (h : NumAt W b D) : b < W.heap.size := (Array.getElem?_eq_some_iff.1 h).1
theorem NumAt.keep {W W' : World} {b : Nat} {D : Nat → Nat} (h : NumAt W b D) (hb : Below W.heap.size W W') : NumAt W' b D := (hb.block b h.lt).trans h
theorem NumAt.cell {W : World} {b : Nat} {D : Nat → Nat} (h : NumAt W b D) {c : Nat} (hc : c < 18) : W.cell? ⟨b, c, none⟩ = some (.int .i64 (D c : Int)) := by
  simp [World.cell?, show W.heap[b]? = _ from h, SG.numA_at D hc]
theorem NumAt.frozen {W : World} {b : Nat} {D : Nat → Nat} (h : NumAt W b D) (c : Nat) : W.frozen? ⟨b, c, none⟩ = false := by
  simp [World.frozen?, show W.heap[b]? = _ from h]
theorem NumAt.set {W : World} {b : Nat} {D : Nat → Nat} (h : NumAt W b D) (c v : Nat) : NumAt (W.setCell ⟨b, c, none⟩ (.int .i64 (v : Int))) b (fun k => if k = c then v else D k) := by
  have := heap_setCell_same W b c _ 61 (.int .i64 (v : Int)) h
  rw [SG.numA_set] at this
  exact this
theorem NumAt.other {W : World} {b b' : Nat} {D : Nat → Nat} (h : NumAt W b D) (hne : b ≠ b') (o : Nat) (v : Value) : NumAt (W.setCell ⟨b', o, none⟩ v) b D :=
  (Below.heap_setCell _ _ _ _ (fun e => hne e)).trans h
theorem NumAt.load {W : World} {b : Nat} {D : Nat → Nat} (h : NumAt W b D) : (loadVar 61 ⟨b, 0, none⟩).run Try.prog W = .ok (.agg (SG.numA D)) W :=
  run_loadVar_row W b 61 61 _ (0, 0) _ h Try.underlying61 rfl (info_nums D)
theorem NumAt.congr {W : World} {b : Nat} {D E : Nat → Nat} (h : NumAt W b D) (he : ∀ c, c < 18 → D c = E c) : NumAt W b E := by
  unfold NumAt
  rw [← SG.numA_congr he]
  exact h
theorem numA_lit (D : Nat → Nat) : SG.numA D = #[.int .i64 (D 0 : Int), .int .i64 (D 1 : Int), .int .i64 (D 2 : Int), .int .i64 (D 3 : Int), .int .i64 (D 4 : Int), .int .i64 (D 5 : Int), .int .i64 (D 6 : Int), .int .i64 (D 7 : Int), .int .i64 (D 8 : Int), .int .i64 (D 9 : Int), .int .i64 (D 10 : Int), .int .i64 (D 11 : Int), .int .i64 (D 12 : Int), .int .i64 (D 13 : Int), .int .i64 (D 14 : Int), .int .i64 (D 15 : Int), .int .i64 (D 16 : Int), .int .i64 (D 17 : Int)] := rfl
theorem NumAt.cells {W : World} {b : Nat} {D : Nat → Nat} (h : NumAt W b D) : W.cell? ⟨b, 0, none⟩ = some (.int .i64 (D 0 : Int)) ∧ W.cell? ⟨b, 1, none⟩ = some (.int .i64 (D 1 : Int)) ∧ W.cell? ⟨b, 2, none⟩ = some (.int .i64 (D 2 : Int)) ∧ W.cell? ⟨b, 3, none⟩ = some (.int .i64 (D 3 : Int)) ∧ W.cell? ⟨b, 4, none⟩ = some (.int .i64 (D 4 : Int)) ∧ W.cell? ⟨b, 5, none⟩ = some (.int .i64 (D 5 : Int)) ∧ W.cell? ⟨b, 6, none⟩ = some (.int .i64 (D 6 : Int)) ∧ W.cell? ⟨b, 7, none⟩ = some (.int .i64 (D 7 : Int)) ∧ W.cell? ⟨b, 8, none⟩ = some (.int .i64 (D 8 : Int)) ∧ W.cell? ⟨b, 9, none⟩ = some (.int .i64 (D 9 : Int)) ∧ W.cell? ⟨b, 10, none⟩ = some (.int .i64 (D 10 : Int)) ∧ W.cell? ⟨b, 11, none⟩ = some (.int .i64 (D 11 : Int)) ∧ W.cell? ⟨b, 12, none⟩ = some (.int .i64 (D 12 : Int)) ∧ W.cell? ⟨b, 13, none⟩ = some (.int .i64 (D 13 : Int)) ∧ W.cell? ⟨b, 14, none⟩ = some (.int .i64 (D 14 : Int)) ∧ W.cell? ⟨b, 15, none⟩ = some (.int .i64 (D 15 : Int)) ∧ W.cell? ⟨b, 16, none⟩ = some (.int .i64 (D 16 : Int)) ∧ W.cell? ⟨b, 17, none⟩ = some (.int .i64 (D 17 : Int)) :=
  ⟨h.cell (by omega), h.cell (by omega), h.cell (by omega), h.cell (by omega), h.cell (by omega), h.cell (by omega), h.cell (by omega), h.cell (by omega), h.cell (by omega), h.cell (by omega), h.cell (by omega), h.cell (by omega), h.cell (by omega), h.cell (by omega), h.cell (by omega), h.cell (by omega), h.cell (by omega), h.cell (by omega)⟩
/-- The store of a whole array of numbers. -/
theorem NumAt.storeAll {W : World} {b : Nat} {E : Nat → Nat} (h : NumAt W b E) (D : Nat → Nat) : (storeCells ⟨b, 0, none⟩ (SG.numA D).toList).run Try.prog W = .ok () (W.setRow b (SG.numA D)) :=
  store_all Try.prog W b 61 _ _ h (by rw [SG.numA_size, SG.numA_size]) (SG.numA_one D)
theorem zeroA : SG.numA (fun _ => 0) = #[.int .i64 0, .int .i64 0, .int .i64 0, .int .i64 0, .int .i64 0, .int .i64 0, .int .i64 0, .int .i64 0, .int .i64 0, .int .i64 0, .int .i64 0, .int .i64 0, .int .i64 0, .int .i64 0, .int .i64 0, .int .i64 0, .int .i64 0, .int .i64 0] := rfl
theorem two_nums (w : World) (B : Nat) (hB : w.heap.size = B) : ∃ W0, ((w.alloc (.cells #[.int .i64 0, .int .i64 0, .int .i64 0, .int .i64 0, .int .i64 0, .int .i64 0, .int .i64 0, .int .i64 0, .int .i64 0, .int .i64 0, .int .i64 0, .int .i64 0, .int .i64 0, .int .i64 0, .int .i64 0, .int .i64 0, .int .i64 0, .int .i64 0] 61)).alloc (.cells #[.int .i64 0, .int .i64 0, .int .i64 0, .int .i64 0, .int .i64 0, .int .i64 0, .int .i64 0, .int .i64 0, .int .i64 0, .int .i64 0, .int .i64 0, .int .i64 0, .int .i64 0, .int .i64 0, .int .i64 0, .int .i64 0, .int .i64 0, .int .i64 0] 61)) = W0 ∧ NumAt W0 B (fun _ => 0) ∧ NumAt W0 (B + 1) (fun _ => 0) ∧ Below B w W0 := by
  subst hB
  have a1 := World.alloc_heap_new w (.cells #[.int .i64 0, .int .i64 0, .int .i64 0, .int .i64 0, .int .i64 0, .int .i64 0, .int .i64 0, .int .i64 0, .int .i64 0, .int .i64 0, .int .i64 0, .int .i64 0, .int .i64 0, .int .i64 0, .int .i64 0, .int .i64 0, .int .i64 0, .int .i64 0] 61)
  have a2 := World.alloc_heap_new (w.alloc (.cells #[.int .i64 0, .int .i64 0, .int .i64 0, .int .i64 0, .int .i64 0, .int .i64 0, .int .i64 0, .int .i64 0, .int .i64 0, .int .i64 0, .int .i64 0, .int .i64 0, .int .i64 0, .int .i64 0, .int .i64 0, .int .i64 0, .int .i64 0, .int .i64 0] 61)) (.cells #[.int .i64 0, .int .i64 0, .int .i64 0, .int .i64 0, .int .i64 0, .int .i64 0, .int .i64 0, .int .i64 0, .int .i64 0, .int .i64 0, .int .i64 0, .int .i64 0, .int .i64 0, .int .i64 0, .int .i64 0, .int .i64 0, .int .i64 0, .int .i64 0] 61)
  rw [World.size_alloc] at a2
  refine ⟨_, rfl, ?_, ?_, ((Below.refl _ w).alloc (Nat.le_refl _) _).alloc (by simp) _⟩
  · unfold NumAt
    rw [zeroA, Below.heap_alloc _ _ _ (by simp)]
    exact a1
  · unfold NumAt
    rw [zeroA]
    exact a2
/-- An operation that loads a whole array of numbers. -/
theorem wpList_load_nums {ops : Array Oper} {Q : Exit → Act → World → Prop} {a : Act} {w : World} {rest : List Oper} {o : Oper} {x : Operand} {b : Nat} {D : Nat → Nat} (hg : o.guard = none) (ho : o.op = .load 61 x)
    (hx : a.eval x = .pointer (some ⟨b, 0, none⟩)) (h : NumAt w b D) (hn : wpList Try.prog ops Q rest (a.put o.dst (.agg (SG.numA D))) w) : wpList Try.prog ops Q (o :: rest) a w := by
  refine wpList_plain hg fun K hK => ?_
  have hr : (execOp a.eval o).run Try.prog w = .ok (.value (.agg (SG.numA D))) w := by
    unfold execOp
    rw [ho]
    simp only [hx, Instr.loadAt, Instr.sureAddr, Sem.run_bind, Sem.run_pure, Result.andThen, h.load]
  unfold Oper.wp
  rw [hr]
  exact hK _ _ hn
/-- .. and one that stores it. -/
theorem wpList_store_nums {ops : Array Oper} {Q : Exit → Act → World → Prop} {a : Act} {w : World} {rest : List Oper} {o : Oper} {x y : Operand} {b : Nat} {D E : Nat → Nat} (hg : o.guard = none) (ho : o.op = .store 61 x y)
    (hx : a.eval x = .pointer (some ⟨b, 0, none⟩)) (hy : a.eval y = .agg (SG.numA D)) (h : NumAt w b E) (hn : wpList Try.prog ops Q rest (a.put o.dst undef) (w.setRow b (SG.numA D))) : wpList Try.prog ops Q (o :: rest) a w := by
  refine wpList_plain hg fun K hK => ?_
  have hs := run_storeVar_row (P := Try.prog) w b 61 61 _ (SG.numA D) h (info_nums D) (by rw [SG.numA_size, SG.numA_size]) (SG.numA_one D)
  have hr : (execOp a.eval o).run Try.prog w = .ok .skip (w.setRow b (SG.numA D)) := by
    unfold execOp
    rw [ho]
    simp only [hx, hy, Instr.storeAt, Instr.sureAddr, Sem.run_bind, Sem.run_pure, Result.andThen, hs]
  unfold Oper.wp
  rw [hr]
  exact hK _ _ hn
set_option maxHeartbeats 4000000 in
theorem ends_any (w : World) : Calls Try.prog 46 #[] w fun e w' => e = .returned (.agg (SG.numA fun _ => 15)) ∧ Below w.heap.size w w' := by
  go_enter Try.func46, Try.ntmps46
  go_wp2
  obtain ⟨B, hB⟩ : ∃ B, w.heap.size = B := ⟨_, rfl⟩
  obtain ⟨W0, hW0, n0, n1, hb0⟩ := two_nums w B hB
  rw [hW0, hB]
  clear hW0
  have hBw : B ≤ w.heap.size := by omega
  have HBW := Lib.hid hB
  clear hB
  go_loopw [3] (fun v wr => ∃ c : Nat, v = .int .i64 (c : Int) ∧ c ≤ 18 ∧ NumAt wr B (fun _ => 0) ∧ NumAt wr (B + 1) (fun k => if k < c then 15 else 0) ∧ Below B w wr) (fun v _ => 18 - (intOf v).toNat)
  case atStart => exact ⟨0, rfl, Nat.zero_le _, n0, n1.congr (fun c _ => by simp), hb0⟩
  case round =>
    clear n0 n1 hb0
    obtain ⟨c, rfl, hc, n0, n1, hb⟩ := hrel
    by_cases hc18 : c < 18
    · have hci : (c : Int) < 18 := by omega
      have hc0 : (0 : Int) ≤ (c : Int) := by omega
      have c1 := n1.cell hc18
      have f1 := n1.frozen c
      have HN0 := Lib.hid (n0.other (b' := B + 1) (by omega) c (.int .i64 15))
      have HN1 := Lib.hid (NumAt.congr (n1.set c 15) (E := fun k => if k < c + 1 then 15 else 0) (fun k hk => by
        by_cases h : k = c
        · simp [h]
        · by_cases h2 : k < c
          · simp [h, h2, show k < c + 1 by omega]
          · simp [h, h2, show ¬ k < c + 1 by omega]))
      have HB := Lib.hid (hb.setCell (p := ⟨B + 1, c, none⟩) (by simp) (.int .i64 15))
      clear n0 n1 hb
      go_wp2
      go_roundw
      case rel => exact ⟨c + 1, by go_num, hc18, HN0.out, HN1.out, HB.out⟩
      case measure => simp [intOf]; omega
    · have hci : ¬ (c : Int) < 18 := by omega
      obtain rfl : c = 18 := by omega
      have n2 := n1.congr (E := fun _ => 15) (fun k hk => by simp [hk])
      have HI := Lib.hid (info_nums (fun _ => 15))
      have HB := Lib.hid hb
      have HZ := Lib.hid (setRow_heap wr B _ (SG.numA (fun _ => 15)) _ _ n0)
      have HN := Lib.hid (And.intro n0 n2)
      clear n0 n1 n2 hb
      go_upto_region 7 with fail
      refine wp_region_lit ?_
      refine wpList_load_nums rfl rfl rfl HN.out.2 ?_
      refine wpList_store_nums rfl rfl rfl rfl HN.out.1 ?_
      refine wpList_nil ?_
      simp only [Act.put, List.setIfInBounds_toArray, List.set_cons_zero, List.set_cons_succ]
      go_wp2
      refine bodyPost_ret (results_cell_row Try.results46 _ _ B 61 (SG.numA (fun _ => 15)) (0, 0) _ rfl HZ.out Try.underlying61 rfl HI.out) rfl ?_
      exact ⟨rfl, by rw [HBW.out]; exact below_setRow HB.out (Nat.le_refl _) _⟩
end Go.Proofs.Ytinkhgmdeldniaa
