/- 'at != ends()': the test of Check's loop. No conditions. -/
import Derived.Test.YtinkhgmdeldniaaSgnAdv
import Derived.Stop.BytesEq
import Derived.Test.YtinkhgmdeldniaaLater
import Derived.Deep.WholeRow
import Derived.Deep.LoopGhost
namespace Go.Proofs.Ytinkhgmdeldniaa.SG
set_option maxRecDepth 100000
set_option linter.unusedVariables false
open Go.RowKit
/-- Are the first 18 numbers equal? -/
def sameN (D E : Nat → Nat) : Bool := (List.range 18).all fun i => D i == E i
theorem sameN_iff (D E : Nat → Nat) : sameN D E = true ↔ ∀ c, c < 18 → D c = E c := by
  unfold sameN
  simp
theorem are_all8 {l : List ByteArray} (h : are l = true) (c : Nat) (hc : c < 18) : (l.getD c ⟨#[]⟩).size = 8 := by
  unfold are at h
  rw [Bool.and_eq_true, List.all_eq_true] at h
  have hl : l.length = 18 := by simpa using h.2
  rw [List.getD_eq_getElem?_getD, List.getElem?_eq_getElem (by omega)]
  simpa using h.1 _ (List.getElem_mem (by omega))
/-- After enough steps the links are the last ones. -/
theorem cat_lt (msg : ByteArray) (l : List ByteArray) (hl : l.length = 18) : cat (lt l (dig msg) (fun _ => 15)) = fin msg l 18 := by
  have key : ∀ k, k ≤ 18 → cat ((List.range k).map fun c => lk (l.getD c ⟨#[]⟩) (15 - dig msg c)) = fin msg l k := by
    intro k
    induction k with
    | zero => intro _; rfl
    | succ k ih =>
      intro hk
      rw [List.range_succ, List.map_append, List.map_cons, List.map_nil, cat_snoc, ih (by omega)]
      rfl
  rw [← key 18 (Nat.le_refl _)]
  unfold lt
  congr 1
  apply List.map_congr_left
  intro c hc
  show lk _ (min 15 _) = _
  rw [Nat.min_eq_right (by omega)]
end Go.Proofs.Ytinkhgmdeldniaa.SG
namespace Go.Proofs.Ytinkhgmdeldniaa
set_option maxRecDepth 100000
set_option linter.unusedVariables false
open Go.RowKit Go.Deep
theorem elems_many : ∀ (f : Nat) (l : List (List UInt8)) (r : W.WP.RS), (W.WP.elems W.WP.RS.text f l r).1.length ≤ l.length + f
  | 0, l, r => Nat.le_refl _
  | f + 1, l, r => by
    rw [W.WP.elems]
    split
    · show l.length ≤ _
      omega
    · have := elems_many f (l ++ [r.text.1]) r.text.2
      rw [List.length_append] at this
      simp only [List.length_cons, List.length_nil] at this
      omega
theorem texts_many (r : W.WP.RS) : r.texts.1.length ≤ r.s.length := by
  have hc := W.WP.count_len r
  have := elems_many r.count.1.toNat [] r.count.2
  unfold W.WP.RS.texts W.WP.RS.elements
  split
  · exact Nat.zero_le _
  · simp only [List.length_nil] at this
    omega
theorem store_new (V : World) (D : Nat → Nat) : (storeCells ⟨V.heap.size, 0, none⟩ (SG.numA D).toList).run Try.prog (V.alloc (.cells #[.int .i64 0, .int .i64 0, .int .i64 0, .int .i64 0, .int .i64 0, .int .i64 0, .int .i64 0, .int .i64 0, .int .i64 0, .int .i64 0, .int .i64 0, .int .i64 0, .int .i64 0, .int .i64 0, .int .i64 0, .int .i64 0, .int .i64 0, .int .i64 0] 61)) = .ok () (V.alloc (.cells (SG.numA D) 61)) := by
  have h := run_storeCells_new (P := Try.prog) V 61 (SG.numA fun _ => 0) (SG.numA D) (info_nums D) (by rw [SG.numA_size, SG.numA_size]) (SG.numA_one D)
  rw [zeroA] at h
  exact h
theorem sizeOf_int : ∀ w, (sizeOf 3).run Try.prog w = .ok 1 w := by
  intro w
  obtain ⟨i0, hif, hz0, hz1, hz2⟩ := info_parts info_int
  simp [sizeOf, typeInfo, hif, hz1]
theorem run_equal_nums (w : World) (d : Nat) (D E : Nat → Nat) : (Op.equalIn (d + 2) 61 (.agg (SG.numA D)) (.agg (SG.numA E))).run Try.prog w = .ok (SG.sameN D E) w := by
  unfold SG.sameN
  rw [List.range_eq_range', Op.equalIn]
  simp only [Sem.run_bind, run_underlying Try.underlying61, Result.andThen_ok, sizeOf_int, Std.Legacy.Range.forIn_eq_forIn_range', Std.Legacy.Range.size, Nat.sub_zero, Nat.add_sub_cancel, Nat.div_one]
  have hl : ∀ i ∈ List.range' 0 18 1, i < 18 := fun i hi => by simpa using (List.mem_range'_1.1 hi).2
  generalize List.range' 0 18 1 = l at hl ⊢
  induction l with
  | nil => simp
  | cons i l ih =>
    have hi : i < 18 := hl i (by simp)
    have px : (part 3 (SG.numA D) (i * 1)).run Try.prog w = .ok (.int .i64 (D i : Int)) w := by
      simp [part, isAgg, run_underlying Try.underlying3, SG.numA_at D hi]
    have py : (part 3 (SG.numA E) (i * 1)).run Try.prog w = .ok (.int .i64 (E i : Int)) w := by
      simp [part, isAgg, run_underlying Try.underlying3, SG.numA_at E hi]
    have pe : (Op.equalIn (d + 1) 3 (.int .i64 (D i : Int)) (.int .i64 (E i : Int))).run Try.prog w = .ok (D i == E i) w := by
      rw [run_equalIn_int w d 3 .i64 .i64 _ _ Try.underlying3]
      congr 1
      rw [Bool.eq_iff_iff]
      simp
      omega
    simp only [List.forIn_cons, Sem.run_bind, px, py, pe, Result.andThen_ok, List.all_cons]
    cases hb : (D i == E i)
    · simp
    · simp only [Bool.not_true, Bool.false_eq_true, if_false, Sem.run_pure, Result.andThen_ok, Bool.true_and]
      exact ih fun j hj => hl j (by simp [hj])
theorem neq_nums (w : World) (D E : Nat → Nat) : (binOp .neq 61 (.agg (SG.numA D)) (.agg (SG.numA E))).run Try.prog w = .ok (.bool (!SG.sameN D E)) w := by
  rw [run_neq_struct, run_equal_nums w 9998 D E]
  rfl
theorem guard_nums (w : World) (x y : Operand) (D E : Array Value) : (eqGuard .neq 61 x y (.agg D) (.agg E)).run Try.prog w = .ok () w := run_eqGuard_agg w .neq _ _ _ _ _ (by kernel_rfl)
theorem wpList_mv {P : Program} {ops : Array Oper} {Q : Exit → Act → World → Prop} {a : Act} {w : World} {rest : List Oper} {o : Oper} {x : Operand} (hg : o.guard = none) (ho : o.op = .move x)
    (hn : wpList P ops Q rest (a.put o.dst (a.eval x)) w) : wpList P ops Q (o :: rest) a w := by
  refine wpList_plain hg fun K hK => ?_
  unfold Oper.wp
  rw [BigFrame.run_move x ho]
  exact hK _ _ hn
set_option maxHeartbeats 4000000 in
/-- 'at != ends()'. -/
theorem chk_test {u0 u1 u2 u3 u4 u5 u6 u7 u8 u9 u10 u12 u13 u14 u15 u16 u17 u18 u19 u20 u21 u22 u23 u24 u25 u26 u27 u28 u29 u30 u31 u32 u33 u34 u35 u36 u37 u38 u39 u40 u41 u42 u43 u44 u45 u46 : Value} {A : Nat} {F : Nat → Nat} {wr : World} {Q : Exit → Act → World → Prop} (hn : NumAt wr A F)
    (h : ∀ w9, Below wr.heap.size wr w9 → Q .normal { tmps := (u0 :: u1 :: u2 :: u3 :: u4 :: u5 :: u6 :: u7 :: u8 :: u9 :: u10 :: .pointer (some ⟨A, 0, none⟩) :: u12 :: u13 :: u14 :: u15 :: u16 :: u17 :: u18 :: u19 :: u20 :: u21 :: u22 :: u23 :: u24 :: u25 :: u26 :: u27 :: u28 :: u29 :: u30 :: u31 :: u32 :: u33 :: .agg (SG.numA F) :: .agg (SG.numA fun _ => 15) :: .bool (!SG.sameN F fun _ => 15) :: u37 :: u38 :: u39 :: u40 :: u41 :: u42 :: u43 :: u44 :: u45 :: u46 :: []).toArray, defers := [] } w9) :
    (Code.region 6 #[{ dst := some 34, op := Op.load 61 (Operand.tmp 11), type := 61, pos := "sign.go:126", after := #[], guard := none }, { dst := some 35, op := Op.call { callee := Callee.value (Operand.func 46), args := #[], argTypes := #[] }, type := 61, pos := "sign.go:126", after := #[], guard := none }, { dst := some 36, op := Op.binOp BinOp.neq 61 (Operand.tmp 34) (Operand.tmp 35) 61, type := 4, pos := "sign.go:126", after := #[{ on := 0, ground := Ground.data }, { on := 1, ground := Ground.data }], guard := none }] true).wp Try.prog Q { tmps := (u0 :: u1 :: u2 :: u3 :: u4 :: u5 :: u6 :: u7 :: u8 :: u9 :: u10 :: .pointer (some ⟨A, 0, none⟩) :: u12 :: u13 :: u14 :: u15 :: u16 :: u17 :: u18 :: u19 :: u20 :: u21 :: u22 :: u23 :: u24 :: u25 :: u26 :: u27 :: u28 :: u29 :: u30 :: u31 :: u32 :: u33 :: u34 :: u35 :: u36 :: u37 :: u38 :: u39 :: u40 :: u41 :: u42 :: u43 :: u44 :: u45 :: u46 :: []).toArray, defers := [] } wr := by
  obtain ⟨c0, c1, c2, c3, c4, c5, c6, c7, c8, c9, c10, c11, c12, c13, c14, c15, c16, c17⟩ := hn.cells
  have l0 := Later.cell c0
  have l1 := Later.cell c1
  have l2 := Later.cell c2
  have l3 := Later.cell c3
  have l4 := Later.cell c4
  have l5 := Later.cell c5
  have l6 := Later.cell c6
  have l7 := Later.cell c7
  have l8 := Later.cell c8
  have l9 := Later.cell c9
  have l10 := Later.cell c10
  have l11 := Later.cell c11
  have l12 := Later.cell c12
  have l13 := Later.cell c13
  have l14 := Later.cell c14
  have l15 := Later.cell c15
  have l16 := Later.cell c16
  have l17 := Later.cell c17
  have HH := Lib.hid h
  rw [numA_lit F] at HH
  obtain ⟨E, hE⟩ : ∃ E, SG.numA (fun _ => 15) = E := ⟨_, rfl⟩
  obtain ⟨s, hs⟩ : ∃ s, SG.sameN F (fun _ => 15) = s := ⟨_, rfl⟩
  have hneq := fun V => neq_nums V F (fun _ => 15)
  have hgd := fun V x y => guard_nums V x y (SG.numA F) (SG.numA fun _ => 15)
  rw [numA_lit F, hE, hs] at hneq
  rw [numA_lit F, hE] at hgd
  rw [hE, hs] at HH
  have HEN := Lib.hid (fun V => ends_any V)
  rw [hE] at HEN
  clear hn hE hs h
  refine wp_region_later (by kernel_rfl) (by kernel_rfl) ?_
  repeat (go_big_quiet_step ((go_at_call 46; exact calls_later _ (HEN.out _))))
  refine wpQuiet_nil ?_
  intro w9 hw'
  obtain ⟨s5, hs5⟩ := hw'
  have k9 : Below wr.heap.size wr w9 := by rw [hs5]; exact s5.le
  exact HH.out w9 k9
end Go.Proofs.Ytinkhgmdeldniaa
