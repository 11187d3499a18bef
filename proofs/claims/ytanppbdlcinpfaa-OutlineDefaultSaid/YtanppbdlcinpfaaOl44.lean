/- What a case makes. No conditions. -/
import Derived.Test.YtanppbdlcinpfaaOl38
import Derived.Test.YtanppbdlcinpfaaOl39
import Derived.Test.YtanppbdlcinpfaaOl43
import Derived.Test.YtanppbdlcinpfaaHeldIn
set_option linter.unusedSimpArgs false
set_option linter.unusedVariables false
namespace Go.Proofs.Ytanppbdlcinpfaa
set_option maxRecDepth 100000
set_option linter.unusedVariables false
open Go.RowKit Go.Deep
theorem results_ctt {P : Program} {fn : Func} {p u v : Tmp} {ty : TypeId} (h : fn.results = #[.cell p ty, .tmp u, .tmp v]) (tmps : Array Value) (w : World) (g : Nat) (t : TypeId) (cs : Array Value) (fr : Nat × Nat) (d : TypeDesc)
    (hp : tmps.getD p undef = .pointer (some ⟨g, 0, none⟩)) (hg : w.heap[g]? = some (.cells cs t fr))
    (hu : P.underlying ty = some d) (hd : (match d with | .struct _ | .array _ _ => true | _ => false) = true) (hi : (P.info? ty).map (·.size) = some cs.size) :
    (results fn tmps).run P w = .ok (.tuple #[.agg cs, tmps.getD u undef, tmps.getD v undef]) w := by
  have hp' : tmps[p]?.getD undef = .pointer (some ⟨g, 0, none⟩) := by simpa using hp
  simp [results, h, hp', asAddr, run_loadVar_row w g t ty cs fr d hg hu hd hi]
theorem gk_shape {W : World} {u : Value} {G : Gl} (h : GkAt W u G) : ∃ (n1 n2 n3 : Nat) (c1 : Option Addr) (k1 : Nat) (c2 : Option Addr) (k2 : Nat) (c3 : Option Addr) (k3 : Nat) (hc hx hy ad : Int), u = .agg #[.slice c1 n1 k1, .slice c2 n2 k2, .int .i64 hc, .int .i64 hx, .int .i64 hy, .int .i64 ad, .slice c3 n3 k3, .slice none 0 0] := by
  obtain ⟨vc, va, vd, rfl, h1, h2, h3, -⟩ := h
  obtain ⟨c1, k1, rfl⟩ := h1.cs.shape
  obtain ⟨c2, k2, rfl⟩ := h2.shape
  obtain ⟨c3, k3, rfl⟩ := h3.shape
  exact ⟨_, _, _, _, _, _, _, _, _, _, _, _, _, rfl⟩
set_option maxHeartbeats 8000000 in
theorem made_any (W : World) (v : Value) (LG LR LA : List Int) (q0 q1 q2 x y : Int) (h : CaArg W v LG LR LA q0 q1 q2 x y) :
    Calls Try.prog 11 #[v] W fun e W' => ∃ u ur ua G R n many L, e = .returned (.tuple #[u, ur, ua]) ∧ GkAt W' u G ∧ MkOk G many ∧ RgAt W' ur R ∧ R.length = many ∧ (∀ r ∈ R, AX.right r (n : Nat) = true ∧ r.length = n) ∧ InAt W' ua (AX.mkAt L n) ∧ 1 ≤ n ∧ n ≤ 3 ∧ many ≤ 3 ∧ Below W.heap.size W W' := by
  obtain ⟨ag, cg, ar, cr, aa, ca, rfl, ⟨i0, l0, p0⟩, ⟨i1, l1, p1⟩, ⟨i2, l2, -⟩, hx, hy⟩ := h
  have HI : Hid ((InAt W (.slice ag LG.length cg) LG ∧ InAt W (.slice ar LR.length cr) LR ∧ InAt W (.slice aa LA.length ca) LA) ∧ (LG.length ≤ maxLen ∧ LR.length ≤ maxLen ∧ LA.length ≤ maxLen) ∧ LR.length ≤ cr) := Lib.hid ⟨⟨i0, i1, i2⟩, ⟨l0, l1, l2⟩, (p1 _ _ _ rfl).1⟩
  clear i0 i1 i2 l0 l1 l2 p0 p1
  obtain ⟨ng, hng⟩ : ∃ z, LG.length = z := ⟨_, rfl⟩
  obtain ⟨nr, hnr⟩ : ∃ z, LR.length = z := ⟨_, rfl⟩
  obtain ⟨na, hna⟩ : ∃ z, LA.length = z := ⟨_, rfl⟩
  rw [hng, hnr, hna] at HI ⊢
  have HLN := Lib.hid (And.intro hng (And.intro hnr hna))
  clear hng hnr hna
  obtain ⟨x3, hx3⟩ : ∃ n : Nat, x % 3 = (n : Int) := ⟨(x % 3).toNat, by omega⟩
  obtain ⟨y4, hy4⟩ : ∃ n : Nat, y % 4 = (n : Int) := ⟨(y % 4).toNat, by omega⟩
  have hxt : x.tmod 3 = (x3 : Int) := (Int.tmod_eq_emod_of_nonneg hx.1).trans hx3
  have hyt : y.tmod 4 = (y4 : Int) := (Int.tmod_eq_emod_of_nonneg hy.1).trans hy4
  obtain ⟨n, hn⟩ : ∃ n, x3 + 1 = n := ⟨_, rfl⟩
  have hnb : 1 ≤ n ∧ n ≤ 3 := by omega
  have hyb : y4 ≤ 3 := by omega
  have hw0 : IntKind.i64.wrap x = x := IntWalk.i64_in _ (by omega)
  have hw1 : IntKind.i64.wrap y = y := IntWalk.i64_in _ (by omega)
  have hw2 : IntKind.i64.wrap (x3 : Int) = (x3 : Int) := IntWalk.i64_in _ (by omega)
  have hw3 : IntKind.i64.wrap (y4 : Int) = (y4 : Int) := IntWalk.i64_in _ (by omega)
  have hw4 : IntKind.i64.wrap ((x3 : Int) + 1) = (n : Int) := by rw [IntKind.wrap_i64]; omega
  obtain ⟨hnb1, hnb2⟩ := hnb
  clear hx hy hx3 hy4 hn
  obtain ⟨B, hB⟩ : ∃ B, W.heap.size = B := ⟨_, rfl⟩
  have y0 := heap_alloc_new W (.cells #[.slice ag ng cg, .slice ar nr cr, .slice aa na ca, .int .i64 q0, .int .i64 q1, .int .i64 q2, .int .u8 x, .int .u8 y] 25)
  have y1 := heap_alloc_new (W.alloc (.cells #[.slice ag ng cg, .slice ar nr cr, .slice aa na ca, .int .i64 q0, .int .i64 q1, .int .i64 q2, .int .u8 x, .int .u8 y] 25)) (.cells #[.slice none 0 0, .slice none 0 0, .int .i64 0, .int .i64 0, .int .i64 0, .int .i64 0, .slice none 0 0, .slice none 0 0] 34)
  have bb := balloc (Below.refl _ (W.alloc (.cells #[.slice ag ng cg, .slice ar nr cr, .slice aa na ca, .int .i64 q0, .int .i64 q1, .int .i64 q2, .int .u8 x, .int .u8 y] 25))) (.cells #[.slice none 0 0, .slice none 0 0, .int .i64 0, .int .i64 0, .int .i64 0, .int .i64 0, .slice none 0 0, .slice none 0 0] 34)
  have hb1 := balloc (balloc (Below.refl _ W) (.cells #[.slice ag ng cg, .slice ar nr cr, .slice aa na ca, .int .i64 q0, .int .i64 q1, .int .i64 q2, .int .u8 x, .int .u8 y] 25)) (.cells #[.slice none 0 0, .slice none 0 0, .int .i64 0, .int .i64 0, .int .i64 0, .int .i64 0, .slice none 0 0, .slice none 0 0] 34)
  simp only [World.size_alloc] at y1 bb
  obtain ⟨W1, hW1⟩ : ∃ W1, (W.alloc (.cells #[.slice ag ng cg, .slice ar nr cr, .slice aa na ca, .int .i64 q0, .int .i64 q1, .int .i64 q2, .int .u8 x, .int .u8 y] 25)).alloc (.cells #[.slice none 0 0, .slice none 0 0, .int .i64 0, .int .i64 0, .int .i64 0, .int .i64 0, .slice none 0 0, .slice none 0 0] 34) = W1 := ⟨_, rfl⟩
  rw [hW1] at y1 bb hb1
  rw [hB] at y0 y1 bb
  have HB1 := Lib.hid hb1
  have HX := Lib.hid hB
  have HZ : Hid (∀ U, Below W1.heap.size W1 U → U.heap[B + 1]? = some (.cells #[.slice none 0 0, .slice none 0 0, .int .i64 0, .int .i64 0, .int .i64 0, .int .i64 0, .slice none 0 0, .slice none 0 0] 34 (0, 0))) := Lib.hid fun U hU => (hU.block _ (Array.getElem?_eq_some_iff.1 y1).1).trans y1
  have y0' := (bb.block B (by omega)).trans y0
  have HKF : Hid (∀ U, FrS (fun q => q = B + 1) W1 U → U.cell? ⟨B, 0, none⟩ = some (.slice ag ng cg) ∧ U.cell? ⟨B, 1, none⟩ = some (.slice ar nr cr) ∧ U.cell? ⟨B, 2, none⟩ = some (.slice aa na ca) ∧ U.cell? ⟨B, 3, none⟩ = some (.int .i64 q0) ∧ U.cell? ⟨B, 4, none⟩ = some (.int .i64 q1) ∧ U.cell? ⟨B, 5, none⟩ = some (.int .i64 q2) ∧ U.cell? ⟨B, 6, none⟩ = some (.int .u8 x) ∧ U.cell? ⟨B, 7, none⟩ = some (.int .u8 y)) := Lib.hid fun U hU => by
    have h := hU.nd y0' (by omega)
    exact ⟨nd_cell h rfl, nd_cell h rfl, nd_cell h rfl, nd_cell h rfl, nd_cell h rfl, nd_cell h rfl, nd_cell h rfl, nd_cell h rfl⟩
  have HKC : Hid (∀ U, Below W1.heap.size W1 U → U.cell? ⟨B, 0, none⟩ = some (.slice ag ng cg) ∧ U.cell? ⟨B, 1, none⟩ = some (.slice ar nr cr) ∧ U.cell? ⟨B, 2, none⟩ = some (.slice aa na ca) ∧ U.cell? ⟨B, 3, none⟩ = some (.int .i64 q0) ∧ U.cell? ⟨B, 4, none⟩ = some (.int .i64 q1) ∧ U.cell? ⟨B, 5, none⟩ = some (.int .i64 q2) ∧ U.cell? ⟨B, 6, none⟩ = some (.int .u8 x) ∧ U.cell? ⟨B, 7, none⟩ = some (.int .u8 y)) := Lib.hid fun U hU => HKF.out U (FrS.of hU)
  clear y0 y1 bb hb1 y0'
  have HM1 : Hid (∀ U, Below W1.heap.size W1 U → Calls Try.prog 30 #[.slice ag ng cg, .int .i64 (y4 : Int)] U fun e W' => ∃ u G, e = .returned u ∧ (∀ V, FrS (fun b => b < U.heap.size) W' V → GkAt V u G) ∧ MkOk G y4 ∧ Below U.heap.size U W') := Lib.hid fun U hU => rmade_any U _ LG y4 (HI.out.1.1.keep (bnext HB1.out hU)) (by rw [HLN.out.1]; exact HI.out.2.1.1) (by omega)
  have HM2 : Hid (∀ U, Below W1.heap.size W1 U → Calls Try.prog 31 #[.slice ar nr cr, .int .i64 (n : Int), .int .i64 (y4 : Int)] U fun e W' => ∃ u R, e = .returned u ∧ (∀ V, FrS (fun b => b < U.heap.size) W' V → RgAt V u R) ∧ R.length = y4 ∧ (∀ r ∈ R, AX.right r n = true ∧ r.length = n) ∧ Below U.heap.size U W') := Lib.hid fun U hU => rregions_any U _ LR n y4 (HI.out.1.2.1.keep (bnext HB1.out hU)) (by rw [HLN.out.2.1]; exact HI.out.2.1.2.1) (fun a m c e => by injection e with e1 e2 e3; have := HI.out.2.2; omega) (by omega) (by omega) (by have := hU.size; have := (Array.getElem?_eq_some_iff.1 (HZ.out W1 (Below.refl _ _))).1; omega)
  have HM3 : Hid (∀ U, Below W1.heap.size W1 U → Calls Try.prog 32 #[.slice aa na ca, .int .i64 (n : Int)] U fun e w' => ∃ v', e = .returned v' ∧ w'.ownsRow U.heap.size 3 1 v' n ((AX.mkAt LA n).map (Value.int .i64)) ∧ Below U.heap.size U w') := Lib.hid fun U hU => madeat_any LA n _ U (HI.out.1.2.2.keep (bnext HB1.out hU)) (by rw [HLN.out.2.2]; exact HI.out.2.1.2.2) (by omega)
  go_enter Try.func11, Try.ntmps11
  go_upto_region 1 with fail
  try rw [show W.heap.size + 1 = B + 1 by rw [hB]]
  try rw [hB]
  try rw [hW1]
  clear hW1 hB
  rename_i hKK
  have HKK := Lib.hid hKK
  clear hKK
  refine wp_region_held_drew (S := (fun U => U.cell? ⟨B, 0, none⟩ = some (.slice ag ng cg) ∧ U.cell? ⟨B, 1, none⟩ = some (.slice ar nr cr) ∧ U.cell? ⟨B, 2, none⟩ = some (.slice aa na ca) ∧ U.cell? ⟨B, 3, none⟩ = some (.int .i64 q0) ∧ U.cell? ⟨B, 4, none⟩ = some (.int .i64 q1) ∧ U.cell? ⟨B, 5, none⟩ = some (.int .i64 q2) ∧ U.cell? ⟨B, 6, none⟩ = some (.int .u8 x) ∧ U.cell? ⟨B, 7, none⟩ = some (.int .u8 y))) (by kernel_rfl) ?_ (fun hHeld => ?_)
  · exact HKC.out _ (Below.drew (Below.refl _ W1))
  refine wpAnyH_take (i := 0) (oi := { dst := some 7, op := Op.fieldAddr 25 (Operand.tmp 1) 4, type := 0, pos := "law.go:56", after := #[], guard := none }) (v := ?_) rfl (by kernel_rfl) (by kernel_rfl) (by kernel_rfl) (fun _ _ _ h => h) (Or.inl ⟨by rfl, ?_⟩) (by assumption) ?_
  rotate_left
  · ((intro w hSw; (try dsimp only at hSw); go_simp; (try rw [if_neg (by omega)])); try with_reducible rfl)
  (try simp only [Act.put, List.setIfInBounds_toArray, List.set_cons_zero, List.set_cons_succ])
  refine wpAnyH_take (i := 1) (oi := { dst := some 8, op := Op.load 5 (Operand.tmp 7), type := 5, pos := "law.go:56", after := #[{ on := 0, ground := Ground.data }], guard := none }) (v := ?_) rfl (by kernel_rfl) (by kernel_rfl) (by kernel_rfl) (fun _ _ _ h => h) (Or.inl ⟨by rfl, ?_⟩) (by assumption) ?_
  rotate_left
  · ((intro w hSw; (try dsimp only at hSw); go_simp; (try rw [if_neg (by omega)])); try with_reducible rfl)
  (try simp only [Act.put, List.setIfInBounds_toArray, List.set_cons_zero, List.set_cons_succ])
  refine wpAnyH_take (i := 2) (oi := { dst := some 9, op := Op.convert 5 3 (Operand.tmp 8), type := 3, pos := "law.go:56", after := #[{ on := 1, ground := Ground.data }], guard := none }) (v := ?_) rfl (by kernel_rfl) (by kernel_rfl) (by kernel_rfl) (fun _ _ _ h => h) (Or.inl ⟨by rfl, ?_⟩) (by assumption) ?_
  rotate_left
  · ((intro w hSw; (try dsimp only at hSw); go_simp; (try rw [if_neg (by omega)])); try with_reducible rfl)
  (try simp only [Act.put, List.setIfInBounds_toArray, List.set_cons_zero, List.set_cons_succ])
  refine wpAnyH_take (i := 3) (oi := { dst := some 10, op := Op.binOp BinOp.rem 3 (Operand.tmp 9) (Operand.const (Value.int IntKind.i64 3)) 3, type := 3, pos := "law.go:56", after := #[{ on := 2, ground := Ground.data }], guard := none }) (v := ?_) rfl (by kernel_rfl) (by kernel_rfl) (by kernel_rfl) (fun _ _ _ h => h) (Or.inl ⟨by rfl, ?_⟩) (by assumption) ?_
  rotate_left
  · ((intro w hSw; (try dsimp only at hSw); go_simp; (try rw [if_neg (by omega)])); try with_reducible rfl)
  (try simp only [Act.put, List.setIfInBounds_toArray, List.set_cons_zero, List.set_cons_succ])
  refine wpAnyH_take (i := 4) (oi := { dst := some 11, op := Op.binOp BinOp.add 3 (Operand.tmp 10) (Operand.const (Value.int IntKind.i64 1)) 3, type := 3, pos := "law.go:56", after := #[{ on := 3, ground := Ground.data }], guard := none }) (v := ?_) rfl (by kernel_rfl) (by kernel_rfl) (by kernel_rfl) (fun _ _ _ h => h) (Or.inl ⟨by rfl, ?_⟩) (by assumption) ?_
  rotate_left
  · ((intro w hSw; (try dsimp only at hSw); go_simp; (try rw [if_neg (by omega)])); try with_reducible rfl)
  (try simp only [Act.put, List.setIfInBounds_toArray, List.set_cons_zero, List.set_cons_succ])
  refine wpAnyH_take (i := 5) (oi := { dst := some 12, op := Op.fieldAddr 25 (Operand.tmp 1) 5, type := 0, pos := "law.go:56", after := #[{ on := 9, ground := Ground.gcOnly Departure.lateStores }], guard := none }) (v := ?_) rfl (by kernel_rfl) (by kernel_rfl) (by kernel_rfl) (fun _ _ _ h => h) (Or.inl ⟨by rfl, ?_⟩) (by assumption) ?_
  rotate_left
  · ((intro w hSw; (try dsimp only at hSw); go_simp; (try rw [if_neg (by omega)])); try with_reducible rfl)
  (try simp only [Act.put, List.setIfInBounds_toArray, List.set_cons_zero, List.set_cons_succ])
  refine wpAnyH_take (i := 6) (oi := { dst := some 13, op := Op.load 5 (Operand.tmp 12), type := 5, pos := "law.go:56", after := #[{ on := 5, ground := Ground.data }, { on := 9, ground := Ground.gcOnly Departure.lateStores }], guard := none }) (v := ?_) rfl (by kernel_rfl) (by kernel_rfl) (by kernel_rfl) (fun _ _ _ h => h) (Or.inl ⟨by rfl, ?_⟩) (by assumption) ?_
  rotate_left
  · ((intro w hSw; (try dsimp only at hSw); go_simp; (try rw [if_neg (by omega)])); try with_reducible rfl)
  (try simp only [Act.put, List.setIfInBounds_toArray, List.set_cons_zero, List.set_cons_succ])
  refine wpAnyH_take (i := 7) (oi := { dst := some 14, op := Op.convert 5 3 (Operand.tmp 13), type := 3, pos := "law.go:56", after := #[{ on := 6, ground := Ground.data }, { on := 9, ground := Ground.gcOnly Departure.lateStores }], guard := none }) (v := ?_) rfl (by kernel_rfl) (by kernel_rfl) (by kernel_rfl) (fun _ _ _ h => h) (Or.inl ⟨by rfl, ?_⟩) (by assumption) ?_
  rotate_left
  · ((intro w hSw; (try dsimp only at hSw); go_simp; (try rw [if_neg (by omega)])); try with_reducible rfl)
  (try simp only [Act.put, List.setIfInBounds_toArray, List.set_cons_zero, List.set_cons_succ])
  refine wpAnyH_take (i := 8) (oi := { dst := some 15, op := Op.binOp BinOp.rem 3 (Operand.tmp 14) (Operand.const (Value.int IntKind.i64 4)) 3, type := 3, pos := "law.go:56", after := #[{ on := 7, ground := Ground.data }, { on := 9, ground := Ground.gcOnly Departure.lateStores }], guard := none }) (v := ?_) rfl (by kernel_rfl) (by kernel_rfl) (by kernel_rfl) (fun _ _ _ h => h) (Or.inl ⟨by rfl, ?_⟩) (by assumption) ?_
  rotate_left
  · ((intro w hSw; (try dsimp only at hSw); go_simp; (try rw [if_neg (by omega)])); try with_reducible rfl)
  (try simp only [Act.put, List.setIfInBounds_toArray, List.set_cons_zero, List.set_cons_succ])
  refine wpAnyH_take (i := 9) (oi := { dst := some 5, op := Op.assign (Operand.tmp 11), type := 3, pos := "law.go:56", after := #[{ on := 4, ground := Ground.data }, { on := 0, ground := Ground.phase }, { on := 1, ground := Ground.phase }, { on := 2, ground := Ground.phase }, { on := 3, ground := Ground.phase }, { on := 4, ground := Ground.phase }, { on := 5, ground := Ground.textOnly Departure.lateStores }, { on := 6, ground := Ground.textOnly Departure.lateStores }, { on := 7, ground := Ground.textOnly Departure.lateStores }, { on := 8, ground := Ground.textOnly Departure.lateStores }], guard := none }) (v := ?_) rfl (by kernel_rfl) (by kernel_rfl) (by kernel_rfl) (fun _ _ _ h => h) (Or.inl ⟨by rfl, ?_⟩) (by assumption) ?_
  rotate_left
  · ((intro w hSw; (try dsimp only at hSw); go_simp; (try rw [if_neg (by omega)])); try with_reducible rfl)
  (try simp only [Act.put, List.setIfInBounds_toArray, List.set_cons_zero, List.set_cons_succ])
  refine wpAnyH_take (i := 10) (oi := { dst := some 6, op := Op.assign (Operand.tmp 15), type := 3, pos := "law.go:56", after := #[{ on := 8, ground := Ground.data }, { on := 9, ground := Ground.chain }, { on := 0, ground := Ground.phase }, { on := 1, ground := Ground.phase }, { on := 2, ground := Ground.phase }, { on := 3, ground := Ground.phase }, { on := 4, ground := Ground.phase }, { on := 5, ground := Ground.phase }, { on := 6, ground := Ground.phase }, { on := 7, ground := Ground.phase }, { on := 8, ground := Ground.phase }, { on := 9, ground := Ground.phase }], guard := none }) (v := ?_) rfl (by kernel_rfl) (by kernel_rfl) (by kernel_rfl) (fun _ _ _ h => h) (Or.inl ⟨by rfl, ?_⟩) (by assumption) ?_
  rotate_left
  · ((intro w hSw; (try dsimp only at hSw); go_simp; (try rw [if_neg (by omega)])); try with_reducible rfl)
  (try simp only [Act.put, List.setIfInBounds_toArray, List.set_cons_zero, List.set_cons_succ])
  refine wpAnyH_done (by kernel_rfl) ?_ _
  clear hHeld
  go_simp
  refine HKK.out _ _ ?_
  go_upto_region 2 with fail
  refine wp_region_held_drew (S := (fun U => U.cell? ⟨B, 0, none⟩ = some (.slice ag ng cg) ∧ U.cell? ⟨B, 1, none⟩ = some (.slice ar nr cr) ∧ U.cell? ⟨B, 2, none⟩ = some (.slice aa na ca) ∧ U.cell? ⟨B, 3, none⟩ = some (.int .i64 q0) ∧ U.cell? ⟨B, 4, none⟩ = some (.int .i64 q1) ∧ U.cell? ⟨B, 5, none⟩ = some (.int .i64 q2) ∧ U.cell? ⟨B, 6, none⟩ = some (.int .u8 x) ∧ U.cell? ⟨B, 7, none⟩ = some (.int .u8 y))) (by kernel_rfl) ?_ (fun hHeld => ?_)
  · exact HKC.out _ (Below.drew (Below.drew (Below.refl _ W1)))
  refine wpAnyH_take (i := 0) (oi := { dst := some 16, op := Op.fieldAddr 25 (Operand.tmp 1) 0, type := 0, pos := "law.go:57", after := #[], guard := none }) (v := ?_) rfl (by kernel_rfl) (by kernel_rfl) (by kernel_rfl) (fun _ _ _ h => h) (Or.inl ⟨by rfl, ?_⟩) (by assumption) ?_
  rotate_left
  · ((intro w hSw; (try dsimp only at hSw); go_simp; (try rw [if_neg (by omega)])); try with_reducible rfl)
  (try simp only [Act.put, List.setIfInBounds_toArray, List.set_cons_zero, List.set_cons_succ])
  refine wpAnyH_take (i := 1) (oi := { dst := some 17, op := Op.load 22 (Operand.tmp 16), type := 22, pos := "law.go:57", after := #[{ on := 0, ground := Ground.data }], guard := none }) (v := ?_) rfl (by kernel_rfl) (by kernel_rfl) (by kernel_rfl) (fun _ _ _ h => h) (Or.inl ⟨by rfl, ?_⟩) (by assumption) ?_
  rotate_left
  · ((intro w hSw; (try dsimp only at hSw); go_simp; (try rw [if_neg (by omega)])); try with_reducible rfl)
  (try simp only [Act.put, List.setIfInBounds_toArray, List.set_cons_zero, List.set_cons_succ])
  refine wpAnyH_take (i := 2) (oi := { dst := some 18, op := Op.move (Operand.tmp 6), type := 3, pos := "law.go:57", after := #[], guard := none }) (v := ?_) rfl (by kernel_rfl) (by kernel_rfl) (by kernel_rfl) (fun _ _ _ h => h) (Or.inl ⟨by rfl, ?_⟩) (by assumption) ?_
  rotate_left
  · ((intro w hSw; (try dsimp only at hSw); go_simp; (try rw [if_neg (by omega)])); try with_reducible rfl)
  (try simp only [Act.put, List.setIfInBounds_toArray, List.set_cons_zero, List.set_cons_succ])
  refine wpAnyH_take (i := 4) (oi := { dst := some 20, op := Op.fieldAddr 25 (Operand.tmp 1) 1, type := 0, pos := "law.go:57", after := #[], guard := none }) (v := ?_) rfl (by kernel_rfl) (by kernel_rfl) (by kernel_rfl) (fun _ _ _ h => h) (Or.inl ⟨by rfl, ?_⟩) (by assumption) ?_
  rotate_left
  · ((intro w hSw; (try dsimp only at hSw); go_simp; (try rw [if_neg (by omega)])); try with_reducible rfl)
  (try simp only [Act.put, List.setIfInBounds_toArray, List.set_cons_zero, List.set_cons_succ])
  refine wpAnyH_take (i := 5) (oi := { dst := some 21, op := Op.load 22 (Operand.tmp 20), type := 22, pos := "law.go:57", after := #[{ on := 4, ground := Ground.data }], guard := none }) (v := ?_) rfl (by kernel_rfl) (by kernel_rfl) (by kernel_rfl) (fun _ _ _ h => h) (Or.inl ⟨by rfl, ?_⟩) (by assumption) ?_
  rotate_left
  · ((intro w hSw; (try dsimp only at hSw); go_simp; (try rw [if_neg (by omega)])); try with_reducible rfl)
  (try simp only [Act.put, List.setIfInBounds_toArray, List.set_cons_zero, List.set_cons_succ])
  refine wpAnyH_take (i := 6) (oi := { dst := some 22, op := Op.move (Operand.tmp 5), type := 3, pos := "law.go:57", after := #[], guard := none }) (v := ?_) rfl (by kernel_rfl) (by kernel_rfl) (by kernel_rfl) (fun _ _ _ h => h) (Or.inl ⟨by rfl, ?_⟩) (by assumption) ?_
  rotate_left
  · ((intro w hSw; (try dsimp only at hSw); go_simp; (try rw [if_neg (by omega)])); try with_reducible rfl)
  (try simp only [Act.put, List.setIfInBounds_toArray, List.set_cons_zero, List.set_cons_succ])
  refine wpAnyH_take (i := 7) (oi := { dst := some 23, op := Op.move (Operand.tmp 6), type := 3, pos := "law.go:57", after := #[], guard := none }) (v := ?_) rfl (by kernel_rfl) (by kernel_rfl) (by kernel_rfl) (fun _ _ _ h => h) (Or.inl ⟨by rfl, ?_⟩) (by assumption) ?_
  rotate_left
  · ((intro w hSw; (try dsimp only at hSw); go_simp; (try rw [if_neg (by omega)])); try with_reducible rfl)
  (try simp only [Act.put, List.setIfInBounds_toArray, List.set_cons_zero, List.set_cons_succ])
  refine wpAnyH_take (i := 9) (oi := { dst := some 25, op := Op.fieldAddr 25 (Operand.tmp 1) 2, type := 0, pos := "law.go:57", after := #[], guard := none }) (v := ?_) rfl (by kernel_rfl) (by kernel_rfl) (by kernel_rfl) (fun _ _ _ h => h) (Or.inl ⟨by rfl, ?_⟩) (by assumption) ?_
  rotate_left
  · ((intro w hSw; (try dsimp only at hSw); go_simp; (try rw [if_neg (by omega)])); try with_reducible rfl)
  (try simp only [Act.put, List.setIfInBounds_toArray, List.set_cons_zero, List.set_cons_succ])
  refine wpAnyH_take (i := 10) (oi := { dst := some 26, op := Op.load 22 (Operand.tmp 25), type := 22, pos := "law.go:57", after := #[{ on := 9, ground := Ground.data }], guard := none }) (v := ?_) rfl (by kernel_rfl) (by kernel_rfl) (by kernel_rfl) (fun _ _ _ h => h) (Or.inl ⟨by rfl, ?_⟩) (by assumption) ?_
  rotate_left
  · ((intro w hSw; (try dsimp only at hSw); go_simp; (try rw [if_neg (by omega)])); try with_reducible rfl)
  (try simp only [Act.put, List.setIfInBounds_toArray, List.set_cons_zero, List.set_cons_succ])
  refine wpAnyH_take (i := 11) (oi := { dst := some 27, op := Op.move (Operand.tmp 5), type := 3, pos := "law.go:57", after := #[], guard := none }) (v := ?_) rfl (by kernel_rfl) (by kernel_rfl) (by kernel_rfl) (fun _ _ _ h => h) (Or.inl ⟨by rfl, ?_⟩) (by assumption) ?_
  rotate_left
  · ((intro w hSw; (try dsimp only at hSw); go_simp; (try rw [if_neg (by omega)])); try with_reducible rfl)
  (try simp only [Act.put, List.setIfInBounds_toArray, List.set_cons_zero, List.set_cons_succ])
  refine wpAnyH_ready (rs := [3]) (by kernel_rfl) (by simp) ?_
  refine AllReadyH.cons (o := { dst := some 19, op := Op.call { callee := Callee.value (Operand.func 30), args := #[Operand.tmp 17, Operand.tmp 18], argTypes := #[22, 3] }, type := 34, pos := "law.go:57", after := #[{ on := 1, ground := Ground.data }, { on := 2, ground := Ground.data }], guard := none }) rfl (fun K hK => ?_) ?_
  · (go_simp; go_at_call 30; refine (HM1.out _ (Below.drew (Below.drew (Below.refl _ W1)))).mono ?_; rintro e w5 ⟨u0, G, rfl, hg5, hmk, k5⟩; obtain ⟨n1, n2, n3, c1, k1, c2, k2, c3, k3, hc, hx, hy, ad, hE⟩ := gk_shape (hg5 w5 (FrS.refl _ _)); subst hE; have hb5 := bnext (Below.drew (Below.drew (Below.refl _ W1))) k5; dsimp only)
    refine hK.out _ _ ?_ (fun hHeld => ?_)
    · exact HKC.out _ hb5
    clear hK K
    (try simp only [Act.put, List.setIfInBounds_toArray, List.set_cons_zero, List.set_cons_succ])
    refine wpAnyH_ready (rs := [8]) (by kernel_rfl) (by simp) ?_
    refine AllReadyH.cons (o := { dst := some 24, op := Op.call { callee := Callee.value (Operand.func 31), args := #[Operand.tmp 21, Operand.tmp 22, Operand.tmp 23], argTypes := #[22, 3, 3] }, type := 35, pos := "law.go:57", after := #[{ on := 5, ground := Ground.data }, { on := 6, ground := Ground.data }, { on := 7, ground := Ground.data }, { on := 3, ground := Ground.chain }], guard := none }) rfl (fun K hK => ?_) ?_
    · (go_simp; go_at_call 31; refine (HM2.out _ hb5).mono ?_; rintro e w6 ⟨v6, R, rfl, hr6, hrl, hrr, k6⟩; have hb6 := bnext hb5 k6; obtain ⟨ra, rk, rfl, -⟩ := id (hr6 w6 (FrS.refl _ _)); dsimp only)
      refine hK.out _ _ ?_ (fun hHeld => ?_)
      · exact HKC.out _ hb6
      clear hK K
      (try simp only [Act.put, List.setIfInBounds_toArray, List.set_cons_zero, List.set_cons_succ])
      refine wpAnyH_ready (rs := [12]) (by kernel_rfl) (by simp) ?_
      refine AllReadyH.cons (o := { dst := some 28, op := Op.call { callee := Callee.value (Operand.func 32), args := #[Operand.tmp 26, Operand.tmp 27], argTypes := #[22, 3] }, type := 22, pos := "law.go:57", after := #[{ on := 10, ground := Ground.data }, { on := 11, ground := Ground.data }, { on := 8, ground := Ground.chain }], guard := none }) rfl (fun K hK => ?_) ?_
      · (go_simp; go_at_call 32; refine (HM3.out _ hb6).mono ?_; rintro e w7 ⟨v7, rfl, ho7, k7⟩; have hb7 := bnext hb6 k7; obtain ⟨ta, tk, rfl⟩ := own_shape ho7; dsimp only)
        refine hK.out _ _ ?_ (fun hHeld => ?_)
        · exact HKC.out _ hb7
        clear hK K
        (try simp only [Act.put, List.setIfInBounds_toArray, List.set_cons_zero, List.set_cons_succ])
        refine wpAnyH_ready (rs := [13]) (by kernel_rfl) (by simp) ?_
        refine AllReadyH.cons (o := { dst := none, op := Op.store 34 (Operand.tmp 2) (Operand.tmp 19), type := 0, pos := "law.go:57", after := #[{ on := 3, ground := Ground.data }, { on := 12, ground := Ground.chain }, { on := 0, ground := Ground.phase }, { on := 1, ground := Ground.phase }, { on := 2, ground := Ground.phase }, { on := 3, ground := Ground.phase }, { on := 4, ground := Ground.textOnly Departure.lateStores }, { on := 5, ground := Ground.textOnly Departure.lateStores }, { on := 6, ground := Ground.textOnly Departure.lateStores }, { on := 7, ground := Ground.textOnly Departure.lateStores }, { on := 8, ground := Ground.textOnly Departure.lateStoresUnsure }, { on := 9, ground := Ground.textOnly Departure.lateStores }, { on := 10, ground := Ground.textOnly Departure.lateStores }, { on := 11, ground := Ground.textOnly Departure.lateStores }, { on := 12, ground := Ground.textOnly Departure.lateStoresUnsure }], guard := none }) rfl (fun K hK => ?_) ?_
        · skip
          have hz := HZ.out w7 hb7
          have z0 : w7.cell? ⟨B + 1, 0, none⟩ = some (.slice none 0 0) := nd_cell hz rfl
          have zf0 := nd_froz hz 0
          have z1 : w7.cell? ⟨B + 1, 1, none⟩ = some (.slice none 0 0) := nd_cell hz rfl
          have zf1 := nd_froz hz 1
          have z2 : w7.cell? ⟨B + 1, 2, none⟩ = some (.int .i64 0) := nd_cell hz rfl
          have zf2 := nd_froz hz 2
          have z3 : w7.cell? ⟨B + 1, 3, none⟩ = some (.int .i64 0) := nd_cell hz rfl
          have zf3 := nd_froz hz 3
          have z4 : w7.cell? ⟨B + 1, 4, none⟩ = some (.int .i64 0) := nd_cell hz rfl
          have zf4 := nd_froz hz 4
          have z5 : w7.cell? ⟨B + 1, 5, none⟩ = some (.int .i64 0) := nd_cell hz rfl
          have zf5 := nd_froz hz 5
          have z6 : w7.cell? ⟨B + 1, 6, none⟩ = some (.slice none 0 0) := nd_cell hz rfl
          have zf6 := nd_froz hz 6
          have z7 : w7.cell? ⟨B + 1, 7, none⟩ = some (.slice none 0 0) := nd_cell hz rfl
          have zf7 := nd_froz hz 7
          obtain ⟨wz, hwz, hzz, hfz⟩ := sto8 hz (.slice c1 n1 k1) (.slice c2 n2 k2) (.int .i64 hc) (.int .i64 hx) (.int .i64 hy) (.int .i64 ad) (.slice c3 n3 k3) (.slice none 0 0)
          go_simp
          try rw [hwz]
          refine hK.out _ _ ?_ (fun hHeld => ?_)
          · exact HKF.out _ ((FrS.of hb7).over hfz (fun q e => .inl e))
          clear hK K
          (try simp only [Act.put, List.setIfInBounds_toArray, List.set_cons_zero, List.set_cons_succ])
          refine wpAnyH_take (i := 14) (oi := { dst := some 3, op := Op.assign (Operand.tmp 24), type := 35, pos := "law.go:57", after := #[{ on := 8, ground := Ground.data }, { on := 13, ground := Ground.chain }, { on := 0, ground := Ground.phase }, { on := 1, ground := Ground.phase }, { on := 2, ground := Ground.phase }, { on := 3, ground := Ground.phase }, { on := 4, ground := Ground.phase }, { on := 5, ground := Ground.phase }, { on := 6, ground := Ground.phase }, { on := 7, ground := Ground.phase }, { on := 8, ground := Ground.phase }, { on := 9, ground := Ground.textOnly Departure.lateStores }, { on := 10, ground := Ground.textOnly Departure.lateStores }, { on := 11, ground := Ground.textOnly Departure.lateStores }, { on := 12, ground := Ground.textOnly Departure.lateStoresUnsure }, { on := 13, ground := Ground.phase }], guard := none }) (v := ?_) rfl (by kernel_rfl) (by kernel_rfl) (by kernel_rfl) (fun _ _ _ h => h) (Or.inl ⟨by rfl, ?_⟩) (by assumption) ?_
          rotate_left
          · ((intro w hSw; (try dsimp only at hSw); go_simp; (try rw [if_neg (by omega)])); try with_reducible rfl)
          (try simp only [Act.put, List.setIfInBounds_toArray, List.set_cons_zero, List.set_cons_succ])
          refine wpAnyH_take (i := 15) (oi := { dst := some 4, op := Op.assign (Operand.tmp 28), type := 22, pos := "law.go:57", after := #[{ on := 12, ground := Ground.data }, { on := 14, ground := Ground.chain }, { on := 0, ground := Ground.phase }, { on := 1, ground := Ground.phase }, { on := 2, ground := Ground.phase }, { on := 3, ground := Ground.phase }, { on := 4, ground := Ground.phase }, { on := 5, ground := Ground.phase }, { on := 6, ground := Ground.phase }, { on := 7, ground := Ground.phase }, { on := 8, ground := Ground.phase }, { on := 9, ground := Ground.phase }, { on := 10, ground := Ground.phase }, { on := 11, ground := Ground.phase }, { on := 12, ground := Ground.phase }, { on := 13, ground := Ground.phase }, { on := 14, ground := Ground.phase }], guard := none }) (v := ?_) rfl (by kernel_rfl) (by kernel_rfl) (by kernel_rfl) (fun _ _ _ h => h) (Or.inl ⟨by rfl, ?_⟩) (by assumption) ?_
          rotate_left
          · ((intro w hSw; (try dsimp only at hSw); go_simp; (try rw [if_neg (by omega)])); try with_reducible rfl)
          (try simp only [Act.put, List.setIfInBounds_toArray, List.set_cons_zero, List.set_cons_succ])
          refine wpAnyH_done (by kernel_rfl) ?_ _
          clear hHeld
          have HFZ := Lib.hid hfz
          have HZZ := Lib.hid hzz
          have HBS : Hid (B + 1 < W1.heap.size) := Lib.hid (Array.getElem?_eq_some_iff.1 (HZ.out W1 (Below.refl _ _))).1
          have H5 := Lib.hid (And.intro hg5 (And.intro hmk k5))
          have H6 := Lib.hid (And.intro hr6 (And.intro hrl (And.intro hrr k6)))
          have H7 := Lib.hid (And.intro ho7 k7)
          have HB7 := Lib.hid (And.intro hb5 (And.intro hb6 hb7))
          clear hz hzz hfz hg5 hmk k5 hr6 hrl hrr k6 ho7 k7 hb5 hb6 hb7 z0 zf0 z1 zf1 z2 zf2 z3 zf3 z4 zf4 z5 zf5 z6 zf6 z7 zf7 hwz
          go_simp
          go_wp2
          refine bodyPost_ret (results_ctt Try.results11 _ _ (B + 1) 34 _ (0, 0) _ rfl HZZ.out Try.underlying34 rfl (by kernel_rfl)) rfl ?_
          have hG : GkAt wz (.agg #[.slice c1 n1 k1, .slice c2 n2 k2, .int .i64 hc, .int .i64 hx, .int .i64 hy, .int .i64 ad, .slice c3 n3 k3, .slice none 0 0]) G := H5.out.1 wz (((FrS.of H6.out.2.2.2).then H7.out.2).over HFZ.out (fun q e => .inl (by have := HBS.out; have := HB7.out.1.size; have h9 : W1.drew.drew.heap.size = W1.heap.size := rfl; omega)))
          have hR : RgAt wz _ R := H6.out.1 wz ((FrS.of H7.out.2).over HFZ.out (fun q e => .inl (by have := HBS.out; have := HB7.out.1.size; omega)))
          rw [H6.out.2.1] at hR
          have hA : InAt wz _ (AX.mkAt LA n) := InAt.of (row_own (HFZ.out.own H7.out.1 (fun q hq e => by have := (own_lt H7.out.1 hq).1; have := HBS.out; have := HB7.out.2.1.size; omega)) (by simp [AX.mkAt_len]))
          exact ⟨_, _, _, G, R, n, y4, LA, rfl, hG, H5.out.2.1, hR, H6.out.2.1, H6.out.2.2.1, hA, by omega, by omega, by omega, HFZ.out.below W (bnext HB1.out HB7.out.2.2) (fun q e => by have := HX.out; omega)⟩
        exact AllReadyH.nil
      exact AllReadyH.nil
    exact AllReadyH.nil
  exact AllReadyH.nil
end Go.Proofs.Ytanppbdlcinpfaa
