/- For every number, two lists of changes and case AxesAdds returns true: sums can be taken apart and in another order, and what a region with the scalar 0/1 adds is nothing. No conditions. -/
import Derived.Test.YtbhkbjnmpaebdaaAx38
import Derived.Test.YtbhkbjnmpaebdaaLast
import Derived.Test.YtbhkbjnmpaebdaaHeldIn
namespace Go.Proofs.Ytbhkbjnmpaebdaa.axesAdds
open Go.ChangeShapes Go.WideShapes Go.ChangeAt Go.RowKit Go.Joins Go.Deep
set_option linter.unusedVariables false

theorem vs_bd (R : List (List AX.Tn)) (at' : List Int) : ∀ l : List (Int × Int), -(17592186044417 * (l.length : Int)) ≤ AX.vs R at' l ∧ AX.vs R at' l ≤ 17592186044417 * (l.length : Int)
  | [] => by show _ ≤ (0 : Int) ∧ (0 : Int) ≤ _; simp
  | g :: l => by
    have h1 := vs_bd R at' l
    have h2 := AX.part_bd g.2 (AX.scalar (R.getD g.1.toNat []) at').1 (AX.scalar (R.getD g.1.toNat []) at').2
    show _ ≤ (AX.partOf R at' g).1 + AX.vs R at' l ∧ (AX.partOf R at' g).1 + AX.vs R at' l ≤ _
    unfold AX.partOf
    rw [List.length_cons]
    omega
theorem own_pr {W : World} {B e : Nat} {v : Value} {n m : Nat} {A B' : List AX.Pr} (h : W.ownsRow B e 2 v (n + m) (AX.prc A ++ AX.prc B')) (hA : A.length = n) (hB : B'.length = m) : PrAt W v (A ++ B') := by
  have h2 := own_srcN h
  have h3 : SrcN 2 W v (A ++ B').length (AX.prc (A ++ B')) := by rw [AX.prc_app, List.length_append, hA, hB]; exact h2
  exact h3.pr
def AOk (RR : List (List AX.Tn)) (A D : List AX.Pr) (i : Nat) : Prop := (i = 0 → A = []) ∧ (i ≤ 1 → D = []) ∧ A.length ≤ 4 ∧ D.length ≤ 4 ∧ (∀ g ∈ A, AX.Gd RR g) ∧ ∀ g ∈ D, AX.Gd RR g
set_option maxRecDepth 100000 in
set_option maxHeartbeats 16000000 in
theorem walk (a0 : Int) (p1 : Value) (q1 : Value) (l1 : List AX.Pr) (m1 : List AX.Pr) (v2 : Value) (L2 : List (List Int)) (a2 : List Int) (g2 : List Int) (b2 : List Int) (x2 : Int) (wa0 : (Lit.int .i16 a0).wf = true) (w : World) (H1 : PrArg w p1 l1 ∧ PrArg w q1 m1) (H2 : CaArg w v2 L2 a2 g2 b2 x2) :
    Calls Try.prog 10 #[.int .i16 a0, .agg #[p1, q1], v2] w fun e w' => e = .returned (.bool true) ∧ Below w.heap.size w w' := by
  obtain ⟨ig, hig', hg0, hg1, hg2⟩ := info_parts info_gr
  obtain ⟨ar, cr, aa, ca, ag, cg, aw, cw, rfl, ⟨hll, hllm⟩, hia, hig, hiw, hx0, hx1⟩ := H2.out
  obtain ⟨nr, hnr⟩ : ∃ nr, L2.length = nr := ⟨_, rfl⟩
  obtain ⟨na, hna⟩ : ∃ na, a2.length = na := ⟨_, rfl⟩
  obtain ⟨ng, hng⟩ : ∃ ng, g2.length = ng := ⟨_, rfl⟩
  obtain ⟨nw, hnw⟩ : ∃ nw, b2.length = nw := ⟨_, rfl⟩
  obtain ⟨x, hx⟩ : ∃ x, x = x2 := ⟨_, rfl⟩
  subst hx
  obtain ⟨n, hn⟩ : ∃ n : Nat, x % 4 = (n : Int) := ⟨(x % 4).toNat, by omega⟩
  have hn3 : n ≤ 3 := by omega
  rw [hnr] at hll
  rw [hna] at hia
  rw [hng] at hig
  rw [hnw] at hiw
  rw [hnr, hna, hng, hnw]
  unfold CaV
  have HLL : Hid (∀ V, Below w.heap.size w V → LnAt V (.slice ar nr cr) L2) := Lib.hid fun V hV => hll.keep hV
  have HIA : Hid (∀ V, Below w.heap.size w V → InArg V (.slice aa na ca) a2) := Lib.hid fun V hV => hia.keep hV
  have HIG : Hid (∀ V, Below w.heap.size w V → InArg V (.slice ag ng cg) g2) := Lib.hid fun V hV => hig.keep hV
  have HIW : Hid (∀ V, Below w.heap.size w V → InArg V (.slice aw nw cw) b2) := Lib.hid fun V hV => hiw.keep hV
  have HX := Lib.hid hn
  have HLM := Lib.hid hllm
  clear H2 hll hia hig hiw hnr hna hng hnw hllm
  have hba0 := bd_i16 wa0
  obtain ⟨hp1, hp2⟩ := H1
  have kp := hp1.1
  have kq := hp2.1
  obtain ⟨pa, pc, rfl, -, -⟩ := kp
  obtain ⟨qa, qc, rfl, -, -⟩ := kq
  have HPa : Hid (PrAt w (.slice pa l1.length pc) l1) := Lib.hid hp1.1.pr
  have HPb : Hid (PrAt w (.slice qa m1.length qc) m1) := Lib.hid hp2.1.pr
  obtain ⟨pn, hpn⟩ : ∃ pn, l1.length = pn := ⟨_, rfl⟩
  obtain ⟨qn, hqn⟩ : ∃ qn, m1.length = qn := ⟨_, rfl⟩
  have hpm := hp1.2.1
  have hqm := hp2.2.1
  unfold maxLen at hpm hqm
  rw [hpn] at HPa hpm ⊢
  rw [hqn] at HPb hqm ⊢
  obtain ⟨B, hB⟩ : ∃ B, w.heap.size = B := ⟨_, rfl⟩
  obtain ⟨W0, hW0, b0x, b1x, bel0, hsz0⟩ := two_blocks w (.cells #[.slice pa pn pc, .slice qa qn qc] 77) (.cells #[.slice ar nr cr, .slice aa na ca, .slice ag ng cg, .slice aw nw cw, .int .u8 x] 56) B hB
  have HLX0 : Hid (∀ V, Below W0.heap.size W0 V → V.heap[B]? = some (.cells #[.slice pa pn pc, .slice qa qn qc] 77 (0, 0))) := Lib.hid fun V hV => (hV.block B (Array.getElem?_eq_some_iff.1 b0x).1).trans b0x
  have HCX0 : Hid (∀ V, Below W0.heap.size W0 V → V.heap[B + 1]? = some (.cells #[.slice ar nr cr, .slice aa na ca, .slice ag ng cg, .slice aw nw cw, .int .u8 x] 56 (0, 0))) := Lib.hid fun V hV => (hV.block (B + 1) (Array.getElem?_eq_some_iff.1 b1x).1).trans b1x
  have HB0 := Lib.hid bel0
  have HB := Lib.hid hB
  have HSZ0 := Lib.hid hsz0
  clear hp1 hp2 b0x b1x bel0 hsz0
  go_enter Try.func10, Try.ntmps10
  go_upto_region 1 with fail
  try rw [hW0]
  try rw [hB]
  clear hW0 hB
  go_wp2_with fail
  refine (sane_any _).mono ?_
  rintro e w1 ⟨rfl, hb1⟩
  have HB01 := Lib.hid hb1
  have HB1 := Lib.hid (bnext HB0.out hb1)
  have HS : Hid (∀ V, Below w1.heap.size w1 V → (fun w' => w'.cell? ⟨(B + 1), 0, none⟩ = some (.slice ar nr cr) ∧ w'.cell? ⟨(B + 1), 1, none⟩ = some (.slice aa na ca) ∧ w'.cell? ⟨(B + 1), 2, none⟩ = some (.slice ag ng cg) ∧ w'.cell? ⟨(B + 1), 3, none⟩ = some (.slice aw nw cw) ∧ w'.cell? ⟨(B + 1), 4, none⟩ = some (.int .u8 x)) V) := Lib.hid fun V hV => by
    have h := HCX0.out V (bnext HB01.out hV)
    exact ⟨cell_of h rfl, cell_of h rfl, cell_of h rfl, cell_of h rfl, cell_of h rfl⟩
  have HS' := HS.out w1 (Below.refl _ _)
  clear hb1
  go_upto_region 2 with fail
  refine wp_region_last #[{ dst := some 25, op := Op.load 56 (Operand.tmp 5), type := 56, pos := "law.go:290", after := #[], guard := none }, { dst := some 26, op := Op.call { callee := Callee.value (Operand.func 27), args := #[Operand.tmp 25], argTypes := #[56] }, type := 47, pos := "law.go:290", after := #[{ on := 0, ground := Ground.data }], guard := none }, { dst := some 27, op := Op.fieldAddr 56 (Operand.tmp 5) 1, type := 0, pos := "law.go:290", after := #[], guard := none }, { dst := some 28, op := Op.load 25 (Operand.tmp 27), type := 25, pos := "law.go:290", after := #[{ on := 2, ground := Ground.data }], guard := none }, { dst := some 29, op := Op.load 56 (Operand.tmp 5), type := 56, pos := "law.go:290", after := #[], guard := none }, { dst := some 30, op := Op.call { callee := Callee.value (Operand.func 28), args := #[Operand.tmp 29], argTypes := #[56] }, type := 3, pos := "law.go:290", after := #[{ on := 4, ground := Ground.data }, { on := 1, ground := Ground.chain }], guard := none }, { dst := some 31, op := Op.call { callee := Callee.value (Operand.func 22), args := #[Operand.tmp 28, Operand.tmp 30], argTypes := #[25, 3] }, type := 25, pos := "law.go:290", after := #[{ on := 3, ground := Ground.data }, { on := 5, ground := Ground.data }, { on := 5, ground := Ground.chain }], guard := none }, { dst := some 8, op := Op.assign (Operand.tmp 26), type := 47, pos := "law.go:290", after := #[{ on := 1, ground := Ground.data }, { on := 6, ground := Ground.chain }, { on := 0, ground := Ground.phase }, { on := 1, ground := Ground.phase }, { on := 2, ground := Ground.textOnly Departure.lateStores }, { on := 3, ground := Ground.textOnly Departure.lateStores }, { on := 4, ground := Ground.textOnly Departure.lateStores }, { on := 5, ground := Ground.textOnly Departure.lateStoresUnsure }, { on := 6, ground := Ground.textOnly Departure.lateStoresUnsure }], guard := none }] { dst := some 9, op := Op.assign (Operand.tmp 31), type := 25, pos := "law.go:290", after := #[{ on := 6, ground := Ground.data }, { on := 7, ground := Ground.chain }, { on := 0, ground := Ground.phase }, { on := 1, ground := Ground.phase }, { on := 2, ground := Ground.phase }, { on := 3, ground := Ground.phase }, { on := 4, ground := Ground.phase }, { on := 5, ground := Ground.phase }, { on := 6, ground := Ground.phase }, { on := 7, ground := Ground.phase }], guard := none } rfl (by kernel_rfl) (by kernel_rfl) (fun w' => w'.cell? ⟨(B + 1), 0, none⟩ = some (.slice ar nr cr) ∧ w'.cell? ⟨(B + 1), 1, none⟩ = some (.slice aa na ca) ∧ w'.cell? ⟨(B + 1), 2, none⟩ = some (.slice ag ng cg) ∧ w'.cell? ⟨(B + 1), 3, none⟩ = some (.slice aw nw cw) ∧ w'.cell? ⟨(B + 1), 4, none⟩ = some (.int .u8 x)) ?_ (fun hHeld => ?_)
  · first | exact HS.out _ a6 | exact HS.out _ a5 | exact HS.out _ a4 | exact HS.out _ (Below.drew (Below.refl _ w1))
  refine wpAnyH_take (i := 0) (oi := { dst := some 25, op := Op.load 56 (Operand.tmp 5), type := 56, pos := "law.go:290", after := #[], guard := none }) (v := ?_) rfl (by kernel_rfl) (by kernel_rfl) (by kernel_rfl) (fun _ _ _ h => h) (Or.inl ⟨by rfl, ?_⟩) (by assumption) ?_
  rotate_left
  · ((intro w hSw; obtain ⟨s0, s1, s2, s3, s4⟩ := hSw; go_simp); try with_reducible rfl)
  (try simp only [Act.put, List.setIfInBounds_toArray, List.set_cons_zero, List.set_cons_succ])
  refine wpAnyH_take (i := 2) (oi := { dst := some 27, op := Op.fieldAddr 56 (Operand.tmp 5) 1, type := 0, pos := "law.go:290", after := #[], guard := none }) (v := ?_) rfl (by kernel_rfl) (by kernel_rfl) (by kernel_rfl) (fun _ _ _ h => h) (Or.inl ⟨by rfl, ?_⟩) (by assumption) ?_
  rotate_left
  · ((intro w hSw; (try dsimp only at hSw); go_simp; (try rw [if_neg (by omega)])); try with_reducible rfl)
  (try simp only [Act.put, List.setIfInBounds_toArray, List.set_cons_zero, List.set_cons_succ])
  refine wpAnyH_take (i := 3) (oi := { dst := some 28, op := Op.load 25 (Operand.tmp 27), type := 25, pos := "law.go:290", after := #[{ on := 2, ground := Ground.data }], guard := none }) (v := ?_) rfl (by kernel_rfl) (by kernel_rfl) (by kernel_rfl) (fun _ _ _ h => h) (Or.inl ⟨by rfl, ?_⟩) (by assumption) ?_
  rotate_left
  · ((intro w hSw; obtain ⟨s0, s1, s2, s3, s4⟩ := hSw; go_simp); try with_reducible rfl)
  (try simp only [Act.put, List.setIfInBounds_toArray, List.set_cons_zero, List.set_cons_succ])
  refine wpAnyH_take (i := 4) (oi := { dst := some 29, op := Op.load 56 (Operand.tmp 5), type := 56, pos := "law.go:290", after := #[], guard := none }) (v := ?_) rfl (by kernel_rfl) (by kernel_rfl) (by kernel_rfl) (fun _ _ _ h => h) (Or.inl ⟨by rfl, ?_⟩) (by assumption) ?_
  rotate_left
  · ((intro w hSw; obtain ⟨s0, s1, s2, s3, s4⟩ := hSw; go_simp); try with_reducible rfl)
  (try simp only [Act.put, List.setIfInBounds_toArray, List.set_cons_zero, List.set_cons_succ])
  refine wpAnyH_ready (rs := [1]) (by kernel_rfl) (by simp) ?_
  refine AllReadyH.cons (o := { dst := some 26, op := Op.call { callee := Callee.value (Operand.func 27), args := #[Operand.tmp 25], argTypes := #[56] }, type := 47, pos := "law.go:290", after := #[{ on := 0, ground := Ground.data }], guard := none }) rfl (fun K hK => ?_) AllReadyH.nil
  (go_simp; go_at_call 27; refine (regions_any _ ar nr cr aa na ca ag ng cg aw nw cw x n _ (HLL.out _ (bnext HB1.out (Below.drew (Below.refl _ w1)))) HLM.out HX.out hx0 hx1).mono ?_; rintro e w4 ⟨ur, vs, rfl, hrg, hb4⟩; have a4 := bnext (Below.drew (Below.refl _ w1)) hb4; have hURG := hrg.1; obtain ⟨oa, oc, rfl⟩ := own_shape hURG; clear hURG; dsimp only)
  refine hK.out _ _ ?_ (fun hHeld => ?_)
  · first | exact HS.out _ a6 | exact HS.out _ a5 | exact HS.out _ a4 | exact HS.out _ (Below.drew (Below.refl _ w1))
  clear hK K
  (try simp only [Act.put, List.setIfInBounds_toArray, List.set_cons_zero, List.set_cons_succ])
  refine wpAnyH_ready (rs := [5]) (by kernel_rfl) (by simp) ?_
  refine AllReadyH.cons (o := { dst := some 30, op := Op.call { callee := Callee.value (Operand.func 28), args := #[Operand.tmp 29], argTypes := #[56] }, type := 3, pos := "law.go:290", after := #[{ on := 4, ground := Ground.data }, { on := 1, ground := Ground.chain }], guard := none }) rfl (fun K hK => ?_) AllReadyH.nil
  (go_simp; go_at_call 28; refine (axesOf_c HX.out ar nr cr aa na ca ag ng cg aw nw cw hx0 hx1 _).mono ?_; rintro e w5 ⟨rfl, hb5⟩; have a5 := bnext a4 hb5; dsimp only)
  refine hK.out _ _ ?_ (fun hHeld => ?_)
  · first | exact HS.out _ a6 | exact HS.out _ a5 | exact HS.out _ a4 | exact HS.out _ (Below.drew (Below.refl _ w1))
  clear hK K
  (try simp only [Act.put, List.setIfInBounds_toArray, List.set_cons_zero, List.set_cons_succ])
  refine wpAnyH_ready (rs := [6]) (by kernel_rfl) (by simp) ?_
  refine AllReadyH.cons (o := { dst := some 31, op := Op.call { callee := Callee.value (Operand.func 22), args := #[Operand.tmp 28, Operand.tmp 30], argTypes := #[25, 3] }, type := 25, pos := "law.go:290", after := #[{ on := 3, ground := Ground.data }, { on := 5, ground := Ground.data }, { on := 5, ground := Ground.chain }], guard := none }) rfl (fun K hK => ?_) AllReadyH.nil
  (go_simp; go_at_call 22; refine (madeat_any _ n _ _ (HIA.out _ (bnext HB1.out a5)).1 (HIA.out _ (bnext HB1.out a5)).2.1 hn3).mono ?_; rintro e w6 ⟨ua, rfl, hoa, hb6⟩; have a6 := bnext a5 hb6; obtain ⟨uaa, uac, rfl⟩ := own_shape hoa; dsimp only)
  refine hK.out _ _ ?_ (fun hHeld => ?_)
  · first | exact HS.out _ a6 | exact HS.out _ a5 | exact HS.out _ a4 | exact HS.out _ (Below.drew (Below.refl _ w1))
  clear hK K
  (try simp only [Act.put, List.setIfInBounds_toArray, List.set_cons_zero, List.set_cons_succ])
  refine wpAnyH_take (i := 7) (oi := { dst := some 8, op := Op.assign (Operand.tmp 26), type := 47, pos := "law.go:290", after := #[{ on := 1, ground := Ground.data }, { on := 6, ground := Ground.chain }, { on := 0, ground := Ground.phase }, { on := 1, ground := Ground.phase }, { on := 2, ground := Ground.textOnly Departure.lateStores }, { on := 3, ground := Ground.textOnly Departure.lateStores }, { on := 4, ground := Ground.textOnly Departure.lateStores }, { on := 5, ground := Ground.textOnly Departure.lateStoresUnsure }, { on := 6, ground := Ground.textOnly Departure.lateStoresUnsure }], guard := none }) (v := ?_) rfl (by kernel_rfl) (by kernel_rfl) (by kernel_rfl) (fun _ _ _ h => h) (Or.inl ⟨by rfl, ?_⟩) (by assumption) ?_
  rotate_left
  · ((intro w hSw; (try dsimp only at hSw); go_simp; (try rw [if_neg (by omega)])); try with_reducible rfl)
  (try simp only [Act.put, List.setIfInBounds_toArray, List.set_cons_zero, List.set_cons_succ])
  refine wpAnyH_done (by kernel_rfl) ?_ _
  show Oper.wp _ _ _ _ _ _
  go_simp
  have HRG6 : Hid (RgAt w6 (.slice oa (regs L2 n).length oc) (regs L2 n)) := Lib.hid ((hrg.keep (bnext hb5 hb6)).at)
  have HAT6 : Hid (InAt w6 (.slice uaa n uac) (AX.mkAt a2 n)) := Lib.hid (InAt.of (row_own hoa (by simp [AX.mkAt_len])))
  have HB16 := Lib.hid a6
  have HB6 := Lib.hid (bnext HB1.out a6)
  have HB06 := Lib.hid (bnext HB01.out a6)
  have HRT : Hid (∀ r ∈ regs L2 n, r.length ≤ 1000000000000) := Lib.hid (regs_tents hn3)
  have HRR : Hid (∀ r ∈ regs L2 n, AX.right r (n : Int) = true) := Lib.hid fun r hr => by
    obtain ⟨l, rfl⟩ := regs_mem hr
    exact AX.mkReg_right l hn3
  have hrl4 := regs_len L2 n
  obtain ⟨RR, hRR⟩ : ∃ RR, regs L2 n = RR := ⟨_, rfl⟩
  rw [hRR] at HRG6 HRT HRR hrl4 ⊢
  obtain ⟨rl, hrl⟩ : ∃ rl, RR.length = rl := ⟨_, rfl⟩
  have HRLE := Lib.hid hrl
  rw [hrl] at HRG6 hrl4 ⊢
  have HBLT0 : Hid (B + 1 < w6.heap.size) := Lib.hid (by have h1 := HSZ0.out; have h2 := HB06.out.size; omega)
  clear hoa hrg hb4 hb5 hb6 a4 a5 a6 HS' hRR hrl
  by_cases hr0 : rl = 0
  · subst hr0
    go_wp2
    go_ret
    exact ⟨by rfl, HB6.out⟩
  · have hr0' : 0 < rl := by omega
    have hr0i : (0 : Int) < (rl : Int) := by omega
    have hreq : ((rl : Int) == 0) = false := by simp; omega
    go_upto_region 6 with fail
    obtain ⟨BB, hBB⟩ : ∃ BB, w6.heap.size = BB := ⟨_, rfl⟩
    obtain ⟨WB, hWB, hbbx, hbelb, -⟩ := one_block w6 (.cells #[.slice none 0 0, .slice none 0 0] 77) BB hBB
    try rw [hWB]
    try rw [hBB]
    have hads0 : AdS w6 WB BB (.slice none 0 0) (.slice none 0 0) [] [] := ⟨hbbx, ⟨rfl, .inl ⟨rfl, rfl⟩⟩, ⟨rfl, .inl ⟨rfl, rfl⟩⟩, fun q h => by simp [Value.ownBlock] at h, hbelb, by omega⟩
    have HADS0 := Lib.hid hads0
    have HBLT : Hid (B < BB) := Lib.hid (by have := HBLT0.out; omega)
    have HLX : Hid (∀ V, Below W0.heap.size W0 V → V.heap[B]? = some (.cells #[.slice pa pn pc, .slice qa qn qc] 77 (0, 0))) := HLX0
    clear hWB hBB hbbx hbelb hads0
    go_wp2_with fail
    go_loopw [11] (fun v11 wr => ∃ (i : Nat) (v0 v1 : Value) (A D : List AX.Pr), v11 = .int .i64 (i : Int) ∧ i ≤ 2 ∧ AdS w6 wr BB v0 v1 A D ∧ Hid (AOk RR A D i)) (fun v _ => 2 - (intOf v).toNat)
    case atStart => exact ⟨0, _, _, [], [], rfl, by omega, HADS0.out, Lib.hid ⟨fun _ => rfl, fun _ => rfl, by simp, by simp, fun g hg => by simp at hg, fun g hg => by simp at hg⟩⟩
    case round =>
      obtain ⟨i, v0, v1, A, D, rfl, hi, hads, hao⟩ := hrel
      have HAO := Lib.hid hao.out
      by_cases hi2 : i < 2
      · have hi01 : i = 0 ∨ i = 1 := by omega
        rcases hi01 with h | h
        · subst h
          obtain rfl := HAO.out.1 rfl
          obtain rfl := HAO.out.2.1 (by omega)
          go_wp2_with fail
          go_loopw [12] (fun v12 wr => ∃ (k : Nat) (v0 : Value) (A : List AX.Pr), v12 = .int .i64 (k : Int) ∧ k ≤ 4 ∧ A.length = k ∧ AdS w6 wr BB v0 v1 A [] ∧ Hid (∀ g ∈ A, AX.Gd RR g)) (fun v _ => 4 - (intOf v).toNat)
          case atStart => exact ⟨0, v0, [], rfl, by omega, rfl, hads, Lib.hid (fun g hg => by simp at hg)⟩
          case round =>
            obtain ⟨k, v0', A, rfl, hk4, hXl, hs, hgd⟩ := hrel
            obtain ⟨wo, hwo⟩ : ∃ wo, wo = wr := ⟨_, rfl⟩
            subst hwo
            obtain ⟨va, vc, hva⟩ := own_shape hs.own0
            subst hva
            have hb16 := bnext HB6.out hs.bel
            have hlx := HLX.out wo (bnext HB06.out hs.bel)
            have cl := cell_of hlx (i := 0) rfl
            have cb := hs.cell0
            rw [hXl] at cb
            have HSo := Lib.hid hs
            have HGo := Lib.hid hgd.out
            by_cases hkp : k < pn
            · have hkpi : (k : Int) < (pn : Int) := by omega
              have hk0 : (0 : Int) ≤ (k : Int) := by omega
              by_cases hk : k < 4
              · have hki : (k : Int) < 4 := by omega
                obtain ⟨p, hp⟩ : ∃ p, l1[k]? = some p := ⟨l1[k]'(by omega), List.getElem?_eq_getElem _⟩
                obtain ⟨a', c', e1, hcw⟩ := HPa.out
                injection e1 with e1 e2 e3
                subst e1 e3
                clear e2
                rcases hcw with h | ⟨gp, op', rfl, hgp, hcl⟩
                · rw [h] at hp
                  simp at hp
                obtain ⟨z0, z1⟩ := hcl k p hp
                replace z0 := (hb16.cell (p := ⟨gp, op' + k * 2, none⟩) hgp).trans z0
                replace z1 := (hb16.cell (p := ⟨gp, op' + k * 2 + 1, none⟩) hgp).trans z1
                obtain ⟨s', hs'⟩ : ∃ s', bits .and .i64 p.1 65535 = s' := ⟨_, rfl⟩
                have hsb : 0 ≤ s' ∧ s' ≤ 65535 := by rw [← hs', i64_and65535]; omega
                obtain ⟨t, ht⟩ : ∃ t, s' % (rl : Int) = t := ⟨_, rfl⟩
                have htb : 0 ≤ t ∧ t < (rl : Int) := by rw [← ht]; exact ⟨Int.emod_nonneg _ (by omega), Int.emod_lt_of_pos _ (by omega)⟩
                obtain ⟨ty, hty⟩ : ∃ q, p.2.tmod 1000 = q := ⟨_, rfl⟩
                have htyb : -1000 < ty ∧ ty < 1000 := by rw [← hty]; have := F.FP.tmod_bd p.2 1000 (by omega); omega
                obtain ⟨mz, hmz⟩ : ∃ q, ty % 1000 = q := ⟨_, rfl⟩
                have hmzb : 0 ≤ mz ∧ mz < 1000 := by omega
                have wq1 : IntKind.i64.wrap ty = ty := by rw [IntKind.wrap_i64]; omega
                have wq2 : IntKind.i64.wrap (mz - 500) = mz - 500 := by rw [IntKind.wrap_i64]; omega
                have wq3 : s'.tmod (rl : Int) = t := (Int.tmod_eq_emod_of_nonneg hsb.1).trans ht
                have wq4 : IntKind.i64.wrap t = t := by rw [IntKind.wrap_i64]; omega
                have wq6 : ((rl : Int) == 0) = false := by simp; omega
                have wq7 : ¬ ((rl : Int) = 0) := by omega
                have HGN : Hid (∀ g ∈ A ++ [(t, mz - 500)], AX.Gd RR g) := Lib.hid fun g hg => by
                  rcases List.mem_append.1 hg with h | h
                  · exact HGo.out g h
                  · rw [List.mem_singleton.1 h]
                    exact ⟨htb.1, by rw [HRLE.out]; exact htb.2, by show F.FP.sm (mz - 500); unfold F.FP.sm; omega⟩
                have HSd := Lib.hid hs.drew
                have hgpB : gp ≤ B := by have := HB.out; omega
                have HXL := Lib.hid hXl
                have HSQ : Hid (∀ V : World, V.cell? ⟨BB, 0, none⟩ = some (.slice va A.length vc) → (∀ q, q ≤ B → V.heap[q]? = wo.heap[q]?) → (fun w' => w'.cell? ⟨BB, 0, none⟩ = some (.slice va A.length vc) ∧ w'.cell? ⟨B, 0, none⟩ = some (.slice (some ⟨gp, op', none⟩) pn pc) ∧ w'.cell? ⟨gp, op' + k * 2, none⟩ = some (.int .i64 p.1) ∧ w'.cell? ⟨gp, op' + k * 2 + 1, none⟩ = some (.int .i64 p.2)) V) := Lib.hid fun V h0 hV =>
                  ⟨h0, (World.cell?_of_block (a := ⟨B, 0, none⟩) (hV B (Nat.le_refl _))).trans cl, (World.cell?_of_block (a := ⟨gp, op' + k * 2, none⟩) (hV gp hgpB)).trans z0, (World.cell?_of_block (a := ⟨gp, op' + k * 2 + 1, none⟩) (hV gp hgpB)).trans z1⟩
                have HS0 : Hid ((fun w' => w'.cell? ⟨BB, 0, none⟩ = some (.slice va A.length vc) ∧ w'.cell? ⟨B, 0, none⟩ = some (.slice (some ⟨gp, op', none⟩) pn pc) ∧ w'.cell? ⟨gp, op' + k * 2, none⟩ = some (.int .i64 p.1) ∧ w'.cell? ⟨gp, op' + k * 2 + 1, none⟩ = some (.int .i64 p.2)) wo.drew) := Lib.hid (HSQ.out wo.drew hs.cell0 (fun _ _ => rfl))
                have HSA : Hid ((fun w' => w'.cell? ⟨BB, 0, none⟩ = some (.slice va A.length vc) ∧ w'.cell? ⟨B, 0, none⟩ = some (.slice (some ⟨gp, op', none⟩) pn pc) ∧ w'.cell? ⟨gp, op' + k * 2, none⟩ = some (.int .i64 p.1) ∧ w'.cell? ⟨gp, op' + k * 2 + 1, none⟩ = some (.int .i64 p.2)) (wo.drew.alloc (.cells #[.int .i64 t, .int .i64 (mz - 500)] 60))) := Lib.hid (HSQ.out _ ((hs.drew.keep (balloc (Below.refl _ _) _)).cell0) (fun q hq => Below.block (balloc (Below.refl _ wo.drew) _) q (by have := hs.lt; have := HBLT.out; show q < wo.heap.size; omega)))
                clear hcl hp hb16 hlx z0 z1 hXl
                go_upto_region 12 with fail
                refine wp_region_last #[{ dst := some 52, op := Op.move (Operand.tmp 11), type := 3, pos := "law.go:297", after := #[], guard := none }, { dst := some 53, op := Op.move (Operand.tmp 11), type := 3, pos := "law.go:297", after := #[], guard := none }, { dst := some 54, op := Op.indexAddr 77 (Operand.tmp 10) (Operand.tmp 53), type := 0, pos := "law.go:297", after := #[{ on := 1, ground := Ground.data }], guard := none }, { dst := some 55, op := Op.load 53 (Operand.tmp 54), type := 53, pos := "law.go:297", after := #[{ on := 2, ground := Ground.data }], guard := none }, { dst := some 56, op := Op.move (Operand.tmp 11), type := 3, pos := "law.go:297", after := #[], guard := none }, { dst := some 57, op := Op.indexAddr 77 (Operand.tmp 4) (Operand.tmp 56), type := 0, pos := "law.go:297", after := #[{ on := 4, ground := Ground.data }], guard := none }, { dst := some 58, op := Op.load 53 (Operand.tmp 57), type := 53, pos := "law.go:297", after := #[{ on := 5, ground := Ground.data }], guard := none }, { dst := some 59, op := Op.move (Operand.tmp 12), type := 3, pos := "law.go:297", after := #[], guard := none }, { dst := some 60, op := Op.indexAddr 53 (Operand.tmp 58) (Operand.tmp 59), type := 0, pos := "law.go:297", after := #[{ on := 6, ground := Ground.data }, { on := 7, ground := Ground.data }], guard := none }, { dst := some 61, op := Op.fieldAddr 60 (Operand.tmp 60) 0, type := 0, pos := "law.go:297", after := #[{ on := 8, ground := Ground.data }], guard := none }, { dst := some 62, op := Op.load 3 (Operand.tmp 61), type := 3, pos := "law.go:297", after := #[{ on := 9, ground := Ground.data }], guard := none }, { dst := some 63, op := Op.binOp BinOp.and 3 (Operand.tmp 62) (Operand.const (Value.int IntKind.i64 65535)) 3, type := 3, pos := "law.go:297", after := #[{ on := 10, ground := Ground.data }], guard := none }, { dst := some 64, op := Op.move (Operand.tmp 8), type := 47, pos := "law.go:297", after := #[], guard := none }, { dst := some 65, op := Op.call { callee := Callee.builtin Builtin.len, args := #[Operand.tmp 64], argTypes := #[47] }, type := 3, pos := "law.go:297", after := #[{ on := 12, ground := Ground.data }], guard := none }, { dst := some 66, op := Op.binOp BinOp.rem 3 (Operand.tmp 63) (Operand.tmp 65) 3, type := 3, pos := "law.go:297", after := #[{ on := 11, ground := Ground.data }, { on := 13, ground := Ground.data }], guard := none }, { dst := some 67, op := Op.move (Operand.tmp 11), type := 3, pos := "law.go:297", after := #[], guard := none }, { dst := some 68, op := Op.indexAddr 77 (Operand.tmp 4) (Operand.tmp 67), type := 0, pos := "law.go:297", after := #[{ on := 15, ground := Ground.data }], guard := none }, { dst := some 69, op := Op.load 53 (Operand.tmp 68), type := 53, pos := "law.go:297", after := #[{ on := 16, ground := Ground.data }], guard := none }, { dst := some 70, op := Op.move (Operand.tmp 12), type := 3, pos := "law.go:297", after := #[], guard := none }, { dst := some 71, op := Op.indexAddr 53 (Operand.tmp 69) (Operand.tmp 70), type := 0, pos := "law.go:297", after := #[{ on := 17, ground := Ground.data }, { on := 18, ground := Ground.data }], guard := none }, { dst := some 72, op := Op.fieldAddr 60 (Operand.tmp 71) 1, type := 0, pos := "law.go:297", after := #[{ on := 19, ground := Ground.data }], guard := none }, { dst := some 73, op := Op.load 3 (Operand.tmp 72), type := 3, pos := "law.go:297", after := #[{ on := 20, ground := Ground.data }], guard := none }, { dst := some 74, op := Op.binOp BinOp.rem 3 (Operand.tmp 73) (Operand.const (Value.int IntKind.i64 1000)) 3, type := 3, pos := "law.go:297", after := #[{ on := 21, ground := Ground.data }], guard := none }, { dst := some 75, op := Op.call { callee := Callee.value (Operand.func 39), args := #[Operand.tmp 74, Operand.const (Value.int IntKind.i64 1000)], argTypes := #[3, 3] }, type := 3, pos := "law.go:297", after := #[{ on := 22, ground := Ground.data }], guard := none }, { dst := some 76, op := Op.binOp BinOp.sub 3 (Operand.tmp 75) (Operand.const (Value.int IntKind.i64 500)) 3, type := 3, pos := "law.go:297", after := #[{ on := 23, ground := Ground.data }], guard := none }, { dst := some 77, op := Op.build 60 #[(0, Operand.tmp 66), (1, Operand.tmp 76)], type := 60, pos := "law.go:297", after := #[{ on := 14, ground := Ground.data }, { on := 24, ground := Ground.data }], guard := none }, { dst := some 78, op := Op.buildSlice 53 1 #[(0, Operand.tmp 77)], type := 53, pos := "law.go:297", after := #[{ on := 25, ground := Ground.data }], guard := none }, { dst := some 79, op := Op.call { callee := Callee.builtin Builtin.append, args := #[Operand.tmp 55, Operand.tmp 78], argTypes := #[53, 53] }, type := 53, pos := "law.go:297", after := #[{ on := 3, ground := Ground.data }, { on := 26, ground := Ground.data }, { on := 23, ground := Ground.chain }], guard := none }, { dst := some 80, op := Op.indexAddr 77 (Operand.tmp 10) (Operand.tmp 52), type := 0, pos := "law.go:297", after := #[{ on := 0, ground := Ground.data }, { on := 0, ground := Ground.phase }, { on := 1, ground := Ground.phase }, { on := 2, ground := Ground.phase }, { on := 3, ground := Ground.phase }, { on := 4, ground := Ground.phase }, { on := 5, ground := Ground.phase }, { on := 6, ground := Ground.phase }, { on := 7, ground := Ground.phase }, { on := 8, ground := Ground.phase }, { on := 9, ground := Ground.phase }, { on := 10, ground := Ground.phase }, { on := 11, ground := Ground.phase }, { on := 12, ground := Ground.phase }, { on := 13, ground := Ground.phase }, { on := 14, ground := Ground.phase }, { on := 15, ground := Ground.phase }, { on := 16, ground := Ground.phase }, { on := 17, ground := Ground.phase }, { on := 18, ground := Ground.phase }, { on := 19, ground := Ground.phase }, { on := 20, ground := Ground.phase }, { on := 21, ground := Ground.phase }, { on := 22, ground := Ground.phase }, { on := 23, ground := Ground.phase }, { on := 24, ground := Ground.phase }, { on := 25, ground := Ground.phase }, { on := 26, ground := Ground.phase }, { on := 27, ground := Ground.phase }], guard := none }] { dst := none, op := Op.store 53 (Operand.tmp 80) (Operand.tmp 79), type := 0, pos := "law.go:297", after := #[{ on := 28, ground := Ground.data }, { on := 27, ground := Ground.data }, { on := 27, ground := Ground.chain }, { on := 0, ground := Ground.phase }, { on := 1, ground := Ground.phase }, { on := 2, ground := Ground.phase }, { on := 3, ground := Ground.phase }, { on := 4, ground := Ground.phase }, { on := 5, ground := Ground.phase }, { on := 6, ground := Ground.phase }, { on := 7, ground := Ground.phase }, { on := 8, ground := Ground.phase }, { on := 9, ground := Ground.phase }, { on := 10, ground := Ground.phase }, { on := 11, ground := Ground.phase }, { on := 12, ground := Ground.phase }, { on := 13, ground := Ground.phase }, { on := 14, ground := Ground.phase }, { on := 15, ground := Ground.phase }, { on := 16, ground := Ground.phase }, { on := 17, ground := Ground.phase }, { on := 18, ground := Ground.phase }, { on := 19, ground := Ground.phase }, { on := 20, ground := Ground.phase }, { on := 21, ground := Ground.phase }, { on := 22, ground := Ground.phase }, { on := 23, ground := Ground.phase }, { on := 24, ground := Ground.phase }, { on := 25, ground := Ground.phase }, { on := 26, ground := Ground.phase }, { on := 27, ground := Ground.phase }], guard := none } rfl (by kernel_rfl) (by kernel_rfl) (fun w' => w'.cell? ⟨BB, 0, none⟩ = some (.slice va A.length vc) ∧ w'.cell? ⟨B, 0, none⟩ = some (.slice (some ⟨gp, op', none⟩) pn pc) ∧ w'.cell? ⟨gp, op' + k * 2, none⟩ = some (.int .i64 p.1) ∧ w'.cell? ⟨gp, op' + k * 2 + 1, none⟩ = some (.int .i64 p.2)) ?_ (fun hHeld => ?_)
                · first | exact hS1 | exact HSA.out | exact HS0.out
                refine wpAnyH_take (i := 0) (oi := { dst := some 52, op := Op.move (Operand.tmp 11), type := 3, pos := "law.go:297", after := #[], guard := none }) (v := ?_) rfl (by kernel_rfl) (by kernel_rfl) (by kernel_rfl) (fun _ _ _ h => h) (Or.inl ⟨by rfl, ?_⟩) (by assumption) ?_
                rotate_left
                · ((intro w hSw; (try dsimp only at hSw); go_simp; (try rw [if_neg (by omega)])); try with_reducible rfl)
                (try simp only [Act.put, List.setIfInBounds_toArray, List.set_cons_zero, List.set_cons_succ])
                refine wpAnyH_take (i := 1) (oi := { dst := some 53, op := Op.move (Operand.tmp 11), type := 3, pos := "law.go:297", after := #[], guard := none }) (v := ?_) rfl (by kernel_rfl) (by kernel_rfl) (by kernel_rfl) (fun _ _ _ h => h) (Or.inl ⟨by rfl, ?_⟩) (by assumption) ?_
                rotate_left
                · ((intro w hSw; (try dsimp only at hSw); go_simp; (try rw [if_neg (by omega)])); try with_reducible rfl)
                (try simp only [Act.put, List.setIfInBounds_toArray, List.set_cons_zero, List.set_cons_succ])
                refine wpAnyH_take (i := 2) (oi := { dst := some 54, op := Op.indexAddr 77 (Operand.tmp 10) (Operand.tmp 53), type := 0, pos := "law.go:297", after := #[{ on := 1, ground := Ground.data }], guard := none }) (v := ?_) rfl (by kernel_rfl) (by kernel_rfl) (by kernel_rfl) (fun _ _ _ h => h) (Or.inl ⟨by rfl, ?_⟩) (by assumption) ?_
                rotate_left
                · ((intro w hSw; (try dsimp only at hSw); go_simp; (try rw [if_neg (by omega)])); try with_reducible rfl)
                (try simp only [Act.put, List.setIfInBounds_toArray, List.set_cons_zero, List.set_cons_succ])
                refine wpAnyH_take (i := 3) (oi := { dst := some 55, op := Op.load 53 (Operand.tmp 54), type := 53, pos := "law.go:297", after := #[{ on := 2, ground := Ground.data }], guard := none }) (v := ?_) rfl (by kernel_rfl) (by kernel_rfl) (by kernel_rfl) (fun _ _ _ h => h) (Or.inl ⟨by rfl, ?_⟩) (by assumption) ?_
                rotate_left
                · ((intro w hSw; obtain ⟨s0, s1, s2, s3⟩ := hSw; go_simp); try with_reducible rfl)
                (try simp only [Act.put, List.setIfInBounds_toArray, List.set_cons_zero, List.set_cons_succ])
                refine wpAnyH_take (i := 4) (oi := { dst := some 56, op := Op.move (Operand.tmp 11), type := 3, pos := "law.go:297", after := #[], guard := none }) (v := ?_) rfl (by kernel_rfl) (by kernel_rfl) (by kernel_rfl) (fun _ _ _ h => h) (Or.inl ⟨by rfl, ?_⟩) (by assumption) ?_
                rotate_left
                · ((intro w hSw; (try dsimp only at hSw); go_simp; (try rw [if_neg (by omega)])); try with_reducible rfl)
                (try simp only [Act.put, List.setIfInBounds_toArray, List.set_cons_zero, List.set_cons_succ])
                refine wpAnyH_take (i := 5) (oi := { dst := some 57, op := Op.indexAddr 77 (Operand.tmp 4) (Operand.tmp 56), type := 0, pos := "law.go:297", after := #[{ on := 4, ground := Ground.data }], guard := none }) (v := ?_) rfl (by kernel_rfl) (by kernel_rfl) (by kernel_rfl) (fun _ _ _ h => h) (Or.inl ⟨by rfl, ?_⟩) (by assumption) ?_
                rotate_left
                · ((intro w hSw; (try dsimp only at hSw); go_simp; (try rw [if_neg (by omega)])); try with_reducible rfl)
                (try simp only [Act.put, List.setIfInBounds_toArray, List.set_cons_zero, List.set_cons_succ])
                refine wpAnyH_take (i := 6) (oi := { dst := some 58, op := Op.load 53 (Operand.tmp 57), type := 53, pos := "law.go:297", after := #[{ on := 5, ground := Ground.data }], guard := none }) (v := ?_) rfl (by kernel_rfl) (by kernel_rfl) (by kernel_rfl) (fun _ _ _ h => h) (Or.inl ⟨by rfl, ?_⟩) (by assumption) ?_
                rotate_left
                · ((intro w hSw; obtain ⟨s0, s1, s2, s3⟩ := hSw; go_simp); try with_reducible rfl)
                (try simp only [Act.put, List.setIfInBounds_toArray, List.set_cons_zero, List.set_cons_succ])
                refine wpAnyH_take (i := 7) (oi := { dst := some 59, op := Op.move (Operand.tmp 12), type := 3, pos := "law.go:297", after := #[], guard := none }) (v := ?_) rfl (by kernel_rfl) (by kernel_rfl) (by kernel_rfl) (fun _ _ _ h => h) (Or.inl ⟨by rfl, ?_⟩) (by assumption) ?_
                rotate_left
                · ((intro w hSw; (try dsimp only at hSw); go_simp; (try rw [if_neg (by omega)])); try with_reducible rfl)
                (try simp only [Act.put, List.setIfInBounds_toArray, List.set_cons_zero, List.set_cons_succ])
                refine wpAnyH_take (i := 8) (oi := { dst := some 60, op := Op.indexAddr 53 (Operand.tmp 58) (Operand.tmp 59), type := 0, pos := "law.go:297", after := #[{ on := 6, ground := Ground.data }, { on := 7, ground := Ground.data }], guard := none }) (v := ?_) rfl (by kernel_rfl) (by kernel_rfl) (by kernel_rfl) (fun _ _ _ h => h) (Or.inl ⟨by rfl, ?_⟩) (by assumption) ?_
                rotate_left
                · ((intro w hSw; (try dsimp only at hSw); go_simp; (try rw [if_neg (by omega)])); try with_reducible rfl)
                (try simp only [Act.put, List.setIfInBounds_toArray, List.set_cons_zero, List.set_cons_succ])
                refine wpAnyH_take (i := 9) (oi := { dst := some 61, op := Op.fieldAddr 60 (Operand.tmp 60) 0, type := 0, pos := "law.go:297", after := #[{ on := 8, ground := Ground.data }], guard := none }) (v := ?_) rfl (by kernel_rfl) (by kernel_rfl) (by kernel_rfl) (fun _ _ _ h => h) (Or.inl ⟨by rfl, ?_⟩) (by assumption) ?_
                rotate_left
                · ((intro w hSw; (try dsimp only at hSw); go_simp; (try rw [if_neg (by omega)])); try with_reducible rfl)
                (try simp only [Act.put, List.setIfInBounds_toArray, List.set_cons_zero, List.set_cons_succ])
                refine wpAnyH_take (i := 10) (oi := { dst := some 62, op := Op.load 3 (Operand.tmp 61), type := 3, pos := "law.go:297", after := #[{ on := 9, ground := Ground.data }], guard := none }) (v := ?_) rfl (by kernel_rfl) (by kernel_rfl) (by kernel_rfl) (fun _ _ _ h => h) (Or.inl ⟨by rfl, ?_⟩) (by assumption) ?_
                rotate_left
                · ((intro w hSw; obtain ⟨s0, s1, s2, s3⟩ := hSw; go_simp); try with_reducible rfl)
                (try simp only [Act.put, List.setIfInBounds_toArray, List.set_cons_zero, List.set_cons_succ])
                refine wpAnyH_take (i := 11) (oi := { dst := some 63, op := Op.binOp BinOp.and 3 (Operand.tmp 62) (Operand.const (Value.int IntKind.i64 65535)) 3, type := 3, pos := "law.go:297", after := #[{ on := 10, ground := Ground.data }], guard := none }) (v := ?_) rfl (by kernel_rfl) (by kernel_rfl) (by kernel_rfl) (fun _ _ _ h => h) (Or.inl ⟨by rfl, ?_⟩) (by assumption) ?_
                rotate_left
                · ((intro w hSw; (try dsimp only at hSw); go_simp; (try rw [if_neg (by omega)])); try with_reducible rfl)
                (try simp only [Act.put, List.setIfInBounds_toArray, List.set_cons_zero, List.set_cons_succ])
                refine wpAnyH_take (i := 12) (oi := { dst := some 64, op := Op.move (Operand.tmp 8), type := 47, pos := "law.go:297", after := #[], guard := none }) (v := ?_) rfl (by kernel_rfl) (by kernel_rfl) (by kernel_rfl) (fun _ _ _ h => h) (Or.inl ⟨by rfl, ?_⟩) (by assumption) ?_
                rotate_left
                · ((intro w hSw; (try dsimp only at hSw); go_simp; (try rw [if_neg (by omega)])); try with_reducible rfl)
                (try simp only [Act.put, List.setIfInBounds_toArray, List.set_cons_zero, List.set_cons_succ])
                refine wpAnyH_take (i := 13) (oi := { dst := some 65, op := Op.call { callee := Callee.builtin Builtin.len, args := #[Operand.tmp 64], argTypes := #[47] }, type := 3, pos := "law.go:297", after := #[{ on := 12, ground := Ground.data }], guard := none }) (v := ?_) rfl (by kernel_rfl) (by kernel_rfl) (by kernel_rfl) (fun _ _ _ h => h) (Or.inl ⟨by rfl, ?_⟩) (by assumption) ?_
                rotate_left
                · ((intro w hSw; (try dsimp only at hSw); go_simp; (try rw [if_neg (by omega)])); try with_reducible rfl)
                (try simp only [Act.put, List.setIfInBounds_toArray, List.set_cons_zero, List.set_cons_succ])
                refine wpAnyH_take (i := 14) (oi := { dst := some 66, op := Op.binOp BinOp.rem 3 (Operand.tmp 63) (Operand.tmp 65) 3, type := 3, pos := "law.go:297", after := #[{ on := 11, ground := Ground.data }, { on := 13, ground := Ground.data }], guard := none }) (v := ?_) rfl (by kernel_rfl) (by kernel_rfl) (by kernel_rfl) (fun _ _ _ h => h) (Or.inl ⟨by rfl, ?_⟩) (by assumption) ?_
                rotate_left
                · ((intro w hSw; (try dsimp only at hSw); go_simp; (try rw [if_neg (by omega)])); try with_reducible rfl)
                (try simp only [Act.put, List.setIfInBounds_toArray, List.set_cons_zero, List.set_cons_succ])
                refine wpAnyH_take (i := 15) (oi := { dst := some 67, op := Op.move (Operand.tmp 11), type := 3, pos := "law.go:297", after := #[], guard := none }) (v := ?_) rfl (by kernel_rfl) (by kernel_rfl) (by kernel_rfl) (fun _ _ _ h => h) (Or.inl ⟨by rfl, ?_⟩) (by assumption) ?_
                rotate_left
                · ((intro w hSw; (try dsimp only at hSw); go_simp; (try rw [if_neg (by omega)])); try with_reducible rfl)
                (try simp only [Act.put, List.setIfInBounds_toArray, List.set_cons_zero, List.set_cons_succ])
                refine wpAnyH_take (i := 16) (oi := { dst := some 68, op := Op.indexAddr 77 (Operand.tmp 4) (Operand.tmp 67), type := 0, pos := "law.go:297", after := #[{ on := 15, ground := Ground.data }], guard := none }) (v := ?_) rfl (by kernel_rfl) (by kernel_rfl) (by kernel_rfl) (fun _ _ _ h => h) (Or.inl ⟨by rfl, ?_⟩) (by assumption) ?_
                rotate_left
                · ((intro w hSw; (try dsimp only at hSw); go_simp; (try rw [if_neg (by omega)])); try with_reducible rfl)
                (try simp only [Act.put, List.setIfInBounds_toArray, List.set_cons_zero, List.set_cons_succ])
                refine wpAnyH_take (i := 17) (oi := { dst := some 69, op := Op.load 53 (Operand.tmp 68), type := 53, pos := "law.go:297", after := #[{ on := 16, ground := Ground.data }], guard := none }) (v := ?_) rfl (by kernel_rfl) (by kernel_rfl) (by kernel_rfl) (fun _ _ _ h => h) (Or.inl ⟨by rfl, ?_⟩) (by assumption) ?_
                rotate_left
                · ((intro w hSw; obtain ⟨s0, s1, s2, s3⟩ := hSw; go_simp); try with_reducible rfl)
                (try simp only [Act.put, List.setIfInBounds_toArray, List.set_cons_zero, List.set_cons_succ])
                refine wpAnyH_take (i := 18) (oi := { dst := some 70, op := Op.move (Operand.tmp 12), type := 3, pos := "law.go:297", after := #[], guard := none }) (v := ?_) rfl (by kernel_rfl) (by kernel_rfl) (by kernel_rfl) (fun _ _ _ h => h) (Or.inl ⟨by rfl, ?_⟩) (by assumption) ?_
                rotate_left
                · ((intro w hSw; (try dsimp only at hSw); go_simp; (try rw [if_neg (by omega)])); try with_reducible rfl)
                (try simp only [Act.put, List.setIfInBounds_toArray, List.set_cons_zero, List.set_cons_succ])
                refine wpAnyH_take (i := 19) (oi := { dst := some 71, op := Op.indexAddr 53 (Operand.tmp 69) (Operand.tmp 70), type := 0, pos := "law.go:297", after := #[{ on := 17, ground := Ground.data }, { on := 18, ground := Ground.data }], guard := none }) (v := ?_) rfl (by kernel_rfl) (by kernel_rfl) (by kernel_rfl) (fun _ _ _ h => h) (Or.inl ⟨by rfl, ?_⟩) (by assumption) ?_
                rotate_left
                · ((intro w hSw; (try dsimp only at hSw); go_simp; (try rw [if_neg (by omega)])); try with_reducible rfl)
                (try simp only [Act.put, List.setIfInBounds_toArray, List.set_cons_zero, List.set_cons_succ])
                refine wpAnyH_take (i := 20) (oi := { dst := some 72, op := Op.fieldAddr 60 (Operand.tmp 71) 1, type := 0, pos := "law.go:297", after := #[{ on := 19, ground := Ground.data }], guard := none }) (v := ?_) rfl (by kernel_rfl) (by kernel_rfl) (by kernel_rfl) (fun _ _ _ h => h) (Or.inl ⟨by rfl, ?_⟩) (by assumption) ?_
                rotate_left
                · ((intro w hSw; (try dsimp only at hSw); go_simp; (try rw [if_neg (by omega)])); try with_reducible rfl)
                (try simp only [Act.put, List.setIfInBounds_toArray, List.set_cons_zero, List.set_cons_succ])
                refine wpAnyH_take (i := 21) (oi := { dst := some 73, op := Op.load 3 (Operand.tmp 72), type := 3, pos := "law.go:297", after := #[{ on := 20, ground := Ground.data }], guard := none }) (v := ?_) rfl (by kernel_rfl) (by kernel_rfl) (by kernel_rfl) (fun _ _ _ h => h) (Or.inl ⟨by rfl, ?_⟩) (by assumption) ?_
                rotate_left
                · ((intro w hSw; obtain ⟨s0, s1, s2, s3⟩ := hSw; go_simp); try with_reducible rfl)
                (try simp only [Act.put, List.setIfInBounds_toArray, List.set_cons_zero, List.set_cons_succ])
                refine wpAnyH_take (i := 22) (oi := { dst := some 74, op := Op.binOp BinOp.rem 3 (Operand.tmp 73) (Operand.const (Value.int IntKind.i64 1000)) 3, type := 3, pos := "law.go:297", after := #[{ on := 21, ground := Ground.data }], guard := none }) (v := ?_) rfl (by kernel_rfl) (by kernel_rfl) (by kernel_rfl) (fun _ _ _ h => h) (Or.inl ⟨by rfl, ?_⟩) (by assumption) ?_
                rotate_left
                · ((intro w hSw; (try dsimp only at hSw); go_simp; (try rw [if_neg (by omega)])); try with_reducible rfl)
                (try simp only [Act.put, List.setIfInBounds_toArray, List.set_cons_zero, List.set_cons_succ])
                refine wpAnyH_ready (rs := [23]) (by kernel_rfl) (by simp) ?_
                refine AllReadyH.cons (o := { dst := some 75, op := Op.call { callee := Callee.value (Operand.func 39), args := #[Operand.tmp 74, Operand.const (Value.int IntKind.i64 1000)], argTypes := #[3, 3] }, type := 3, pos := "law.go:297", after := #[{ on := 22, ground := Ground.data }], guard := none }) rfl (fun K hK => ?_) AllReadyH.nil
                (go_simp; go_at_call 39; refine (F.mod_any ty 1000 _ (by omega) (by omega)).mono ?_; rintro e w3 ⟨rfl, he⟩; have he' := he.symm; subst he'; try rw [hmz]; dsimp only)
                refine hK.out _ _ ?_ (fun hHeld => ?_)
                · first | exact hS1 | exact HSA.out | exact HS0.out
                clear hK K
                (try simp only [Act.put, List.setIfInBounds_toArray, List.set_cons_zero, List.set_cons_succ])
                refine wpAnyH_take (i := 24) (oi := { dst := some 76, op := Op.binOp BinOp.sub 3 (Operand.tmp 75) (Operand.const (Value.int IntKind.i64 500)) 3, type := 3, pos := "law.go:297", after := #[{ on := 23, ground := Ground.data }], guard := none }) (v := ?_) rfl (by kernel_rfl) (by kernel_rfl) (by kernel_rfl) (fun _ _ _ h => h) (Or.inl ⟨by rfl, ?_⟩) (by assumption) ?_
                rotate_left
                · ((intro w hSw; (try dsimp only at hSw); go_simp; (try rw [if_neg (by omega)])); try with_reducible rfl)
                (try simp only [Act.put, List.setIfInBounds_toArray, List.set_cons_zero, List.set_cons_succ])
                refine wpAnyH_take (i := 25) (oi := { dst := some 77, op := Op.build 60 #[(0, Operand.tmp 66), (1, Operand.tmp 76)], type := 60, pos := "law.go:297", after := #[{ on := 14, ground := Ground.data }, { on := 24, ground := Ground.data }], guard := none }) (v := ?_) rfl (by kernel_rfl) (by kernel_rfl) (by kernel_rfl) (fun _ _ _ h => h) (Or.inl ⟨by rfl, ?_⟩) (by assumption) ?_
                rotate_left
                · ((intro w hSw; (try dsimp only at hSw); go_simp; (try rw [if_neg (by omega)])); try with_reducible rfl)
                (try simp only [Act.put, List.setIfInBounds_toArray, List.set_cons_zero, List.set_cons_succ])
                refine wpAnyH_ready (rs := [26]) (by kernel_rfl) (by simp) ?_
                refine AllReadyH.cons (o := { dst := some 78, op := Op.buildSlice 53 1 #[(0, Operand.tmp 77)], type := 53, pos := "law.go:297", after := #[{ on := 25, ground := Ground.data }], guard := none }) rfl (fun K hK => ?_) AllReadyH.nil
                go_simp
                have HS6 := Lib.hid (HSd.out.keep (balloc (Below.refl _ wo.drew) (.cells #[.int .i64 t, .int .i64 (mz - 500)] 60)))
                refine hK.out _ _ ?_ (fun hHeld => ?_)
                · first | exact hS1 | exact HSA.out | exact HS0.out
                clear hK K
                (try simp only [Act.put, List.setIfInBounds_toArray, List.set_cons_zero, List.set_cons_succ])
                refine wpAnyH_ready (rs := [27]) (by kernel_rfl) (by simp) ?_
                refine AllReadyH.cons (o := { dst := some 79, op := Op.call { callee := Callee.builtin Builtin.append, args := #[Operand.tmp 55, Operand.tmp 78], argTypes := #[53, 53] }, type := 53, pos := "law.go:297", after := #[{ on := 3, ground := Ground.data }, { on := 26, ground := Ground.data }, { on := 23, ground := Ground.chain }], guard := none }) rfl (fun K hK => ?_) AllReadyH.nil
                (refine step_append_any (by rfl) _ _ _ (by rfl) (BB + 1) 60 ig _ 2 16 Try.underlying53 hig' hg0 hg1 hg2 rfl (by omega) (.slice va A.length vc) A.length (AX.prc A) (by rfl) HS6.out.own0 ⟨wo.drew.heap.size, 0, none⟩ 1 1 (AX.prv (t, mz - 500)) (by rfl) (by rfl) (World.news_of_block (cs := #[.int .i64 t, .int .i64 (mz - 500)]) (t := 60) (fr := (0, 0)) (heap_alloc_new wo.drew _)) (by simp [AX.prv, Value.oneCell']) (by have := HXL.out; unfold maxLen; omega) (by have := HXL.out; omega) HS6.out.lt ?_; intro v' w6' hown1 hgrow hat; obtain ⟨gg, cap', rfl⟩ := ownsRow_succ hown1; obtain ⟨hbx6, hs7⟩ := HS6.out.push0 hgrow hown1 hat; have hS1 := HSQ.out w6' (cell_of hbx6 rfl) (fun q hq => (hgrow.block q (Nat.lt_of_le_of_lt hq (Nat.lt_trans HBLT.out HS6.out.lt)) (fun e => by have := (HS6.out.own0.lt q e.symm).1; have := HBLT.out; omega)).trans (Below.block (balloc (Below.refl _ wo.drew) (.cells #[.int .i64 t, .int .i64 (mz - 500)] 60)) q (Nat.lt_of_le_of_lt hq (Nat.lt_trans HBLT.out HSd.out.lt)))); have hfz := frozen_of hbx6 0)
                refine hK.out _ _ ?_ (fun hHeld => ?_)
                · first | exact hS1 | exact HSA.out | exact HS0.out
                clear hK K
                (try simp only [Act.put, List.setIfInBounds_toArray, List.set_cons_zero, List.set_cons_succ])
                refine wpAnyH_take (i := 28) (oi := { dst := some 80, op := Op.indexAddr 77 (Operand.tmp 10) (Operand.tmp 52), type := 0, pos := "law.go:297", after := #[{ on := 0, ground := Ground.data }, { on := 0, ground := Ground.phase }, { on := 1, ground := Ground.phase }, { on := 2, ground := Ground.phase }, { on := 3, ground := Ground.phase }, { on := 4, ground := Ground.phase }, { on := 5, ground := Ground.phase }, { on := 6, ground := Ground.phase }, { on := 7, ground := Ground.phase }, { on := 8, ground := Ground.phase }, { on := 9, ground := Ground.phase }, { on := 10, ground := Ground.phase }, { on := 11, ground := Ground.phase }, { on := 12, ground := Ground.phase }, { on := 13, ground := Ground.phase }, { on := 14, ground := Ground.phase }, { on := 15, ground := Ground.phase }, { on := 16, ground := Ground.phase }, { on := 17, ground := Ground.phase }, { on := 18, ground := Ground.phase }, { on := 19, ground := Ground.phase }, { on := 20, ground := Ground.phase }, { on := 21, ground := Ground.phase }, { on := 22, ground := Ground.phase }, { on := 23, ground := Ground.phase }, { on := 24, ground := Ground.phase }, { on := 25, ground := Ground.phase }, { on := 26, ground := Ground.phase }, { on := 27, ground := Ground.phase }], guard := none }) (v := ?_) rfl (by kernel_rfl) (by kernel_rfl) (by kernel_rfl) (fun _ _ _ h => h) (Or.inl ⟨by rfl, ?_⟩) (by assumption) ?_
                rotate_left
                · ((intro w hSw; (try dsimp only at hSw); go_simp; (try rw [if_neg (by omega)])); try with_reducible rfl)
                (try simp only [Act.put, List.setIfInBounds_toArray, List.set_cons_zero, List.set_cons_succ])
                refine wpAnyH_done (by kernel_rfl) ?_ _
                show Oper.wp _ _ _ _ _ _
                have HS7 := Lib.hid hs7
                have hf6 := hfz
                clear hs7 hown1 hgrow hat hbx6
                go_simp
                go_wp2
                exact ⟨⟨k + 1, by first | go_num | simp, by omega, .slice (some ⟨gg, 0, none⟩) (A.length + 1) cap', A ++ [(t, mz - 500)], by rw [List.length_append, HXL.out]; rfl, HS7.out, Lib.hid (fun a b h => HGN.out _ h)⟩, by simp [intOf]; omega⟩
              · have hki : ¬ ((k : Int) < 4) := by omega
                clear hb16 hlx
                go_wp2_with fail
                go_roundw
                case rel => exact ⟨1, _, v1, A, [], rfl, by omega, hs, Lib.hid ⟨fun h => by omega, fun _ => rfl, by omega, by simp, hgd.out, fun g hg => by simp at hg⟩⟩
                case measure => simp [intOf]
            · have hkpi : ¬ ((k : Int) < (pn : Int)) := by omega
              clear hb16 hlx
              go_wp2_with fail
              go_roundw
              case rel => exact ⟨1, _, v1, A, [], rfl, by omega, hs, Lib.hid ⟨fun h => by omega, fun _ => rfl, by omega, by simp, hgd.out, fun g hg => by simp at hg⟩⟩
              case measure => simp [intOf]
        · subst h
          obtain rfl := HAO.out.2.1 (by omega)
          go_wp2_with fail
          go_loopw [12] (fun v12 wr => ∃ (k : Nat) (v1 : Value) (D : List AX.Pr), v12 = .int .i64 (k : Int) ∧ k ≤ 4 ∧ D.length = k ∧ AdS w6 wr BB v0 v1 A D ∧ Hid (∀ g ∈ D, AX.Gd RR g)) (fun v _ => 4 - (intOf v).toNat)
          case atStart => exact ⟨0, v1, [], rfl, by omega, rfl, hads, Lib.hid (fun g hg => by simp at hg)⟩
          case round =>
            obtain ⟨k, v1', D, rfl, hk4, hXl, hs, hgd⟩ := hrel
            obtain ⟨wo, hwo⟩ : ∃ wo, wo = wr := ⟨_, rfl⟩
            subst hwo
            obtain ⟨vb, vd, hva⟩ := own_shape hs.own1
            subst hva
            have hb16 := bnext HB6.out hs.bel
            have hlx := HLX.out wo (bnext HB06.out hs.bel)
            have cl := cell_of hlx (i := 1) rfl
            have cb := hs.cell1
            rw [hXl] at cb
            have HSo := Lib.hid hs
            have HGo := Lib.hid hgd.out
            by_cases hkp : k < qn
            · have hkpi : (k : Int) < (qn : Int) := by omega
              have hk0 : (0 : Int) ≤ (k : Int) := by omega
              by_cases hk : k < 4
              · have hki : (k : Int) < 4 := by omega
                obtain ⟨p, hp⟩ : ∃ p, m1[k]? = some p := ⟨m1[k]'(by omega), List.getElem?_eq_getElem _⟩
                obtain ⟨a', c', e1, hcw⟩ := HPb.out
                injection e1 with e1 e2 e3
                subst e1 e3
                clear e2
                rcases hcw with h | ⟨gp, op', rfl, hgp, hcl⟩
                · rw [h] at hp
                  simp at hp
                obtain ⟨z0, z1⟩ := hcl k p hp
                replace z0 := (hb16.cell (p := ⟨gp, op' + k * 2, none⟩) hgp).trans z0
                replace z1 := (hb16.cell (p := ⟨gp, op' + k * 2 + 1, none⟩) hgp).trans z1
                obtain ⟨s', hs'⟩ : ∃ s', bits .and .i64 p.1 65535 = s' := ⟨_, rfl⟩
                have hsb : 0 ≤ s' ∧ s' ≤ 65535 := by rw [← hs', i64_and65535]; omega
                obtain ⟨t, ht⟩ : ∃ t, s' % (rl : Int) = t := ⟨_, rfl⟩
                have htb : 0 ≤ t ∧ t < (rl : Int) := by rw [← ht]; exact ⟨Int.emod_nonneg _ (by omega), Int.emod_lt_of_pos _ (by omega)⟩
                obtain ⟨ty, hty⟩ : ∃ q, p.2.tmod 1000 = q := ⟨_, rfl⟩
                have htyb : -1000 < ty ∧ ty < 1000 := by rw [← hty]; have := F.FP.tmod_bd p.2 1000 (by omega); omega
                obtain ⟨mz, hmz⟩ : ∃ q, ty % 1000 = q := ⟨_, rfl⟩
                have hmzb : 0 ≤ mz ∧ mz < 1000 := by omega
                have wq1 : IntKind.i64.wrap ty = ty := by rw [IntKind.wrap_i64]; omega
                have wq2 : IntKind.i64.wrap (mz - 500) = mz - 500 := by rw [IntKind.wrap_i64]; omega
                have wq3 : s'.tmod (rl : Int) = t := (Int.tmod_eq_emod_of_nonneg hsb.1).trans ht
                have wq4 : IntKind.i64.wrap t = t := by rw [IntKind.wrap_i64]; omega
                have wq6 : ((rl : Int) == 0) = false := by simp; omega
                have wq7 : ¬ ((rl : Int) = 0) := by omega
                have HGN : Hid (∀ g ∈ D ++ [(t, mz - 500)], AX.Gd RR g) := Lib.hid fun g hg => by
                  rcases List.mem_append.1 hg with h | h
                  · exact HGo.out g h
                  · rw [List.mem_singleton.1 h]
                    exact ⟨htb.1, by rw [HRLE.out]; exact htb.2, by show F.FP.sm (mz - 500); unfold F.FP.sm; omega⟩
                have HSd := Lib.hid hs.drew
                have hgpB : gp ≤ B := by have := HB.out; omega
                have HXL := Lib.hid hXl
                have HSQ : Hid (∀ V : World, V.cell? ⟨BB, 1, none⟩ = some (.slice vb D.length vd) → (∀ q, q ≤ B → V.heap[q]? = wo.heap[q]?) → (fun w' => w'.cell? ⟨BB, 1, none⟩ = some (.slice vb D.length vd) ∧ w'.cell? ⟨B, 1, none⟩ = some (.slice (some ⟨gp, op', none⟩) qn qc) ∧ w'.cell? ⟨gp, op' + k * 2, none⟩ = some (.int .i64 p.1) ∧ w'.cell? ⟨gp, op' + k * 2 + 1, none⟩ = some (.int .i64 p.2)) V) := Lib.hid fun V h0 hV =>
                  ⟨h0, (World.cell?_of_block (a := ⟨B, 1, none⟩) (hV B (Nat.le_refl _))).trans cl, (World.cell?_of_block (a := ⟨gp, op' + k * 2, none⟩) (hV gp hgpB)).trans z0, (World.cell?_of_block (a := ⟨gp, op' + k * 2 + 1, none⟩) (hV gp hgpB)).trans z1⟩
                have HS0 : Hid ((fun w' => w'.cell? ⟨BB, 1, none⟩ = some (.slice vb D.length vd) ∧ w'.cell? ⟨B, 1, none⟩ = some (.slice (some ⟨gp, op', none⟩) qn qc) ∧ w'.cell? ⟨gp, op' + k * 2, none⟩ = some (.int .i64 p.1) ∧ w'.cell? ⟨gp, op' + k * 2 + 1, none⟩ = some (.int .i64 p.2)) wo.drew) := Lib.hid (HSQ.out wo.drew hs.cell1 (fun _ _ => rfl))
                have HSA : Hid ((fun w' => w'.cell? ⟨BB, 1, none⟩ = some (.slice vb D.length vd) ∧ w'.cell? ⟨B, 1, none⟩ = some (.slice (some ⟨gp, op', none⟩) qn qc) ∧ w'.cell? ⟨gp, op' + k * 2, none⟩ = some (.int .i64 p.1) ∧ w'.cell? ⟨gp, op' + k * 2 + 1, none⟩ = some (.int .i64 p.2)) (wo.drew.alloc (.cells #[.int .i64 t, .int .i64 (mz - 500)] 60))) := Lib.hid (HSQ.out _ ((hs.drew.keep (balloc (Below.refl _ _) _)).cell1) (fun q hq => Below.block (balloc (Below.refl _ wo.drew) _) q (by have := hs.lt; have := HBLT.out; show q < wo.heap.size; omega)))
                clear hcl hp hb16 hlx z0 z1 hXl
                go_upto_region 12 with fail
                refine wp_region_last #[{ dst := some 52, op := Op.move (Operand.tmp 11), type := 3, pos := "law.go:297", after := #[], guard := none }, { dst := some 53, op := Op.move (Operand.tmp 11), type := 3, pos := "law.go:297", after := #[], guard := none }, { dst := some 54, op := Op.indexAddr 77 (Operand.tmp 10) (Operand.tmp 53), type := 0, pos := "law.go:297", after := #[{ on := 1, ground := Ground.data }], guard := none }, { dst := some 55, op := Op.load 53 (Operand.tmp 54), type := 53, pos := "law.go:297", after := #[{ on := 2, ground := Ground.data }], guard := none }, { dst := some 56, op := Op.move (Operand.tmp 11), type := 3, pos := "law.go:297", after := #[], guard := none }, { dst := some 57, op := Op.indexAddr 77 (Operand.tmp 4) (Operand.tmp 56), type := 0, pos := "law.go:297", after := #[{ on := 4, ground := Ground.data }], guard := none }, { dst := some 58, op := Op.load 53 (Operand.tmp 57), type := 53, pos := "law.go:297", after := #[{ on := 5, ground := Ground.data }], guard := none }, { dst := some 59, op := Op.move (Operand.tmp 12), type := 3, pos := "law.go:297", after := #[], guard := none }, { dst := some 60, op := Op.indexAddr 53 (Operand.tmp 58) (Operand.tmp 59), type := 0, pos := "law.go:297", after := #[{ on := 6, ground := Ground.data }, { on := 7, ground := Ground.data }], guard := none }, { dst := some 61, op := Op.fieldAddr 60 (Operand.tmp 60) 0, type := 0, pos := "law.go:297", after := #[{ on := 8, ground := Ground.data }], guard := none }, { dst := some 62, op := Op.load 3 (Operand.tmp 61), type := 3, pos := "law.go:297", after := #[{ on := 9, ground := Ground.data }], guard := none }, { dst := some 63, op := Op.binOp BinOp.and 3 (Operand.tmp 62) (Operand.const (Value.int IntKind.i64 65535)) 3, type := 3, pos := "law.go:297", after := #[{ on := 10, ground := Ground.data }], guard := none }, { dst := some 64, op := Op.move (Operand.tmp 8), type := 47, pos := "law.go:297", after := #[], guard := none }, { dst := some 65, op := Op.call { callee := Callee.builtin Builtin.len, args := #[Operand.tmp 64], argTypes := #[47] }, type := 3, pos := "law.go:297", after := #[{ on := 12, ground := Ground.data }], guard := none }, { dst := some 66, op := Op.binOp BinOp.rem 3 (Operand.tmp 63) (Operand.tmp 65) 3, type := 3, pos := "law.go:297", after := #[{ on := 11, ground := Ground.data }, { on := 13, ground := Ground.data }], guard := none }, { dst := some 67, op := Op.move (Operand.tmp 11), type := 3, pos := "law.go:297", after := #[], guard := none }, { dst := some 68, op := Op.indexAddr 77 (Operand.tmp 4) (Operand.tmp 67), type := 0, pos := "law.go:297", after := #[{ on := 15, ground := Ground.data }], guard := none }, { dst := some 69, op := Op.load 53 (Operand.tmp 68), type := 53, pos := "law.go:297", after := #[{ on := 16, ground := Ground.data }], guard := none }, { dst := some 70, op := Op.move (Operand.tmp 12), type := 3, pos := "law.go:297", after := #[], guard := none }, { dst := some 71, op := Op.indexAddr 53 (Operand.tmp 69) (Operand.tmp 70), type := 0, pos := "law.go:297", after := #[{ on := 17, ground := Ground.data }, { on := 18, ground := Ground.data }], guard := none }, { dst := some 72, op := Op.fieldAddr 60 (Operand.tmp 71) 1, type := 0, pos := "law.go:297", after := #[{ on := 19, ground := Ground.data }], guard := none }, { dst := some 73, op := Op.load 3 (Operand.tmp 72), type := 3, pos := "law.go:297", after := #[{ on := 20, ground := Ground.data }], guard := none }, { dst := some 74, op := Op.binOp BinOp.rem 3 (Operand.tmp 73) (Operand.const (Value.int IntKind.i64 1000)) 3, type := 3, pos := "law.go:297", after := #[{ on := 21, ground := Ground.data }], guard := none }, { dst := some 75, op := Op.call { callee := Callee.value (Operand.func 39), args := #[Operand.tmp 74, Operand.const (Value.int IntKind.i64 1000)], argTypes := #[3, 3] }, type := 3, pos := "law.go:297", after := #[{ on := 22, ground := Ground.data }], guard := none }, { dst := some 76, op := Op.binOp BinOp.sub 3 (Operand.tmp 75) (Operand.const (Value.int IntKind.i64 500)) 3, type := 3, pos := "law.go:297", after := #[{ on := 23, ground := Ground.data }], guard := none }, { dst := some 77, op := Op.build 60 #[(0, Operand.tmp 66), (1, Operand.tmp 76)], type := 60, pos := "law.go:297", after := #[{ on := 14, ground := Ground.data }, { on := 24, ground := Ground.data }], guard := none }, { dst := some 78, op := Op.buildSlice 53 1 #[(0, Operand.tmp 77)], type := 53, pos := "law.go:297", after := #[{ on := 25, ground := Ground.data }], guard := none }, { dst := some 79, op := Op.call { callee := Callee.builtin Builtin.append, args := #[Operand.tmp 55, Operand.tmp 78], argTypes := #[53, 53] }, type := 53, pos := "law.go:297", after := #[{ on := 3, ground := Ground.data }, { on := 26, ground := Ground.data }, { on := 23, ground := Ground.chain }], guard := none }, { dst := some 80, op := Op.indexAddr 77 (Operand.tmp 10) (Operand.tmp 52), type := 0, pos := "law.go:297", after := #[{ on := 0, ground := Ground.data }, { on := 0, ground := Ground.phase }, { on := 1, ground := Ground.phase }, { on := 2, ground := Ground.phase }, { on := 3, ground := Ground.phase }, { on := 4, ground := Ground.phase }, { on := 5, ground := Ground.phase }, { on := 6, ground := Ground.phase }, { on := 7, ground := Ground.phase }, { on := 8, ground := Ground.phase }, { on := 9, ground := Ground.phase }, { on := 10, ground := Ground.phase }, { on := 11, ground := Ground.phase }, { on := 12, ground := Ground.phase }, { on := 13, ground := Ground.phase }, { on := 14, ground := Ground.phase }, { on := 15, ground := Ground.phase }, { on := 16, ground := Ground.phase }, { on := 17, ground := Ground.phase }, { on := 18, ground := Ground.phase }, { on := 19, ground := Ground.phase }, { on := 20, ground := Ground.phase }, { on := 21, ground := Ground.phase }, { on := 22, ground := Ground.phase }, { on := 23, ground := Ground.phase }, { on := 24, ground := Ground.phase }, { on := 25, ground := Ground.phase }, { on := 26, ground := Ground.phase }, { on := 27, ground := Ground.phase }], guard := none }] { dst := none, op := Op.store 53 (Operand.tmp 80) (Operand.tmp 79), type := 0, pos := "law.go:297", after := #[{ on := 28, ground := Ground.data }, { on := 27, ground := Ground.data }, { on := 27, ground := Ground.chain }, { on := 0, ground := Ground.phase }, { on := 1, ground := Ground.phase }, { on := 2, ground := Ground.phase }, { on := 3, ground := Ground.phase }, { on := 4, ground := Ground.phase }, { on := 5, ground := Ground.phase }, { on := 6, ground := Ground.phase }, { on := 7, ground := Ground.phase }, { on := 8, ground := Ground.phase }, { on := 9, ground := Ground.phase }, { on := 10, ground := Ground.phase }, { on := 11, ground := Ground.phase }, { on := 12, ground := Ground.phase }, { on := 13, ground := Ground.phase }, { on := 14, ground := Ground.phase }, { on := 15, ground := Ground.phase }, { on := 16, ground := Ground.phase }, { on := 17, ground := Ground.phase }, { on := 18, ground := Ground.phase }, { on := 19, ground := Ground.phase }, { on := 20, ground := Ground.phase }, { on := 21, ground := Ground.phase }, { on := 22, ground := Ground.phase }, { on := 23, ground := Ground.phase }, { on := 24, ground := Ground.phase }, { on := 25, ground := Ground.phase }, { on := 26, ground := Ground.phase }, { on := 27, ground := Ground.phase }], guard := none } rfl (by kernel_rfl) (by kernel_rfl) (fun w' => w'.cell? ⟨BB, 1, none⟩ = some (.slice vb D.length vd) ∧ w'.cell? ⟨B, 1, none⟩ = some (.slice (some ⟨gp, op', none⟩) qn qc) ∧ w'.cell? ⟨gp, op' + k * 2, none⟩ = some (.int .i64 p.1) ∧ w'.cell? ⟨gp, op' + k * 2 + 1, none⟩ = some (.int .i64 p.2)) ?_ (fun hHeld => ?_)
                · first | exact hS1 | exact HSA.out | exact HS0.out
                refine wpAnyH_take (i := 0) (oi := { dst := some 52, op := Op.move (Operand.tmp 11), type := 3, pos := "law.go:297", after := #[], guard := none }) (v := ?_) rfl (by kernel_rfl) (by kernel_rfl) (by kernel_rfl) (fun _ _ _ h => h) (Or.inl ⟨by rfl, ?_⟩) (by assumption) ?_
                rotate_left
                · ((intro w hSw; (try dsimp only at hSw); go_simp; (try rw [if_neg (by omega)])); try with_reducible rfl)
                (try simp only [Act.put, List.setIfInBounds_toArray, List.set_cons_zero, List.set_cons_succ])
                refine wpAnyH_take (i := 1) (oi := { dst := some 53, op := Op.move (Operand.tmp 11), type := 3, pos := "law.go:297", after := #[], guard := none }) (v := ?_) rfl (by kernel_rfl) (by kernel_rfl) (by kernel_rfl) (fun _ _ _ h => h) (Or.inl ⟨by rfl, ?_⟩) (by assumption) ?_
                rotate_left
                · ((intro w hSw; (try dsimp only at hSw); go_simp; (try rw [if_neg (by omega)])); try with_reducible rfl)
                (try simp only [Act.put, List.setIfInBounds_toArray, List.set_cons_zero, List.set_cons_succ])
                refine wpAnyH_take (i := 2) (oi := { dst := some 54, op := Op.indexAddr 77 (Operand.tmp 10) (Operand.tmp 53), type := 0, pos := "law.go:297", after := #[{ on := 1, ground := Ground.data }], guard := none }) (v := ?_) rfl (by kernel_rfl) (by kernel_rfl) (by kernel_rfl) (fun _ _ _ h => h) (Or.inl ⟨by rfl, ?_⟩) (by assumption) ?_
                rotate_left
                · ((intro w hSw; (try dsimp only at hSw); go_simp; (try rw [if_neg (by omega)])); try with_reducible rfl)
                (try simp only [Act.put, List.setIfInBounds_toArray, List.set_cons_zero, List.set_cons_succ])
                refine wpAnyH_take (i := 3) (oi := { dst := some 55, op := Op.load 53 (Operand.tmp 54), type := 53, pos := "law.go:297", after := #[{ on := 2, ground := Ground.data }], guard := none }) (v := ?_) rfl (by kernel_rfl) (by kernel_rfl) (by kernel_rfl) (fun _ _ _ h => h) (Or.inl ⟨by rfl, ?_⟩) (by assumption) ?_
                rotate_left
                · ((intro w hSw; obtain ⟨s0, s1, s2, s3⟩ := hSw; go_simp); try with_reducible rfl)
                (try simp only [Act.put, List.setIfInBounds_toArray, List.set_cons_zero, List.set_cons_succ])
                refine wpAnyH_take (i := 4) (oi := { dst := some 56, op := Op.move (Operand.tmp 11), type := 3, pos := "law.go:297", after := #[], guard := none }) (v := ?_) rfl (by kernel_rfl) (by kernel_rfl) (by kernel_rfl) (fun _ _ _ h => h) (Or.inl ⟨by rfl, ?_⟩) (by assumption) ?_
                rotate_left
                · ((intro w hSw; (try dsimp only at hSw); go_simp; (try rw [if_neg (by omega)])); try with_reducible rfl)
                (try simp only [Act.put, List.setIfInBounds_toArray, List.set_cons_zero, List.set_cons_succ])
                refine wpAnyH_take (i := 5) (oi := { dst := some 57, op := Op.indexAddr 77 (Operand.tmp 4) (Operand.tmp 56), type := 0, pos := "law.go:297", after := #[{ on := 4, ground := Ground.data }], guard := none }) (v := ?_) rfl (by kernel_rfl) (by kernel_rfl) (by kernel_rfl) (fun _ _ _ h => h) (Or.inl ⟨by rfl, ?_⟩) (by assumption) ?_
                rotate_left
                · ((intro w hSw; (try dsimp only at hSw); go_simp; (try rw [if_neg (by omega)])); try with_reducible rfl)
                (try simp only [Act.put, List.setIfInBounds_toArray, List.set_cons_zero, List.set_cons_succ])
                refine wpAnyH_take (i := 6) (oi := { dst := some 58, op := Op.load 53 (Operand.tmp 57), type := 53, pos := "law.go:297", after := #[{ on := 5, ground := Ground.data }], guard := none }) (v := ?_) rfl (by kernel_rfl) (by kernel_rfl) (by kernel_rfl) (fun _ _ _ h => h) (Or.inl ⟨by rfl, ?_⟩) (by assumption) ?_
                rotate_left
                · ((intro w hSw; obtain ⟨s0, s1, s2, s3⟩ := hSw; go_simp); try with_reducible rfl)
                (try simp only [Act.put, List.setIfInBounds_toArray, List.set_cons_zero, List.set_cons_succ])
                refine wpAnyH_take (i := 7) (oi := { dst := some 59, op := Op.move (Operand.tmp 12), type := 3, pos := "law.go:297", after := #[], guard := none }) (v := ?_) rfl (by kernel_rfl) (by kernel_rfl) (by kernel_rfl) (fun _ _ _ h => h) (Or.inl ⟨by rfl, ?_⟩) (by assumption) ?_
                rotate_left
                · ((intro w hSw; (try dsimp only at hSw); go_simp; (try rw [if_neg (by omega)])); try with_reducible rfl)
                (try simp only [Act.put, List.setIfInBounds_toArray, List.set_cons_zero, List.set_cons_succ])
                refine wpAnyH_take (i := 8) (oi := { dst := some 60, op := Op.indexAddr 53 (Operand.tmp 58) (Operand.tmp 59), type := 0, pos := "law.go:297", after := #[{ on := 6, ground := Ground.data }, { on := 7, ground := Ground.data }], guard := none }) (v := ?_) rfl (by kernel_rfl) (by kernel_rfl) (by kernel_rfl) (fun _ _ _ h => h) (Or.inl ⟨by rfl, ?_⟩) (by assumption) ?_
                rotate_left
                · ((intro w hSw; (try dsimp only at hSw); go_simp; (try rw [if_neg (by omega)])); try with_reducible rfl)
                (try simp only [Act.put, List.setIfInBounds_toArray, List.set_cons_zero, List.set_cons_succ])
                refine wpAnyH_take (i := 9) (oi := { dst := some 61, op := Op.fieldAddr 60 (Operand.tmp 60) 0, type := 0, pos := "law.go:297", after := #[{ on := 8, ground := Ground.data }], guard := none }) (v := ?_) rfl (by kernel_rfl) (by kernel_rfl) (by kernel_rfl) (fun _ _ _ h => h) (Or.inl ⟨by rfl, ?_⟩) (by assumption) ?_
                rotate_left
                · ((intro w hSw; (try dsimp only at hSw); go_simp; (try rw [if_neg (by omega)])); try with_reducible rfl)
                (try simp only [Act.put, List.setIfInBounds_toArray, List.set_cons_zero, List.set_cons_succ])
                refine wpAnyH_take (i := 10) (oi := { dst := some 62, op := Op.load 3 (Operand.tmp 61), type := 3, pos := "law.go:297", after := #[{ on := 9, ground := Ground.data }], guard := none }) (v := ?_) rfl (by kernel_rfl) (by kernel_rfl) (by kernel_rfl) (fun _ _ _ h => h) (Or.inl ⟨by rfl, ?_⟩) (by assumption) ?_
                rotate_left
                · ((intro w hSw; obtain ⟨s0, s1, s2, s3⟩ := hSw; go_simp); try with_reducible rfl)
                (try simp only [Act.put, List.setIfInBounds_toArray, List.set_cons_zero, List.set_cons_succ])
                refine wpAnyH_take (i := 11) (oi := { dst := some 63, op := Op.binOp BinOp.and 3 (Operand.tmp 62) (Operand.const (Value.int IntKind.i64 65535)) 3, type := 3, pos := "law.go:297", after := #[{ on := 10, ground := Ground.data }], guard := none }) (v := ?_) rfl (by kernel_rfl) (by kernel_rfl) (by kernel_rfl) (fun _ _ _ h => h) (Or.inl ⟨by rfl, ?_⟩) (by assumption) ?_
                rotate_left
                · ((intro w hSw; (try dsimp only at hSw); go_simp; (try rw [if_neg (by omega)])); try with_reducible rfl)
                (try simp only [Act.put, List.setIfInBounds_toArray, List.set_cons_zero, List.set_cons_succ])
                refine wpAnyH_take (i := 12) (oi := { dst := some 64, op := Op.move (Operand.tmp 8), type := 47, pos := "law.go:297", after := #[], guard := none }) (v := ?_) rfl (by kernel_rfl) (by kernel_rfl) (by kernel_rfl) (fun _ _ _ h => h) (Or.inl ⟨by rfl, ?_⟩) (by assumption) ?_
                rotate_left
                · ((intro w hSw; (try dsimp only at hSw); go_simp; (try rw [if_neg (by omega)])); try with_reducible rfl)
                (try simp only [Act.put, List.setIfInBounds_toArray, List.set_cons_zero, List.set_cons_succ])
                refine wpAnyH_take (i := 13) (oi := { dst := some 65, op := Op.call { callee := Callee.builtin Builtin.len, args := #[Operand.tmp 64], argTypes := #[47] }, type := 3, pos := "law.go:297", after := #[{ on := 12, ground := Ground.data }], guard := none }) (v := ?_) rfl (by kernel_rfl) (by kernel_rfl) (by kernel_rfl) (fun _ _ _ h => h) (Or.inl ⟨by rfl, ?_⟩) (by assumption) ?_
                rotate_left
                · ((intro w hSw; (try dsimp only at hSw); go_simp; (try rw [if_neg (by omega)])); try with_reducible rfl)
                (try simp only [Act.put, List.setIfInBounds_toArray, List.set_cons_zero, List.set_cons_succ])
                refine wpAnyH_take (i := 14) (oi := { dst := some 66, op := Op.binOp BinOp.rem 3 (Operand.tmp 63) (Operand.tmp 65) 3, type := 3, pos := "law.go:297", after := #[{ on := 11, ground := Ground.data }, { on := 13, ground := Ground.data }], guard := none }) (v := ?_) rfl (by kernel_rfl) (by kernel_rfl) (by kernel_rfl) (fun _ _ _ h => h) (Or.inl ⟨by rfl, ?_⟩) (by assumption) ?_
                rotate_left
                · ((intro w hSw; (try dsimp only at hSw); go_simp; (try rw [if_neg (by omega)])); try with_reducible rfl)
                (try simp only [Act.put, List.setIfInBounds_toArray, List.set_cons_zero, List.set_cons_succ])
                refine wpAnyH_take (i := 15) (oi := { dst := some 67, op := Op.move (Operand.tmp 11), type := 3, pos := "law.go:297", after := #[], guard := none }) (v := ?_) rfl (by kernel_rfl) (by kernel_rfl) (by kernel_rfl) (fun _ _ _ h => h) (Or.inl ⟨by rfl, ?_⟩) (by assumption) ?_
                rotate_left
                · ((intro w hSw; (try dsimp only at hSw); go_simp; (try rw [if_neg (by omega)])); try with_reducible rfl)
                (try simp only [Act.put, List.setIfInBounds_toArray, List.set_cons_zero, List.set_cons_succ])
                refine wpAnyH_take (i := 16) (oi := { dst := some 68, op := Op.indexAddr 77 (Operand.tmp 4) (Operand.tmp 67), type := 0, pos := "law.go:297", after := #[{ on := 15, ground := Ground.data }], guard := none }) (v := ?_) rfl (by kernel_rfl) (by kernel_rfl) (by kernel_rfl) (fun _ _ _ h => h) (Or.inl ⟨by rfl, ?_⟩) (by assumption) ?_
                rotate_left
                · ((intro w hSw; (try dsimp only at hSw); go_simp; (try rw [if_neg (by omega)])); try with_reducible rfl)
                (try simp only [Act.put, List.setIfInBounds_toArray, List.set_cons_zero, List.set_cons_succ])
                refine wpAnyH_take (i := 17) (oi := { dst := some 69, op := Op.load 53 (Operand.tmp 68), type := 53, pos := "law.go:297", after := #[{ on := 16, ground := Ground.data }], guard := none }) (v := ?_) rfl (by kernel_rfl) (by kernel_rfl) (by kernel_rfl) (fun _ _ _ h => h) (Or.inl ⟨by rfl, ?_⟩) (by assumption) ?_
                rotate_left
                · ((intro w hSw; obtain ⟨s0, s1, s2, s3⟩ := hSw; go_simp); try with_reducible rfl)
                (try simp only [Act.put, List.setIfInBounds_toArray, List.set_cons_zero, List.set_cons_succ])
                refine wpAnyH_take (i := 18) (oi := { dst := some 70, op := Op.move (Operand.tmp 12), type := 3, pos := "law.go:297", after := #[], guard := none }) (v := ?_) rfl (by kernel_rfl) (by kernel_rfl) (by kernel_rfl) (fun _ _ _ h => h) (Or.inl ⟨by rfl, ?_⟩) (by assumption) ?_
                rotate_left
                · ((intro w hSw; (try dsimp only at hSw); go_simp; (try rw [if_neg (by omega)])); try with_reducible rfl)
                (try simp only [Act.put, List.setIfInBounds_toArray, List.set_cons_zero, List.set_cons_succ])
                refine wpAnyH_take (i := 19) (oi := { dst := some 71, op := Op.indexAddr 53 (Operand.tmp 69) (Operand.tmp 70), type := 0, pos := "law.go:297", after := #[{ on := 17, ground := Ground.data }, { on := 18, ground := Ground.data }], guard := none }) (v := ?_) rfl (by kernel_rfl) (by kernel_rfl) (by kernel_rfl) (fun _ _ _ h => h) (Or.inl ⟨by rfl, ?_⟩) (by assumption) ?_
                rotate_left
                · ((intro w hSw; (try dsimp only at hSw); go_simp; (try rw [if_neg (by omega)])); try with_reducible rfl)
                (try simp only [Act.put, List.setIfInBounds_toArray, List.set_cons_zero, List.set_cons_succ])
                refine wpAnyH_take (i := 20) (oi := { dst := some 72, op := Op.fieldAddr 60 (Operand.tmp 71) 1, type := 0, pos := "law.go:297", after := #[{ on := 19, ground := Ground.data }], guard := none }) (v := ?_) rfl (by kernel_rfl) (by kernel_rfl) (by kernel_rfl) (fun _ _ _ h => h) (Or.inl ⟨by rfl, ?_⟩) (by assumption) ?_
                rotate_left
                · ((intro w hSw; (try dsimp only at hSw); go_simp; (try rw [if_neg (by omega)])); try with_reducible rfl)
                (try simp only [Act.put, List.setIfInBounds_toArray, List.set_cons_zero, List.set_cons_succ])
                refine wpAnyH_take (i := 21) (oi := { dst := some 73, op := Op.load 3 (Operand.tmp 72), type := 3, pos := "law.go:297", after := #[{ on := 20, ground := Ground.data }], guard := none }) (v := ?_) rfl (by kernel_rfl) (by kernel_rfl) (by kernel_rfl) (fun _ _ _ h => h) (Or.inl ⟨by rfl, ?_⟩) (by assumption) ?_
                rotate_left
                · ((intro w hSw; obtain ⟨s0, s1, s2, s3⟩ := hSw; go_simp); try with_reducible rfl)
                (try simp only [Act.put, List.setIfInBounds_toArray, List.set_cons_zero, List.set_cons_succ])
                refine wpAnyH_take (i := 22) (oi := { dst := some 74, op := Op.binOp BinOp.rem 3 (Operand.tmp 73) (Operand.const (Value.int IntKind.i64 1000)) 3, type := 3, pos := "law.go:297", after := #[{ on := 21, ground := Ground.data }], guard := none }) (v := ?_) rfl (by kernel_rfl) (by kernel_rfl) (by kernel_rfl) (fun _ _ _ h => h) (Or.inl ⟨by rfl, ?_⟩) (by assumption) ?_
                rotate_left
                · ((intro w hSw; (try dsimp only at hSw); go_simp; (try rw [if_neg (by omega)])); try with_reducible rfl)
                (try simp only [Act.put, List.setIfInBounds_toArray, List.set_cons_zero, List.set_cons_succ])
                refine wpAnyH_ready (rs := [23]) (by kernel_rfl) (by simp) ?_
                refine AllReadyH.cons (o := { dst := some 75, op := Op.call { callee := Callee.value (Operand.func 39), args := #[Operand.tmp 74, Operand.const (Value.int IntKind.i64 1000)], argTypes := #[3, 3] }, type := 3, pos := "law.go:297", after := #[{ on := 22, ground := Ground.data }], guard := none }) rfl (fun K hK => ?_) AllReadyH.nil
                (go_simp; go_at_call 39; refine (F.mod_any ty 1000 _ (by omega) (by omega)).mono ?_; rintro e w3 ⟨rfl, he⟩; have he' := he.symm; subst he'; try rw [hmz]; dsimp only)
                refine hK.out _ _ ?_ (fun hHeld => ?_)
                · first | exact hS1 | exact HSA.out | exact HS0.out
                clear hK K
                (try simp only [Act.put, List.setIfInBounds_toArray, List.set_cons_zero, List.set_cons_succ])
                refine wpAnyH_take (i := 24) (oi := { dst := some 76, op := Op.binOp BinOp.sub 3 (Operand.tmp 75) (Operand.const (Value.int IntKind.i64 500)) 3, type := 3, pos := "law.go:297", after := #[{ on := 23, ground := Ground.data }], guard := none }) (v := ?_) rfl (by kernel_rfl) (by kernel_rfl) (by kernel_rfl) (fun _ _ _ h => h) (Or.inl ⟨by rfl, ?_⟩) (by assumption) ?_
                rotate_left
                · ((intro w hSw; (try dsimp only at hSw); go_simp; (try rw [if_neg (by omega)])); try with_reducible rfl)
                (try simp only [Act.put, List.setIfInBounds_toArray, List.set_cons_zero, List.set_cons_succ])
                refine wpAnyH_take (i := 25) (oi := { dst := some 77, op := Op.build 60 #[(0, Operand.tmp 66), (1, Operand.tmp 76)], type := 60, pos := "law.go:297", after := #[{ on := 14, ground := Ground.data }, { on := 24, ground := Ground.data }], guard := none }) (v := ?_) rfl (by kernel_rfl) (by kernel_rfl) (by kernel_rfl) (fun _ _ _ h => h) (Or.inl ⟨by rfl, ?_⟩) (by assumption) ?_
                rotate_left
                · ((intro w hSw; (try dsimp only at hSw); go_simp; (try rw [if_neg (by omega)])); try with_reducible rfl)
                (try simp only [Act.put, List.setIfInBounds_toArray, List.set_cons_zero, List.set_cons_succ])
                refine wpAnyH_ready (rs := [26]) (by kernel_rfl) (by simp) ?_
                refine AllReadyH.cons (o := { dst := some 78, op := Op.buildSlice 53 1 #[(0, Operand.tmp 77)], type := 53, pos := "law.go:297", after := #[{ on := 25, ground := Ground.data }], guard := none }) rfl (fun K hK => ?_) AllReadyH.nil
                go_simp
                have HS6 := Lib.hid (HSd.out.keep (balloc (Below.refl _ wo.drew) (.cells #[.int .i64 t, .int .i64 (mz - 500)] 60)))
                refine hK.out _ _ ?_ (fun hHeld => ?_)
                · first | exact hS1 | exact HSA.out | exact HS0.out
                clear hK K
                (try simp only [Act.put, List.setIfInBounds_toArray, List.set_cons_zero, List.set_cons_succ])
                refine wpAnyH_ready (rs := [27]) (by kernel_rfl) (by simp) ?_
                refine AllReadyH.cons (o := { dst := some 79, op := Op.call { callee := Callee.builtin Builtin.append, args := #[Operand.tmp 55, Operand.tmp 78], argTypes := #[53, 53] }, type := 53, pos := "law.go:297", after := #[{ on := 3, ground := Ground.data }, { on := 26, ground := Ground.data }, { on := 23, ground := Ground.chain }], guard := none }) rfl (fun K hK => ?_) AllReadyH.nil
                (refine step_append_any (by rfl) _ _ _ (by rfl) (BB + 1) 60 ig _ 2 16 Try.underlying53 hig' hg0 hg1 hg2 rfl (by omega) (.slice vb D.length vd) D.length (AX.prc D) (by rfl) HS6.out.own1 ⟨wo.drew.heap.size, 0, none⟩ 1 1 (AX.prv (t, mz - 500)) (by rfl) (by rfl) (World.news_of_block (cs := #[.int .i64 t, .int .i64 (mz - 500)]) (t := 60) (fr := (0, 0)) (heap_alloc_new wo.drew _)) (by simp [AX.prv, Value.oneCell']) (by have := HXL.out; unfold maxLen; omega) (by have := HXL.out; omega) HS6.out.lt ?_; intro v' w6' hown1 hgrow hat; obtain ⟨gg, cap', rfl⟩ := ownsRow_succ hown1; obtain ⟨hbx6, hs7⟩ := HS6.out.push1 hgrow hown1 hat; have hS1 := HSQ.out w6' (cell_of hbx6 rfl) (fun q hq => (hgrow.block q (Nat.lt_of_le_of_lt hq (Nat.lt_trans HBLT.out HS6.out.lt)) (fun e => by have := (HS6.out.own1.lt q e.symm).1; have := HBLT.out; omega)).trans (Below.block (balloc (Below.refl _ wo.drew) (.cells #[.int .i64 t, .int .i64 (mz - 500)] 60)) q (Nat.lt_of_le_of_lt hq (Nat.lt_trans HBLT.out HSd.out.lt)))); have hfz := frozen_of hbx6 1)
                refine hK.out _ _ ?_ (fun hHeld => ?_)
                · first | exact hS1 | exact HSA.out | exact HS0.out
                clear hK K
                (try simp only [Act.put, List.setIfInBounds_toArray, List.set_cons_zero, List.set_cons_succ])
                refine wpAnyH_take (i := 28) (oi := { dst := some 80, op := Op.indexAddr 77 (Operand.tmp 10) (Operand.tmp 52), type := 0, pos := "law.go:297", after := #[{ on := 0, ground := Ground.data }, { on := 0, ground := Ground.phase }, { on := 1, ground := Ground.phase }, { on := 2, ground := Ground.phase }, { on := 3, ground := Ground.phase }, { on := 4, ground := Ground.phase }, { on := 5, ground := Ground.phase }, { on := 6, ground := Ground.phase }, { on := 7, ground := Ground.phase }, { on := 8, ground := Ground.phase }, { on := 9, ground := Ground.phase }, { on := 10, ground := Ground.phase }, { on := 11, ground := Ground.phase }, { on := 12, ground := Ground.phase }, { on := 13, ground := Ground.phase }, { on := 14, ground := Ground.phase }, { on := 15, ground := Ground.phase }, { on := 16, ground := Ground.phase }, { on := 17, ground := Ground.phase }, { on := 18, ground := Ground.phase }, { on := 19, ground := Ground.phase }, { on := 20, ground := Ground.phase }, { on := 21, ground := Ground.phase }, { on := 22, ground := Ground.phase }, { on := 23, ground := Ground.phase }, { on := 24, ground := Ground.phase }, { on := 25, ground := Ground.phase }, { on := 26, ground := Ground.phase }, { on := 27, ground := Ground.phase }], guard := none }) (v := ?_) rfl (by kernel_rfl) (by kernel_rfl) (by kernel_rfl) (fun _ _ _ h => h) (Or.inl ⟨by rfl, ?_⟩) (by assumption) ?_
                rotate_left
                · ((intro w hSw; (try dsimp only at hSw); go_simp; (try rw [if_neg (by omega)])); try with_reducible rfl)
                (try simp only [Act.put, List.setIfInBounds_toArray, List.set_cons_zero, List.set_cons_succ])
                refine wpAnyH_done (by kernel_rfl) ?_ _
                show Oper.wp _ _ _ _ _ _
                have HS7 := Lib.hid hs7
                have hf6 := hfz
                clear hs7 hown1 hgrow hat hbx6
                go_simp
                go_wp2
                exact ⟨⟨k + 1, by first | go_num | simp, by omega, .slice (some ⟨gg, 0, none⟩) (D.length + 1) cap', D ++ [(t, mz - 500)], by rw [List.length_append, HXL.out]; rfl, HS7.out, Lib.hid (fun a b h => HGN.out _ h)⟩, by simp [intOf]; omega⟩
              · have hki : ¬ ((k : Int) < 4) := by omega
                clear hb16 hlx
                go_wp2_with fail
                go_roundw
                case rel => exact ⟨2, v0, _, A, D, rfl, by omega, hs, Lib.hid ⟨fun h => by omega, fun h => by omega, HAO.out.2.2.1, by omega, HAO.out.2.2.2.2.1, hgd.out⟩⟩
                case measure => simp [intOf]
            · have hkpi : ¬ ((k : Int) < (qn : Int)) := by omega
              clear hb16 hlx
              go_wp2_with fail
              go_roundw
              case rel => exact ⟨2, v0, _, A, D, rfl, by omega, hs, Lib.hid ⟨fun h => by omega, fun h => by omega, HAO.out.2.2.1, by omega, HAO.out.2.2.2.2.1, hgd.out⟩⟩
              case measure => simp [intOf]
      · obtain rfl : i = 2 := by omega
        obtain ⟨wo, hwo⟩ : ∃ wo, wo = wr := ⟨_, rfl⟩
        subst hwo
        obtain ⟨va, vc, rfl⟩ := own_shape hads.own0
        obtain ⟨vb, vd, rfl⟩ := own_shape hads.own1
        obtain ⟨an, han⟩ : ∃ an, A.length = an := ⟨_, rfl⟩
        obtain ⟨dn, hdn⟩ : ∃ dn, D.length = dn := ⟨_, rfl⟩
        have HAN := Lib.hid han
        have HDN := Lib.hid hdn
        have han4 : an ≤ 4 := by have := HAO.out.2.2.1; omega
        have hdn4 : dn ≤ 4 := by have := HAO.out.2.2.2.1; omega
        have hw0 : IntKind.i64.wrap a0 = a0 := by rw [IntKind.wrap_i64]; omega
        have ho_0 := hads.own0
        have ho_1 := hads.own1
        have hc_0 := hads.cell0
        have hc_1 := hads.cell1
        rw [han] at ho_0 hc_0
        rw [hdn] at ho_1 hc_1
        have hBBlt := hads.lt
        have HSLa : Hid (∀ V, Below wo.heap.size wo V → SrcN 2 V (.slice va an vc) an (AX.prc A)) := Lib.hid fun V hV => (own_srcN ho_0).keep hV
        have HSLb : Hid (∀ V, Below wo.heap.size wo V → SrcN 2 V (.slice vb dn vd) dn (AX.prc D)) := Lib.hid fun V hV => (own_srcN ho_1).keep hV
        have HCL : Hid (∀ V, Below wo.heap.size wo V → (fun w' => w'.cell? ⟨BB, 0, none⟩ = some (.slice va an vc) ∧ w'.cell? ⟨BB, 1, none⟩ = some (.slice vb dn vd)) V) := Lib.hid fun V hV => ⟨(hV.cell (p := ⟨BB, 0, none⟩) hBBlt).trans hc_0, (hV.cell (p := ⟨BB, 1, none⟩) hBBlt).trans hc_1⟩
        have HGD : Hid (∀ g ∈ D ++ A, AX.Gd RR g) := Lib.hid fun g hg => by
          rcases List.mem_append.1 hg with h | h
          · exact HAO.out.2.2.2.2.2 g h
          · exact HAO.out.2.2.2.2.1 g h
        have HRGo : Hid (∀ V, Below wo.heap.size wo V → RgAt V (.slice oa rl oc) RR) := Lib.hid fun V hV => HRG6.out.keep (bnext hads.bel hV)
        have HATo : Hid (∀ V, Below wo.heap.size wo V → InAt V (.slice uaa n uac) (AX.mkAt a2 n)) := Lib.hid fun V hV => HAT6.out.keep (bnext hads.bel hV)
        have HATL : Hid ((AX.mkAt a2 n).length ≤ 1000000000000) := Lib.hid (by rw [AX.mkAt_len]; omega)
        have HB6o := Lib.hid (bnext HB6.out hads.bel)
        obtain ⟨x0, x1⟩ := HCL.out wo (Below.refl _ _)
        skip
        clear han hdn ho_0 ho_1 hc_0 hc_1 hads hao hBBlt
        go_upto_region 14 with fail
        refine wp_region_held_drew (S := fun w' => w'.cell? ⟨BB, 0, none⟩ = some (.slice va an vc) ∧ w'.cell? ⟨BB, 1, none⟩ = some (.slice vb dn vd)) (by kernel_rfl) ?_ (fun hHeld => ?_)
        · first | exact HCL.out _ e8 | exact HCL.out _ e7 | exact HCL.out _ e0 | exact HCL.out _ (Below.drew (Below.refl _ wo))
        refine wpAnyH_take (i := 1) (oi := { dst := some 82, op := Op.indexAddr 77 (Operand.tmp 10) (Operand.const (Value.int IntKind.i64 1)), type := 0, pos := "law.go:301", after := #[], guard := none }) (v := ?_) rfl (by kernel_rfl) (by kernel_rfl) (by kernel_rfl) (fun _ _ _ h => h) (Or.inl ⟨by rfl, ?_⟩) (by assumption) ?_
        rotate_left
        · ((intro w hSw; (try dsimp only at hSw); go_simp; (try rw [if_neg (by omega)])); try with_reducible rfl)
        (try simp only [Act.put, List.setIfInBounds_toArray, List.set_cons_zero, List.set_cons_succ])
        refine wpAnyH_take (i := 2) (oi := { dst := some 83, op := Op.load 53 (Operand.tmp 82), type := 53, pos := "law.go:301", after := #[{ on := 1, ground := Ground.data }], guard := none }) (v := ?_) rfl (by kernel_rfl) (by kernel_rfl) (by kernel_rfl) (fun _ _ _ h => h) (Or.inl ⟨by rfl, ?_⟩) (by assumption) ?_
        rotate_left
        · ((intro w hSw; (try dsimp only at hSw); go_simp; (try rw [if_neg (by omega)])); try with_reducible rfl)
        (try simp only [Act.put, List.setIfInBounds_toArray, List.set_cons_zero, List.set_cons_succ])
        refine wpAnyH_take (i := 4) (oi := { dst := some 85, op := Op.indexAddr 77 (Operand.tmp 10) (Operand.const (Value.int IntKind.i64 0)), type := 0, pos := "law.go:301", after := #[], guard := none }) (v := ?_) rfl (by kernel_rfl) (by kernel_rfl) (by kernel_rfl) (fun _ _ _ h => h) (Or.inl ⟨by rfl, ?_⟩) (by assumption) ?_
        rotate_left
        · ((intro w hSw; (try dsimp only at hSw); go_simp; (try rw [if_neg (by omega)])); try with_reducible rfl)
        (try simp only [Act.put, List.setIfInBounds_toArray, List.set_cons_zero, List.set_cons_succ])
        refine wpAnyH_take (i := 5) (oi := { dst := some 86, op := Op.load 53 (Operand.tmp 85), type := 53, pos := "law.go:301", after := #[{ on := 4, ground := Ground.data }], guard := none }) (v := ?_) rfl (by kernel_rfl) (by kernel_rfl) (by kernel_rfl) (fun _ _ _ h => h) (Or.inl ⟨by rfl, ?_⟩) (by assumption) ?_
        rotate_left
        · ((intro w hSw; (try dsimp only at hSw); go_simp; (try rw [if_neg (by omega)])); try with_reducible rfl)
        (try simp only [Act.put, List.setIfInBounds_toArray, List.set_cons_zero, List.set_cons_succ])
        refine wpAnyH_take (i := 8) (oi := { dst := some 89, op := Op.move (Operand.const (Value.int IntKind.i64 0)), type := 3, pos := "law.go:301", after := #[], guard := none }) (v := ?_) rfl (by kernel_rfl) (by kernel_rfl) (by kernel_rfl) (fun _ _ _ h => h) (Or.inl ⟨by rfl, ?_⟩) (by assumption) ?_
        rotate_left
        · ((intro w hSw; (try dsimp only at hSw); go_simp; (try rw [if_neg (by omega)])); try with_reducible rfl)
        (try simp only [Act.put, List.setIfInBounds_toArray, List.set_cons_zero, List.set_cons_succ])
        refine wpAnyH_ready (rs := [0]) (by kernel_rfl) (by simp) ?_
        refine AllReadyH.cons (o := { dst := some 81, op := Op.buildSlice 53 0 #[], type := 53, pos := "law.go:301", after := #[], guard := none }) rfl (fun K hK => ?_) ?_
        · go_simp
          have ho0 := own_empty wo.drew 60 2 wo.heap.size (Nat.le_refl _)
          have e0 : Below wo.heap.size wo (wo.drew.alloc (.cells #[] 60)) := balloc (Below.drew (Below.refl _ _)) _
          refine hK.out _ _ ?_ (fun hHeld => ?_)
          · first | exact HCL.out _ e8 | exact HCL.out _ e7 | exact HCL.out _ e0 | exact HCL.out _ (Below.drew (Below.refl _ wo))
          clear hK K
          (try simp only [Act.put, List.setIfInBounds_toArray, List.set_cons_zero, List.set_cons_succ])
          refine wpAnyH_ready (rs := [3]) (by kernel_rfl) (by simp) ?_
          refine AllReadyH.cons (o := { dst := some 84, op := Op.call { callee := Callee.builtin Builtin.append, args := #[Operand.tmp 81, Operand.tmp 83], argTypes := #[53, 53] }, type := 53, pos := "law.go:301", after := #[{ on := 0, ground := Ground.data }, { on := 2, ground := Ground.data }], guard := none }) rfl (fun K hK => ?_) ?_
          · refine step_appN (by rfl) _ _ _ (by rfl) wo.heap.size 60 ig _ 2 16 Try.underlying53 hig' hg0 hg1 hg2 rfl (by omega) _ 0 [] (by rfl) ho0 _ dn (AX.prc D) (by rfl) (HSLb.out _ e0) (AX.prc_one _) (by unfold maxLen; omega) (by omega) e0.size ?_
            intro v7 w7 ho7 hg7 ht7
            rw [Nat.zero_add, List.nil_append] at ho7
            obtain ⟨ra7, rc7, rfl⟩ := own_shape ho7
            have e7 : Below wo.heap.size _ w7 := e0.grown hg7 e0.size (fun j ej => (ho0.lt j ej).1)
            refine hK.out _ _ ?_ (fun hHeld => ?_)
            · first | exact HCL.out _ e8 | exact HCL.out _ e7 | exact HCL.out _ e0 | exact HCL.out _ (Below.drew (Below.refl _ wo))
            clear hK K
            (try simp only [Act.put, List.setIfInBounds_toArray, List.set_cons_zero, List.set_cons_succ])
            refine wpAnyH_ready (rs := [6]) (by kernel_rfl) (by simp) ?_
            refine AllReadyH.cons (o := { dst := some 87, op := Op.call { callee := Callee.builtin Builtin.append, args := #[Operand.tmp 84, Operand.tmp 86], argTypes := #[53, 53] }, type := 53, pos := "law.go:301", after := #[{ on := 3, ground := Ground.data }, { on := 5, ground := Ground.data }, { on := 3, ground := Ground.chain }], guard := none }) rfl (fun K hK => ?_) ?_
            · refine step_appN (by rfl) _ _ _ (by rfl) wo.heap.size 60 ig _ 2 16 Try.underlying53 hig' hg0 hg1 hg2 rfl (by omega) _ dn (AX.prc D) (by rfl) ho7 _ an (AX.prc A) (by rfl) (HSLa.out _ e7) (AX.prc_one _) (by unfold maxLen; omega) (by omega) e7.size ?_
              intro v8 w8 ho8 hg8 ht8
              obtain ⟨ra8, rc8, rfl⟩ := own_shape ho8
              have e8 : Below wo.heap.size _ w8 := e7.grown hg8 e7.size (fun j ej => (ho7.lt j ej).1)
              refine hK.out _ _ ?_ (fun hHeld => ?_)
              · first | exact HCL.out _ e8 | exact HCL.out _ e7 | exact HCL.out _ e0 | exact HCL.out _ (Below.drew (Below.refl _ wo))
              clear hK K
              (try simp only [Act.put, List.setIfInBounds_toArray, List.set_cons_zero, List.set_cons_succ])
              refine wpAnyH_ready (rs := [7]) (by kernel_rfl) (by simp) ?_
              refine AllReadyH.cons (o := { dst := some 88, op := Op.call { callee := Callee.builtin Builtin.len, args := #[Operand.tmp 87], argTypes := #[53] }, type := 3, pos := "law.go:301", after := #[{ on := 6, ground := Ground.data }], guard := none }) rfl (fun K hK => ?_) ?_
              · go_simp
                refine hK.out _ _ ?_ (fun hHeld => ?_)
                · first | exact HCL.out _ e8 | exact HCL.out _ e7 | exact HCL.out _ e0 | exact HCL.out _ (Below.drew (Below.refl _ wo))
                clear hK K
                (try simp only [Act.put, List.setIfInBounds_toArray, List.set_cons_zero, List.set_cons_succ])
                refine wpAnyH_done (by kernel_rfl) ?_ _
                have HO8 := Lib.hid ho8
                have HW8 := Lib.hid e8
                go_simp
                clear ho0 ho7 ho8 hg7 hg8 ht7 ht8 e0 e7 e8 x0 x1
                have HPG : Hid (∀ V, Below w8.heap.size w8 V → PrAt V (.slice ra8 (dn + an) rc8) (D ++ A)) := Lib.hid fun V hV => (own_pr HO8.out HDN.out HAN.out).keep hV
                have HGL : Hid ((D ++ A).length = dn + an) := Lib.hid (by rw [List.length_append, HAN.out, HDN.out])
                obtain ⟨G, hG⟩ : ∃ G, D ++ A = G := ⟨_, rfl⟩
                have HG := Lib.hid hG
                rw [hG] at HPG HGL
                obtain ⟨gn, hgn⟩ : ∃ gn, dn + an = gn := ⟨_, rfl⟩
                have hgn8 : gn ≤ 8 := by omega
                rw [hgn] at HPG HGL
                try simp only [hgn]
                have hgnI : (dn : Int) + (an : Int) = (gn : Int) := by omega
                try simp only [hgnI]
                clear hG hgn hgnI
                go_wp2_with fail
                go_loopw [13, 89] (fun v13 v89 wr => ∃ j : Nat, v89 = .int .i64 (j : Int) ∧ j ≤ gn ∧ wr.ownsRow w8.heap.size 60 2 v13 ((G.take j).filter (AX.pos RR (AX.mkAt a2 n))).length (AX.prc ((G.take j).filter (AX.pos RR (AX.mkAt a2 n)))) ∧ Below w8.heap.size w8 wr) (fun _ v _ => gn - (intOf v).toNat)
                case atStart => exact ⟨0, rfl, Nat.zero_le _, ⟨rfl, .inl ⟨rfl, rfl⟩⟩, Below.refl _ _⟩
                case round =>
                  obtain ⟨j, rfl, hj, hrow, hb⟩ := hrel
                  obtain ⟨wq, hwq⟩ : ∃ wq, wq = wr := ⟨_, rfl⟩
                  subst hwq
                  have HBq := Lib.hid hb
                  obtain ⟨fa, fc, rfl⟩ := own_shape hrow
                  have HFL0 : Hid (((G.take j).filter (AX.pos RR (AX.mkAt a2 n))).length ≤ j) := Lib.hid (by have := List.length_filter_le (AX.pos RR (AX.mkAt a2 n)) (G.take j); rw [List.length_take] at this; omega)
                  by_cases hjg : j < gn
                  · have hjj : (j : Int) < (gn : Int) := by omega
                    have hj0 : (0 : Int) ≤ (j : Int) := by omega
                    obtain ⟨g, hg⟩ : ∃ g, G[j]? = some g := ⟨G[j]'(by rw [HGL.out]; exact hjg), List.getElem?_eq_getElem _⟩
                    have hgd := HGD.out g (by rw [HG.out]; exact List.mem_of_getElem? hg)
                    obtain ⟨gi, hgi⟩ : ∃ gi : Nat, g.1 = (gi : Int) := ⟨g.1.toNat, by have := hgd.1; omega⟩
                    have hgil : gi < rl := by have := hgd.2.1; rw [HRLE.out] at this; omega
                    have hgiI : (gi : Int) < (rl : Int) := by omega
                    have hgi0 : (0 : Int) ≤ (gi : Int) := by omega
                    obtain ⟨r, hr⟩ : ∃ r, RR[gi]? = some r := ⟨RR[gi]'(by rw [HRLE.out]; exact hgil), List.getElem?_eq_getElem _⟩
                    have hrln := HRT.out r (List.mem_of_getElem? hr)
                    have hpos : AX.pos RR (AX.mkAt a2 n) g = decide (0 < (AX.scalar r (AX.mkAt a2 n)).1) := by unfold AX.pos; rw [hgi, Int.toNat_natCast, AX.getD_of hr]
                    obtain ⟨u1, u2, hu⟩ : ∃ a b, AX.scalar r (AX.mkAt a2 n) = (a, b) := ⟨_, _, rfl⟩
                    rw [hu] at hpos
                    have HSC := Lib.hid hu
                    have HPOS := Lib.hid hpos
                    have HT : Hid (∀ b, AX.pos RR (AX.mkAt a2 n) g = b → (G.take (j + 1)).filter (AX.pos RR (AX.mkAt a2 n)) = if b = true then (G.take j).filter (AX.pos RR (AX.mkAt a2 n)) ++ [g] else (G.take j).filter (AX.pos RR (AX.mkAt a2 n))) := Lib.hid fun b hb => by
                      rw [List.take_add_one, hg, Option.toList_some, List.filter_append, List.filter_cons, hb]
                      cases b <;> simp
                    generalize (G.take j).filter (AX.pos RR (AX.mkAt a2 n)) = F at hrow HT HFL0 ⊢
                    have HROW := Lib.hid hrow
                    obtain ⟨fn, hfn⟩ : ∃ fn, F.length = fn := ⟨_, rfl⟩
                    have HFN := Lib.hid hfn
                    rw [hfn] at HROW HFL0 ⊢
                    have hfl8 : fn ≤ j := HFL0.out
                    obtain ⟨a', c', e1, hcw⟩ := HPG.out wq hb
                    rw [HGL.out] at e1
                    injection e1 with e1 e2 e3
                    subst e1 e3
                    clear e2
                    rcases hcw with h | ⟨gg, go', rfl, hgg, hcl⟩
                    · rw [h] at hg
                      simp at hg
                    obtain ⟨z0, z1⟩ := hcl j g hg
                    rw [hgi] at z0
                    obtain ⟨a'', c'', e1, hcr⟩ := HRGo.out wq (bnext HW8.out hb)
                    rw [HRLE.out] at e1
                    injection e1 with e1 e2 e3
                    subst e1 e3
                    clear e2
                    rcases hcr with h | ⟨gr, gro, rfl, hgr, hclr⟩
                    · rw [h] at hr
                      simp at hr
                    obtain ⟨ra, rrc, zr, htr⟩ := hclr gi r hr
                    obtain ⟨rrn, hrrn⟩ : ∃ rrn, r.length = rrn := ⟨_, rfl⟩
                    rw [hrrn] at zr htr
                    have HTR := Lib.hid htr
                    have hggd : g = ((gi : Int), g.2) := by rw [← hgi]
                    have HGG := Lib.hid hggd
                    clear hcl hclr hg hr hu hpos hrow hb hfn htr hrrn hgi hggd hgd
                    go_upto_region 17 with fail
                    obtain ⟨GB, hGB⟩ : ∃ GB, wq.heap.size = GB := ⟨_, rfl⟩
                    obtain ⟨W16, hW16, hgb, hb16, -⟩ := one_block wq (.cells #[.int .i64 (gi : Int), .int .i64 g.2] 60) GB hGB
                    try rw [hW16]
                    try rw [hGB]
                    have HGBX : Hid (∀ V, Below W16.heap.size W16 V → V.heap[GB]? = some (.cells #[.int .i64 (gi : Int), .int .i64 g.2] 60 (0, 0))) := Lib.hid fun V hV => (hV.block GB (Array.getElem?_eq_some_iff.1 hgb).1).trans hgb
                    have y0 := cell_of hgb (i := 0) rfl
                    have zr' := (hb16.cell (p := ⟨gr, gro + gi, none⟩) hgr).trans zr
                    have hgrl : gr < W16.heap.size := Nat.lt_of_lt_of_le hgr hb16.size
                    have HB16 := Lib.hid hb16
                    have HW16 := Lib.hid (bnext HBq.out hb16)
                    clear hGB hW16 hgb hb16 z0 z1 zr
                    go_wp2_with fail
                    refine (scalar_c' HSC.out _ _ _ hrln HATL.out (HTR.out.keep HB16.out) (HATo.out _ (bnext HW8.out HW16.out))).mono ?_
                    rintro e w17 ⟨rfl, hb17⟩
                    have HB17 := Lib.hid hb17
                    have HW17 := Lib.hid (bnext HW16.out hb17)
                    have HRW := Lib.hid (own_below HROW.out (bnext HB16.out hb17))
                    have y0' := cell_of (HGBX.out w17 hb17) (i := 0) rfl
                    have y1' := cell_of (HGBX.out w17 hb17) (i := 1) rfl
                    clear hb17 y0 zr'
                    by_cases hu0 : 0 < u1
                    · have HTT : Hid ((G.take (j + 1)).filter (AX.pos RR (AX.mkAt a2 n)) = F ++ [((gi : Int), g.2)]) := Lib.hid (by rw [HT.out true (by rw [HPOS.out]; simpa using hu0), if_pos rfl, ← HGG.out])
                      go_wp2_with fail
                      (try (refine put_eq (v' := .int .i64 u1) rfl ?_))
                      go_upto_region 19 with (at_builtin; refine wpList_appN _ rfl _ _ 53 rfl w8.heap.size 60 ig _ 2 16 Try.underlying53 hig' hg0 hg1 hg2 rfl (by decide) _ _ _ rfl (HRW.out.alloc _) _ 1 (AX.prc [((gi : Int), g.2)]) rfl (srcN_new _ (AX.prc [((gi : Int), g.2)]) _ 2 1 1 rfl) (AX.prc_one _) (by unfold maxLen; omega) (by omega) (by have := HW17.out.size; simp; omega) ?_; intro v' w18 hown' hgrow hat; obtain ⟨g', cap', rfl⟩ := ownsRow_succ hown')
                      have HO18 := Lib.hid hown'
                      have HW18 := Lib.hid ((balloc HW17.out _).grown hgrow (by have := HW17.out.size; simp; omega) (fun j ej => by have := (HRW.out.lt j ej).1; omega))
                      clear hown' hgrow hat
                      go_wp2_with fail
                      go_roundw
                      case rel => exact ⟨j + 1, by go_num, hjg, by rw [HTT.out, List.length_append, HFN.out, AX.prc_app]; exact HO18.out, HW18.out⟩
                      case measure => simp [intOf]; omega
                    · have HTT : Hid ((G.take (j + 1)).filter (AX.pos RR (AX.mkAt a2 n)) = F) := Lib.hid (by rw [HT.out false (by rw [HPOS.out]; simpa using hu0)]; rfl)
                      go_wp2_with fail
                      (try (refine put_eq (v' := .int .i64 u1) rfl ?_; go_wp2_with fail))
                      go_roundw
                      case rel => exact ⟨j + 1, by go_num, hjg, by rw [HTT.out, HFN.out]; exact HRW.out, HW17.out⟩
                      case measure => simp [intOf]; omega
                  · obtain rfl : gn = j := by omega
                    rw [List.take_of_length_le (by rw [HGL.out]; exact Nat.le_refl _)] at hrow HFL0 ⊢
                    obtain ⟨wz, hwz⟩ : ∃ wz, wz = wq := ⟨_, rfl⟩
                    subst hwz
                    have HWZ := Lib.hid (bnext HW8.out hb)
                    have HBz := Lib.hid (bnext HB6o.out HWZ.out)
                    have hR : ∀ r ∈ RR, AX.right r ((AX.mkAt a2 n).length : Int) = true := fun r hr => by rw [AX.mkAt_len]; exact HRR.out r hr
                    have hc := AX.mkAt_coords a2 hn3
                    have hsm : F.FP.sm a0 := by unfold F.FP.sm; omega
                    obtain ⟨sa, sb, sd, e1, e2, e3, e4, hsum⟩ := AX.adds hR hc hsm HAO.out.2.2.1 HAO.out.2.2.2.1 HAO.out.2.2.2.2.1 HAO.out.2.2.2.2.2
                    rw [HG.out] at e4
                    have hb1 := AX.sum_val hR hc hsm (l := A ++ D) (by rw [List.length_append, HAN.out, HDN.out]; omega) (fun g hg => by
                      rcases List.mem_append.1 hg with h | h
                      · exact HAO.out.2.2.2.2.1 g h
                      · exact HAO.out.2.2.2.2.2 g h)
                    rw [e1] at hb1
                    have hb2 : sa = 64 * a0 + AX.vs RR (AX.mkAt a2 n) (A ++ D) := (Prod.mk.inj hb1).1
                    have hb3 := vs_bd RR (AX.mkAt a2 n) (A ++ D)
                    rw [List.length_append, HAN.out, HDN.out] at hb3
                    have HSUMQ : Hid (sa = sb + sd ∧ -1000000000000000 ≤ sa ∧ sa ≤ 1000000000000000) := Lib.hid ⟨hsum, by omega, by omega⟩
                    have HSUM1 := Lib.hid e1
                    have HSUM2 := Lib.hid e2
                    have HSUM3 := Lib.hid e3
                    have HSUM4 := Lib.hid e4
                    have hfl := List.length_filter_le (AX.pos RR (AX.mkAt a2 n)) G
                    rw [HGL.out] at hfl
                    generalize G.filter (AX.pos RR (AX.mkAt a2 n)) = F at hrow HFL0 HSUM4 hfl e4 ⊢
                    have HFL : Hid (F.length ≤ 1000000000000) := Lib.hid (by omega)
                    obtain ⟨fn, hfn⟩ : ∃ fn, F.length = fn := ⟨_, rfl⟩
                    rw [hfn] at hrow ⊢
                    have HPF : Hid (∀ V, Below wz.heap.size wz V → PrAt V (.slice fa fn fc) F) := Lib.hid fun V hV => by
                      have h3 : SrcN 2 V (.slice fa fn fc) F.length (AX.prc F) := by rw [hfn]; exact (own_srcN hrow).keep hV
                      exact h3.pr
                    have HSLa2 : Hid (∀ V, Below wz.heap.size wz V → SrcN 2 V (.slice va an vc) an (AX.prc A)) := Lib.hid fun V hV => HSLa.out V (bnext HWZ.out hV)
                    have HSLb2 : Hid (∀ V, Below wz.heap.size wz V → SrcN 2 V (.slice vb dn vd) dn (AX.prc D)) := Lib.hid fun V hV => HSLb.out V (bnext HWZ.out hV)
                    have HPA : Hid (∀ V, Below wz.heap.size wz V → PrAt V (.slice va an vc) A) := Lib.hid fun V hV => by
                      have h3 : SrcN 2 V (.slice va an vc) A.length (AX.prc A) := by rw [HAN.out]; exact HSLa2.out V hV
                      exact h3.pr
                    have HPD : Hid (∀ V, Below wz.heap.size wz V → PrAt V (.slice vb dn vd) D) := Lib.hid fun V hV => by
                      have h3 : SrcN 2 V (.slice vb dn vd) D.length (AX.prc D) := by rw [HDN.out]; exact HSLb2.out V hV
                      exact h3.pr
                    have HCLz : Hid (∀ V, Below wz.heap.size wz V → (fun w' => w'.cell? ⟨BB, 0, none⟩ = some (.slice va an vc) ∧ w'.cell? ⟨BB, 1, none⟩ = some (.slice vb dn vd)) V) := Lib.hid fun V hV => HCL.out V (bnext HWZ.out hV)
                    have HRGz : Hid (∀ V, Below wz.heap.size wz V → RgAt V (.slice oa rl oc) RR) := Lib.hid fun V hV => HRGo.out V (bnext HWZ.out hV)
                    have HATz : Hid (∀ V, Below wz.heap.size wz V → InAt V (.slice uaa n uac) (AX.mkAt a2 n)) := Lib.hid fun V hV => HATo.out V (bnext HWZ.out hV)
                    obtain ⟨x0, x1⟩ := HCLz.out wz (Below.refl _ _)
                    clear e1 e2 e3 e4 hsum hb1 hb2 hb3 hR hc hsm hrow hb hfn hfl
                    go_upto_region 20 with fail
                    refine wp_region_held_drew (S := fun w' => w'.cell? ⟨BB, 0, none⟩ = some (.slice va an vc) ∧ w'.cell? ⟨BB, 1, none⟩ = some (.slice vb dn vd)) (by kernel_rfl) ?_ (fun hHeld => ?_)
                    · first | exact HCLz.out _ e22 | exact HCLz.out _ e21 | exact HCLz.out _ e20 | exact HCLz.out _ e0 | exact HCLz.out _ (Below.drew (Below.refl _ wz))
                    refine wpAnyH_take (i := 0) (oi := { dst := some 108, op := Op.move (Operand.tmp 0), type := 76, pos := "law.go:306", after := #[], guard := none }) (v := ?_) rfl (by kernel_rfl) (by kernel_rfl) (by kernel_rfl) (fun _ _ _ h => h) (Or.inl ⟨by rfl, ?_⟩) (by assumption) ?_
                    rotate_left
                    · ((intro w hSw; (try dsimp only at hSw); go_simp; (try rw [if_neg (by omega)])); try with_reducible rfl)
                    (try simp only [Act.put, List.setIfInBounds_toArray, List.set_cons_zero, List.set_cons_succ])
                    refine wpAnyH_take (i := 1) (oi := { dst := some 109, op := Op.convert 76 3 (Operand.tmp 108), type := 3, pos := "law.go:306", after := #[{ on := 0, ground := Ground.data }], guard := none }) (v := ?_) rfl (by kernel_rfl) (by kernel_rfl) (by kernel_rfl) (fun _ _ _ h => h) (Or.inl ⟨by rfl, ?_⟩) (by assumption) ?_
                    rotate_left
                    · ((intro w hSw; (try dsimp only at hSw); go_simp; (try rw [if_neg (by omega)])); try with_reducible rfl)
                    (try simp only [Act.put, List.setIfInBounds_toArray, List.set_cons_zero, List.set_cons_succ])
                    refine wpAnyH_take (i := 3) (oi := { dst := some 111, op := Op.indexAddr 77 (Operand.tmp 10) (Operand.const (Value.int IntKind.i64 0)), type := 0, pos := "law.go:306", after := #[], guard := none }) (v := ?_) rfl (by kernel_rfl) (by kernel_rfl) (by kernel_rfl) (fun _ _ _ h => h) (Or.inl ⟨by rfl, ?_⟩) (by assumption) ?_
                    rotate_left
                    · ((intro w hSw; (try dsimp only at hSw); go_simp; (try rw [if_neg (by omega)])); try with_reducible rfl)
                    (try simp only [Act.put, List.setIfInBounds_toArray, List.set_cons_zero, List.set_cons_succ])
                    refine wpAnyH_take (i := 4) (oi := { dst := some 112, op := Op.load 53 (Operand.tmp 111), type := 53, pos := "law.go:306", after := #[{ on := 3, ground := Ground.data }], guard := none }) (v := ?_) rfl (by kernel_rfl) (by kernel_rfl) (by kernel_rfl) (fun _ _ _ h => h) (Or.inl ⟨by rfl, ?_⟩) (by assumption) ?_
                    rotate_left
                    · ((intro w hSw; (try dsimp only at hSw); go_simp; (try rw [if_neg (by omega)])); try with_reducible rfl)
                    (try simp only [Act.put, List.setIfInBounds_toArray, List.set_cons_zero, List.set_cons_succ])
                    refine wpAnyH_take (i := 6) (oi := { dst := some 114, op := Op.indexAddr 77 (Operand.tmp 10) (Operand.const (Value.int IntKind.i64 1)), type := 0, pos := "law.go:306", after := #[], guard := none }) (v := ?_) rfl (by kernel_rfl) (by kernel_rfl) (by kernel_rfl) (fun _ _ _ h => h) (Or.inl ⟨by rfl, ?_⟩) (by assumption) ?_
                    rotate_left
                    · ((intro w hSw; (try dsimp only at hSw); go_simp; (try rw [if_neg (by omega)])); try with_reducible rfl)
                    (try simp only [Act.put, List.setIfInBounds_toArray, List.set_cons_zero, List.set_cons_succ])
                    refine wpAnyH_take (i := 7) (oi := { dst := some 115, op := Op.load 53 (Operand.tmp 114), type := 53, pos := "law.go:306", after := #[{ on := 6, ground := Ground.data }], guard := none }) (v := ?_) rfl (by kernel_rfl) (by kernel_rfl) (by kernel_rfl) (fun _ _ _ h => h) (Or.inl ⟨by rfl, ?_⟩) (by assumption) ?_
                    rotate_left
                    · ((intro w hSw; (try dsimp only at hSw); go_simp; (try rw [if_neg (by omega)])); try with_reducible rfl)
                    (try simp only [Act.put, List.setIfInBounds_toArray, List.set_cons_zero, List.set_cons_succ])
                    refine wpAnyH_take (i := 9) (oi := { dst := some 117, op := Op.move (Operand.tmp 8), type := 47, pos := "law.go:306", after := #[], guard := none }) (v := ?_) rfl (by kernel_rfl) (by kernel_rfl) (by kernel_rfl) (fun _ _ _ h => h) (Or.inl ⟨by rfl, ?_⟩) (by assumption) ?_
                    rotate_left
                    · ((intro w hSw; (try dsimp only at hSw); go_simp; (try rw [if_neg (by omega)])); try with_reducible rfl)
                    (try simp only [Act.put, List.setIfInBounds_toArray, List.set_cons_zero, List.set_cons_succ])
                    refine wpAnyH_take (i := 10) (oi := { dst := some 118, op := Op.move (Operand.tmp 9), type := 25, pos := "law.go:306", after := #[], guard := none }) (v := ?_) rfl (by kernel_rfl) (by kernel_rfl) (by kernel_rfl) (fun _ _ _ h => h) (Or.inl ⟨by rfl, ?_⟩) (by assumption) ?_
                    rotate_left
                    · ((intro w hSw; (try dsimp only at hSw); go_simp; (try rw [if_neg (by omega)])); try with_reducible rfl)
                    (try simp only [Act.put, List.setIfInBounds_toArray, List.set_cons_zero, List.set_cons_succ])
                    refine wpAnyH_ready (rs := [2]) (by kernel_rfl) (by simp) ?_
                    refine AllReadyH.cons (o := { dst := some 110, op := Op.buildSlice 53 0 #[], type := 53, pos := "law.go:306", after := #[], guard := none }) rfl (fun K hK => ?_) ?_
                    · go_simp
                      have ho0 := own_empty wz.drew 60 2 wz.heap.size (Nat.le_refl _)
                      have e0 : Below wz.heap.size wz (wz.drew.alloc (.cells #[] 60)) := balloc (Below.drew (Below.refl _ _)) _
                      refine hK.out _ _ ?_ (fun hHeld => ?_)
                      · first | exact HCLz.out _ e22 | exact HCLz.out _ e21 | exact HCLz.out _ e20 | exact HCLz.out _ e0 | exact HCLz.out _ (Below.drew (Below.refl _ wz))
                      clear hK K
                      (try simp only [Act.put, List.setIfInBounds_toArray, List.set_cons_zero, List.set_cons_succ])
                      refine wpAnyH_ready (rs := [5]) (by kernel_rfl) (by simp) ?_
                      refine AllReadyH.cons (o := { dst := some 113, op := Op.call { callee := Callee.builtin Builtin.append, args := #[Operand.tmp 110, Operand.tmp 112], argTypes := #[53, 53] }, type := 53, pos := "law.go:306", after := #[{ on := 2, ground := Ground.data }, { on := 4, ground := Ground.data }], guard := none }) rfl (fun K hK => ?_) ?_
                      · refine step_appN (by rfl) _ _ _ (by rfl) wz.heap.size 60 ig _ 2 16 Try.underlying53 hig' hg0 hg1 hg2 rfl (by omega) _ 0 [] (by rfl) ho0 _ an (AX.prc A) (by rfl) (HSLa2.out _ e0) (AX.prc_one _) (by unfold maxLen; omega) (by omega) e0.size ?_
                        intro v20 w20 ho20 hg20 ht20
                        rw [Nat.zero_add, List.nil_append] at ho20
                        obtain ⟨ra20, rc20, rfl⟩ := own_shape ho20
                        have e20 : Below wz.heap.size _ w20 := e0.grown hg20 e0.size (fun j ej => (ho0.lt j ej).1)
                        refine hK.out _ _ ?_ (fun hHeld => ?_)
                        · first | exact HCLz.out _ e22 | exact HCLz.out _ e21 | exact HCLz.out _ e20 | exact HCLz.out _ e0 | exact HCLz.out _ (Below.drew (Below.refl _ wz))
                        clear hK K
                        (try simp only [Act.put, List.setIfInBounds_toArray, List.set_cons_zero, List.set_cons_succ])
                        refine wpAnyH_ready (rs := [8]) (by kernel_rfl) (by simp) ?_
                        refine AllReadyH.cons (o := { dst := some 116, op := Op.call { callee := Callee.builtin Builtin.append, args := #[Operand.tmp 113, Operand.tmp 115], argTypes := #[53, 53] }, type := 53, pos := "law.go:306", after := #[{ on := 5, ground := Ground.data }, { on := 7, ground := Ground.data }, { on := 5, ground := Ground.chain }], guard := none }) rfl (fun K hK => ?_) ?_
                        · refine step_appN (by rfl) _ _ _ (by rfl) wz.heap.size 60 ig _ 2 16 Try.underlying53 hig' hg0 hg1 hg2 rfl (by omega) _ an (AX.prc A) (by rfl) ho20 _ dn (AX.prc D) (by rfl) (HSLb2.out _ e20) (AX.prc_one _) (by unfold maxLen; omega) (by omega) e20.size ?_
                          intro v21 w21 ho21 hg21 ht21
                          obtain ⟨ra21, rc21, rfl⟩ := own_shape ho21
                          have e21 : Below wz.heap.size _ w21 := e20.grown hg21 e20.size (fun j ej => (ho20.lt j ej).1)
                          refine hK.out _ _ ?_ (fun hHeld => ?_)
                          · first | exact HCLz.out _ e22 | exact HCLz.out _ e21 | exact HCLz.out _ e20 | exact HCLz.out _ e0 | exact HCLz.out _ (Below.drew (Below.refl _ wz))
                          clear hK K
                          (try simp only [Act.put, List.setIfInBounds_toArray, List.set_cons_zero, List.set_cons_succ])
                          refine wpAnyH_ready (rs := [11]) (by kernel_rfl) (by simp) ?_
                          refine AllReadyH.cons (o := { dst := some 119, op := Op.call { callee := Callee.value (Operand.func 29), args := #[Operand.tmp 109, Operand.tmp 116, Operand.tmp 117, Operand.tmp 118], argTypes := #[3, 53, 47, 25] }, type := 36, pos := "law.go:306", after := #[{ on := 1, ground := Ground.data }, { on := 8, ground := Ground.data }, { on := 9, ground := Ground.data }, { on := 10, ground := Ground.data }, { on := 8, ground := Ground.chain }], guard := none }) rfl (fun K hK => ?_) ?_
                          · go_simp
                            go_at_call 29
                            refine (sum_c HSUM1.out _ _ _ _ (by rw [List.length_append, HAN.out, HDN.out]; omega) (by rw [HRLE.out]; omega) HRT.out HATL.out (own_pr ho21 HAN.out HDN.out) (HRGz.out _ e21) (HATz.out _ e21)).mono ?_
                            rintro e w22 ⟨rfl, hb22⟩
                            have e22 := bnext e21 hb22
                            dsimp only
                            refine hK.out _ _ ?_ (fun hHeld => ?_)
                            · first | exact HCLz.out _ e22 | exact HCLz.out _ e21 | exact HCLz.out _ e20 | exact HCLz.out _ e0 | exact HCLz.out _ (Below.drew (Below.refl _ wz))
                            clear hK K
                            (try simp only [Act.put, List.setIfInBounds_toArray, List.set_cons_zero, List.set_cons_succ])
                            refine wpAnyH_take (i := 12) (oi := { dst := some 107, op := Op.move (Operand.tmp 119), type := 36, pos := "law.go:306", after := #[{ on := 11, ground := Ground.data }], guard := none }) (v := ?_) rfl (by kernel_rfl) (by kernel_rfl) (by kernel_rfl) (fun _ _ _ h => h) (Or.inl ⟨by rfl, ?_⟩) (by assumption) ?_
                            rotate_left
                            · ((intro w hSw; (try dsimp only at hSw); go_simp; (try rw [if_neg (by omega)])); try with_reducible rfl)
                            (try simp only [Act.put, List.setIfInBounds_toArray, List.set_cons_zero, List.set_cons_succ])
                            refine wpAnyH_take (i := 13) (oi := { dst := some 120, op := Op.extract (Operand.tmp 107) 0, type := 3, pos := "law.go:306", after := #[{ on := 12, ground := Ground.data }], guard := none }) (v := ?_) rfl (by kernel_rfl) (by kernel_rfl) (by kernel_rfl) (fun _ _ _ h => h) (Or.inl ⟨by rfl, ?_⟩) (by assumption) ?_
                            rotate_left
                            · ((intro w hSw; (try dsimp only at hSw); go_simp; (try rw [if_neg (by omega)])); try with_reducible rfl)
                            (try simp only [Act.put, List.setIfInBounds_toArray, List.set_cons_zero, List.set_cons_succ])
                            refine wpAnyH_take (i := 14) (oi := { dst := some 121, op := Op.extract (Operand.tmp 107) 1, type := 4, pos := "law.go:306", after := #[{ on := 12, ground := Ground.data }, { on := 15, ground := Ground.gcOnly Departure.lateStores }], guard := none }) (v := ?_) rfl (by kernel_rfl) (by kernel_rfl) (by kernel_rfl) (fun _ _ _ h => h) (Or.inl ⟨by rfl, ?_⟩) (by assumption) ?_
                            rotate_left
                            · ((intro w hSw; (try dsimp only at hSw); go_simp; (try rw [if_neg (by omega)])); try with_reducible rfl)
                            (try simp only [Act.put, List.setIfInBounds_toArray, List.set_cons_zero, List.set_cons_succ])
                            refine wpAnyH_take (i := 15) (oi := { dst := some 16, op := Op.assign (Operand.tmp 120), type := 3, pos := "law.go:306", after := #[{ on := 13, ground := Ground.data }, { on := 11, ground := Ground.chain }, { on := 0, ground := Ground.phase }, { on := 1, ground := Ground.phase }, { on := 2, ground := Ground.phase }, { on := 3, ground := Ground.phase }, { on := 4, ground := Ground.phase }, { on := 5, ground := Ground.phase }, { on := 6, ground := Ground.phase }, { on := 7, ground := Ground.phase }, { on := 8, ground := Ground.phase }, { on := 9, ground := Ground.phase }, { on := 10, ground := Ground.phase }, { on := 11, ground := Ground.phase }, { on := 12, ground := Ground.phase }, { on := 13, ground := Ground.phase }, { on := 14, ground := Ground.textOnly Departure.lateStores }], guard := none }) (v := ?_) rfl (by kernel_rfl) (by kernel_rfl) (by kernel_rfl) (fun _ _ _ h => h) (Or.inl ⟨by rfl, ?_⟩) (by assumption) ?_
                            rotate_left
                            · ((intro w hSw; (try dsimp only at hSw); go_simp; (try rw [if_neg (by omega)])); try with_reducible rfl)
                            (try simp only [Act.put, List.setIfInBounds_toArray, List.set_cons_zero, List.set_cons_succ])
                            refine wpAnyH_take (i := 16) (oi := { dst := some 17, op := Op.assign (Operand.tmp 121), type := 4, pos := "law.go:306", after := #[{ on := 14, ground := Ground.data }, { on := 15, ground := Ground.chain }, { on := 0, ground := Ground.phase }, { on := 1, ground := Ground.phase }, { on := 2, ground := Ground.phase }, { on := 3, ground := Ground.phase }, { on := 4, ground := Ground.phase }, { on := 5, ground := Ground.phase }, { on := 6, ground := Ground.phase }, { on := 7, ground := Ground.phase }, { on := 8, ground := Ground.phase }, { on := 9, ground := Ground.phase }, { on := 10, ground := Ground.phase }, { on := 11, ground := Ground.phase }, { on := 12, ground := Ground.phase }, { on := 13, ground := Ground.phase }, { on := 14, ground := Ground.phase }, { on := 15, ground := Ground.phase }], guard := none }) (v := ?_) rfl (by kernel_rfl) (by kernel_rfl) (by kernel_rfl) (fun _ _ _ h => h) (Or.inl ⟨by rfl, ?_⟩) (by assumption) ?_
                            rotate_left
                            · ((intro w hSw; (try dsimp only at hSw); go_simp; (try rw [if_neg (by omega)])); try with_reducible rfl)
                            (try simp only [Act.put, List.setIfInBounds_toArray, List.set_cons_zero, List.set_cons_succ])
                            refine wpAnyH_done (by kernel_rfl) ?_ _
                            have HW22 := Lib.hid e22
                            go_simp
                            obtain ⟨y0, y1⟩ := HCLz.out w22 e22
                            clear hb22 e0 e20 e21 e22 ho0 ho20 ho21 hg20 hg21 ht20 ht21
                            go_wp2_with fail
                            refine (sum_c HSUM2.out _ _ _ _ (by rw [HAN.out]; omega) (by rw [HRLE.out]; omega) HRT.out HATL.out (HPA.out _ HW22.out) (HRGz.out _ HW22.out) (HATz.out _ HW22.out)).mono ?_
                            rintro e w23 ⟨rfl, hb23⟩
                            have HW23 := Lib.hid (bnext HW22.out hb23)
                            clear y0 y1 hb23
                            obtain ⟨y0, y1⟩ := HCLz.out w23 HW23.out
                            go_wp2_with fail
                            refine (sum_c HSUM3.out _ _ _ _ (by rw [HDN.out]; omega) (by rw [HRLE.out]; omega) HRT.out HATL.out (HPD.out _ HW23.out) (HRGz.out _ HW23.out) (HATz.out _ HW23.out)).mono ?_
                            rintro e w24 ⟨rfl, hb24⟩
                            have HW24 := Lib.hid (bnext HW23.out hb24)
                            clear y0 y1 hb24
                            go_wp2_with fail
                            refine (sum_c HSUM4.out _ _ _ _ HFL.out (by rw [HRLE.out]; omega) HRT.out HATL.out (HPF.out _ HW24.out) (HRGz.out _ HW24.out) (HATz.out _ HW24.out)).mono ?_
                            rintro e w25 ⟨rfl, hb25⟩
                            have HW25 := Lib.hid (bnext HW24.out hb25)
                            clear hb25
                            have hsum := HSUMQ.out
                            have hwq : IntKind.i64.wrap (sb + sd) = sb + sd := by rw [IntKind.wrap_i64]; omega
                            have hq1 : (sa == sb + sd) = true := by simpa using hsum.1
                            have hq2 : (sa == sa) = true := by simp
                            clear hsum
                            go_wp2
                            go_ret
                            exact ⟨by rfl, bnext HBz.out HW25.out⟩
                          exact AllReadyH.nil
                        exact AllReadyH.nil
                      exact AllReadyH.nil
                    exact AllReadyH.nil
              exact AllReadyH.nil
            exact AllReadyH.nil
          exact AllReadyH.nil
        exact AllReadyH.nil

set_option maxRecDepth 100000 in
theorem lifted (os : Os) (started : os.Started) (H : Type) (enc : TypeId × Value → H) :
    ReturnsInHanded {} Try.checked os 10 .any (Rows.axesAddsSpec.pre6 enc Try.prog Try.f10 Rows.axesAddsRow.domain false) (Rows.axesAddsSpec.post enc Try.prog Try.f10 false true false false) := by
  refine returnsInHanded_of_change (C := Try.checked) own started (by kernel_rfl) Try.func10
    (ChangeSpec.witness6 (enc := enc) (C := Try.checked) false ⟨#[], #[.int .i16 0, .agg #[.slice none 0 0, .slice none 0 0], .agg #[.slice none 0 0, .slice none 0 0, .slice none 0 0, .slice none 0 0, .int .u8 0]], []⟩ 8 (by kernel_rfl) (by kernel_rfl) (by kernel_rfl) (by kernel_rfl)) ?_
  intro W base args ds gs before hval0 hW hcnd _
  have hval : ∀ (j : Nat) t v, Try.f10.params[j]? = some t → args[j]? = some v → Value.okWide Try.prog W .any base t v := hval0
  have hW' := hW
  obtain ⟨p, q, hA0, hV, rfl, hfz, hnd⟩ := hW
  have hA : DataW.TrodAll enc Try.prog W 0 (fun _ => true) true Try.f10.params.toList args.toList ds p := hA0
  rw [Try.params10] at hA hval
  obtain ⟨v0, vs0, d0, ds0, p0, q0, hargs, rfl, rfl, h0, r0⟩ := trodAll_cons hA
  obtain ⟨v1, vs1, d1, ds1, p1, q1, rfl, rfl, rfl, h1, r1⟩ := trodAll_cons r0
  obtain ⟨v2, vs2, d2, ds2, p2, q2, rfl, rfl, rfl, h2, r2⟩ := trodAll_cons r1
  obtain ⟨rfl, rfl, rfl⟩ := trodAll_nil r2
  obtain rfl : args = #[v0, v1, v2] := by cases args; simp_all
  obtain ⟨rfl, rfl⟩ := trodVars_none hV
  have k0 := h0
  have lt0 : ∀ x ∈ p0, x.block < W.heap.size := by obtain ⟨m, hm⟩ := k0; exact DataW.trod_lt m _ _ _ hm
  have k1 := h1
  have lt1 : ∀ x ∈ p1, x.block < W.heap.size := by obtain ⟨m, hm⟩ := k1; exact DataW.trod_lt m _ _ _ hm
  have k2 := h2
  have lt2 : ∀ x ∈ p2, x.block < W.heap.size := by obtain ⟨m, hm⟩ := k2; exact DataW.trod_lt m _ _ _ hm
  obtain ⟨a0, rfl, rfl, rfl, wa0⟩ := open_int Try.underlying76 (hval 0 76 v0 rfl rfl) h0
  obtain ⟨p1, q1, l1, m1, rfl, H1⟩ := open_grows2 (hval 1 77 v1 rfl rfl) h1
  obtain ⟨L2, a2, g2, b2, x2, H2⟩ := open_case (hval 2 56 v2 rfl rfl) h2
  clear hA0 hval0
  refine (walk a0 p1 q1 l1 m1 v2 L2 a2 g2 b2 x2 wa0 W H1 H2).mono fun e W' ⟨he, bel⟩ => ?_
  subst he
  exact ⟨_, rfl, _, _, _, [], _, [], hW', trodAll_mk1 (shut_bool Try.underlying4 _), (trodAll_cons_mk (Below.trod laidOut (by kernel_rfl) (of_decide_eq_true (by kernel_rfl)) k0 bel lt0) (trodAll_cons_mk (Below.trod laidOut (by kernel_rfl) (of_decide_eq_true (by kernel_rfl)) k1 bel lt1) (trodAll_cons_mk (Below.trod laidOut (by kernel_rfl) (of_decide_eq_true (by kernel_rfl)) k2 bel lt2) trodAll_mk0))), rfl, bel.frame _, fun h => by cases h⟩

theorem over : Rows.axesAddsRow.holds Try.pinned (OpenSpec.ofChange Rows.axesAddsSpec) :=
  OpenClaim.holds_of_wide 10 Try.f10 rfl rfl rfl rfl rfl rfl rfl ⟨rfl, rfl, rfl, rfl, rfl⟩ rfl rfl rfl rfl rfl (by kernel_rfl) Try.func10 (by kernel_rfl)
    (of_decide_eq_true (by kernel_rfl)) (by unfold Func.isWrapper; first | (rw [if_pos (by decide +kernel)]; kernel_rfl) | (rw [if_neg (by decide +kernel)]; exact ⟨rfl, rfl⟩))
    (fun os started H enc _ => lifted os started H enc)

end Go.Proofs.Ytbhkbjnmpaebdaa.axesAdds
namespace Go.Proofs.Ytbhkbjnmpaebdaa
theorem axesAdds_proved : Rows.AxesAddsSaid := axesAdds.over
#print axioms axesAdds_proved
end Go.Proofs.Ytbhkbjnmpaebdaa
