/- For every region, list of ranges and case AxesTouches returns true: Ranges, Within and Touches answer as the reference does, for any of them, and ranges that numbers make are right. No conditions. -/
import Derived.Test.YtbhkbjnmpaebdaaAx30
import Derived.Test.YtbhkbjnmpaebdaaLast
import Derived.Test.YtbhkbjnmpaebdaaHeldIn
namespace Go.Proofs.Ytbhkbjnmpaebdaa.axesTouches
open Go.ChangeShapes Go.WideShapes Go.ChangeAt Go.RowKit Go.Joins Go.Deep
set_option linter.unusedVariables false

set_option maxRecDepth 100000 in
set_option maxHeartbeats 16000000 in
theorem walk (u0 : Value) (a0 : List AX.Tn) (v1 : Value) (a1 : List AX.Pr) (v2 : Value) (L2 : List (List Int)) (a2 : List Int) (g2 : List Int) (b2 : List Int) (x2 : Int)  (w : World) (H0 : TnArg w u0 a0) (H1 : PrArg w v1 a1) (H2 : CaArg w v2 L2 a2 g2 b2 x2) :
    Calls Try.prog 7 #[.agg #[u0], v1, v2] w fun e w' => e = .returned (.bool true) ∧ Below w.heap.size w w' := by
  obtain ⟨i0, hi0, hz0, hz1, hz2⟩ := info_parts info_rg
  obtain ⟨ip, hip, hq0, hq1, hq2⟩ := info_parts info_pr
  obtain ⟨ar, cr, aa, ca, ag, cg, aw, cw, rfl, ⟨hll, hllm⟩, hia, hig, hiw, hx0, hx1⟩ := H2.out
  obtain ⟨nr, hnr⟩ : ∃ nr, L2.length = nr := ⟨_, rfl⟩
  obtain ⟨na, hna⟩ : ∃ na, a2.length = na := ⟨_, rfl⟩
  obtain ⟨ng, hng⟩ : ∃ ng, g2.length = ng := ⟨_, rfl⟩
  obtain ⟨nw, hnw⟩ : ∃ nw, b2.length = nw := ⟨_, rfl⟩
  obtain ⟨x, hx⟩ : ∃ x, x = x2 := ⟨_, rfl⟩
  subst hx
  obtain ⟨n, hn⟩ : ∃ n : Nat, x % 4 = (n : Int) := ⟨(x % 4).toNat, by omega⟩
  have hn3 : n ≤ 3 := by omega
  rw [hnr] at hll
  rw [hna] at hia
  rw [hng] at hig
  rw [hnw] at hiw
  rw [hnr, hna, hng, hnw]
  unfold CaV
  have HLL : Hid (∀ V, Below w.heap.size w V → LnAt V (.slice ar nr cr) L2) := Lib.hid fun V hV => hll.keep hV
  have HIA : Hid (∀ V, Below w.heap.size w V → InArg V (.slice aa na ca) a2) := Lib.hid fun V hV => hia.keep hV
  have HIG : Hid (∀ V, Below w.heap.size w V → InArg V (.slice ag ng cg) g2) := Lib.hid fun V hV => hig.keep hV
  have HIW : Hid (∀ V, Below w.heap.size w V → InArg V (.slice aw nw cw) b2) := Lib.hid fun V hV => hiw.keep hV
  have HX := Lib.hid hn
  have HLM := Lib.hid hllm
  clear H2 hll hia hig hiw hnr hna hng hnw hllm
  obtain ⟨hts, htl, htc⟩ := H0
  have hts' := hts
  obtain ⟨ta, tc, rfl, -, -⟩ := hts'
  obtain ⟨tn, htn⟩ : ∃ tn, a0.length = tn := ⟨_, rfl⟩
  have HTN := Lib.hid htn
  have HTS : Hid (∀ V, Below w.heap.size w V → SrcN 3 V (.slice ta tn tc) a0.length (AX.tnc a0)) := Lib.hid fun V hV => by rw [← HTN.out]; exact hts.keep hV
  have HTC := Lib.hid htc
  rw [htn] at HTC ⊢
  have hp' := H1.1
  obtain ⟨pa, pc, rfl, -, -⟩ := hp'
  obtain ⟨pn, hpn⟩ : ∃ pn, a1.length = pn := ⟨_, rfl⟩
  rw [hpn] at H1 ⊢
  have HPR := Lib.hid H1
  obtain ⟨m, hm⟩ : ∃ m : Nat, (if (5 : Int) < (pn : Int) then 5 else (pn : Int)) = (m : Int) := ⟨min pn 5, by split <;> omega⟩
  have hm5 : m ≤ 5 ∧ m ≤ pn := by split at hm <;> omega
  have hmc : m ≤ pc := (prarg_take H1 hm5.2).2.2
  have HML : Hid ((a1.take m).length = m) := Lib.hid (prarg_take H1 hm5.2).2.1
  obtain ⟨B, hB⟩ : ∃ B, w.heap.size = B := ⟨_, rfl⟩
  obtain ⟨W0, hW0, b0, b1, bel0, hsz0⟩ := two_blocks w (.cells #[.slice ta tn tc] 42) (.cells #[.slice ar nr cr, .slice aa na ca, .slice ag ng cg, .slice aw nw cw, .int .u8 x] 56) B hB
  have HBX0 : Hid (∀ V, Below W0.heap.size W0 V → V.heap[B]? = some (.cells #[.slice ta tn tc] 42 (0, 0))) := Lib.hid fun V hV => (hV.block B (Array.getElem?_eq_some_iff.1 b0).1).trans b0
  have HCX0 : Hid (∀ V, Below W0.heap.size W0 V → V.heap[B + 1]? = some (.cells #[.slice ar nr cr, .slice aa na ca, .slice ag ng cg, .slice aw nw cw, .int .u8 x] 56 (0, 0))) := Lib.hid fun V hV => (hV.block (B + 1) (Array.getElem?_eq_some_iff.1 b1).1).trans b1
  have HB0 := Lib.hid bel0
  have HB := Lib.hid hB
  have HSZ0 := Lib.hid hsz0
  clear H1 hts htl htc htn hpn b0 b1 bel0 hsz0
  go_enter Try.func7, Try.ntmps7
  go_upto_region 1 with fail
  try rw [hW0]
  try rw [hB]
  clear hW0 hB
  go_wp2_with fail
  refine (sane_any _).mono ?_
  rintro e w1 ⟨rfl, hb1⟩
  have HB1 := Lib.hid hb1
  have c0 := cell_of (HBX0.out w1 hb1) (i := 0) rfl
  have f0 := frozen_of (HBX0.out w1 hb1) 0
  clear hb1
  go_wp2_with fail
  refine (few_any a0 _ w1 (by have := HTS.out w1 (bnext HB0.out HB1.out); exact this) (fun a n c e => (HTC.out a n c e).1)).mono ?_
  rintro e w2 ⟨fv, fm, rfl, hfm5, hfml, hfo, hb2⟩
  obtain ⟨fa, fc, rfl⟩ := own_shape hfo
  have HFM := Lib.hid hfml
  have hx2 := HBX0.out w2 (bnext HB1.out hb2)
  have x0 := cell_of hx2 (i := 0) rfl
  have f1 := frozen_of hx2 0
  have HX3 := Lib.hid (heap_setCell_same w2 B 0 _ _ (.slice fa fm fc) hx2)
  have HC3 := Lib.hid ((Below.heap_setCell w2 ⟨B, 0, none⟩ (.slice fa fm fc) (B + 1) (by show B + 1 ≠ B; omega)).trans (HCX0.out w2 (bnext HB1.out hb2)))
  have HBW3 := Lib.hid (bset (bnext HB0.out (bnext HB1.out hb2)) (p := ⟨B, 0, none⟩) (by have := HB.out; show w.heap.size ≤ B; omega) (.slice fa fm fc))
  have HTF3 : Hid (TnAt (w2.setCell ⟨B, 0, none⟩ (.slice fa fm fc)) (.slice fa fm fc) (a0.take fm)) := Lib.hid (by
    have h1 := own_of_grown hfo (set_kept w2 B 0 (.slice fa fm fc)) (fun q h1 e => by
      have := (hfo.lt q h1).1
      have := HB1.out.size
      have := HSZ0.out
      have := Option.some.inj e
      omega)
    have h2 := own_srcN h1
    have h3 : SrcN 3 (w2.setCell ⟨B, 0, none⟩ (.slice fa fm fc)) (.slice fa fm fc) (a0.take fm).length (AX.tnc (a0.take fm)) := by rw [hfml]; exact h2
    exact h3.tn)
  clear c0 f0 hx2 hfo hb2 hfml
  go_upto_region 3 with fail
  obtain ⟨W3, hW3⟩ : ∃ W3, w2.setCell ⟨B, 0, none⟩ (.slice fa fm fc) = W3 := ⟨_, rfl⟩
  try rw [hW3]
  rw [hW3] at HX3 HC3 HBW3 HTF3
  clear hW3 x0 f1
  go_upto_region 4 with (at_builtin; refine wpList_appN _ rfl _ _ 22 rfl W3.heap.size 30 ip _ 2 16 Try.underlying22 hip hq0 hq1 hq2 rfl (by decide) _ _ _ rfl (own_empty W3 30 2 W3.heap.size (Nat.le_refl _)) _ m (AX.prc (a1.take m)) rfl ((prarg_take (HPR.out.keep HBW3.out) hm5.2).1.keep (balloc (Below.refl _ _) _)) (AX.prc_one _) (by unfold maxLen; omega) (by omega) (by simp) ?_; intro v' w4 hown' hgrow hat; rw [Nat.zero_add, List.nil_append] at hown'; obtain ⟨la, lc, rfl⟩ := own_shape hown')
  have hb34 : Below W3.heap.size W3 w4 := (balloc (Below.refl _ W3) _).grown hgrow (by simp) (fun j ej => by have : W3.heap.size = j := Option.some.inj ej; omega)
  have HB34 := Lib.hid hb34
  have HB4 := Lib.hid (bnext HBW3.out hb34)
  have HPL4 : Hid (PrAt w4 (.slice la m lc) (a1.take m)) := Lib.hid (by
    have h2 := own_srcN hown'
    have h3 : SrcN 2 w4 (.slice la m lc) (a1.take m).length (AX.prc (a1.take m)) := by rw [HML.out]; exact h2
    exact h3.pr)
  have hC4 := (hb34.block (B + 1) (Array.getElem?_eq_some_iff.1 HC3.out).1).trans HC3.out
  have hlt4 : B + 1 < w4.heap.size := (Array.getElem?_eq_some_iff.1 hC4).1
  have HS : Hid (∀ V, Below w4.heap.size w4 V → (fun w' => w'.cell? ⟨(B + 1), 0, none⟩ = some (.slice ar nr cr) ∧ w'.cell? ⟨(B + 1), 1, none⟩ = some (.slice aa na ca) ∧ w'.cell? ⟨(B + 1), 2, none⟩ = some (.slice ag ng cg) ∧ w'.cell? ⟨(B + 1), 3, none⟩ = some (.slice aw nw cw) ∧ w'.cell? ⟨(B + 1), 4, none⟩ = some (.int .u8 x)) V) := Lib.hid fun V hV => by
    have h := (hV.block (B + 1) hlt4).trans hC4
    exact ⟨cell_of h rfl, cell_of h rfl, cell_of h rfl, cell_of h rfl, cell_of h rfl⟩
  have HS' := HS.out w4 (Below.refl _ _)
  clear hb34 hown' hgrow hat hC4 hm
  go_upto_region 4 with fail
  refine wp_region_last #[{ dst := some 25, op := Op.fieldAddr 56 (Operand.tmp 5) 1, type := 0, pos := "law.go:193", after := #[], guard := none }, { dst := some 26, op := Op.load 25 (Operand.tmp 25), type := 25, pos := "law.go:193", after := #[{ on := 0, ground := Ground.data }], guard := none }, { dst := some 27, op := Op.load 56 (Operand.tmp 5), type := 56, pos := "law.go:193", after := #[], guard := none }, { dst := some 28, op := Op.call { callee := Callee.value (Operand.func 28), args := #[Operand.tmp 27], argTypes := #[56] }, type := 3, pos := "law.go:193", after := #[{ on := 2, ground := Ground.data }], guard := none }, { dst := some 29, op := Op.call { callee := Callee.value (Operand.func 22), args := #[Operand.tmp 26, Operand.tmp 28], argTypes := #[25, 3] }, type := 25, pos := "law.go:193", after := #[{ on := 1, ground := Ground.data }, { on := 3, ground := Ground.data }, { on := 3, ground := Ground.chain }], guard := none }, { dst := some 30, op := Op.fieldAddr 56 (Operand.tmp 5) 2, type := 0, pos := "law.go:193", after := #[], guard := none }, { dst := some 31, op := Op.load 25 (Operand.tmp 30), type := 25, pos := "law.go:193", after := #[{ on := 5, ground := Ground.data }], guard := none }, { dst := some 32, op := Op.load 56 (Operand.tmp 5), type := 56, pos := "law.go:193", after := #[], guard := none }, { dst := some 33, op := Op.call { callee := Callee.value (Operand.func 28), args := #[Operand.tmp 32], argTypes := #[56] }, type := 3, pos := "law.go:193", after := #[{ on := 7, ground := Ground.data }, { on := 4, ground := Ground.chain }], guard := none }, { dst := some 34, op := Op.call { callee := Callee.value (Operand.func 31), args := #[Operand.tmp 31, Operand.tmp 33], argTypes := #[25, 3] }, type := 22, pos := "law.go:193", after := #[{ on := 6, ground := Ground.data }, { on := 8, ground := Ground.data }, { on := 8, ground := Ground.chain }], guard := none }, { dst := some 8, op := Op.assign (Operand.tmp 29), type := 25, pos := "law.go:193", after := #[{ on := 4, ground := Ground.data }, { on := 9, ground := Ground.chain }, { on := 0, ground := Ground.phase }, { on := 1, ground := Ground.phase }, { on := 2, ground := Ground.phase }, { on := 3, ground := Ground.phase }, { on := 4, ground := Ground.phase }, { on := 5, ground := Ground.textOnly Departure.lateStores }, { on := 6, ground := Ground.textOnly Departure.lateStores }, { on := 7, ground := Ground.textOnly Departure.lateStores }, { on := 8, ground := Ground.textOnly Departure.lateStoresUnsure }, { on := 9, ground := Ground.textOnly Departure.lateStoresUnsure }], guard := none }] { dst := some 9, op := Op.assign (Operand.tmp 34), type := 22, pos := "law.go:193", after := #[{ on := 9, ground := Ground.data }, { on := 10, ground := Ground.chain }, { on := 0, ground := Ground.phase }, { on := 1, ground := Ground.phase }, { on := 2, ground := Ground.phase }, { on := 3, ground := Ground.phase }, { on := 4, ground := Ground.phase }, { on := 5, ground := Ground.phase }, { on := 6, ground := Ground.phase }, { on := 7, ground := Ground.phase }, { on := 8, ground := Ground.phase }, { on := 9, ground := Ground.phase }, { on := 10, ground := Ground.phase }], guard := none } rfl (by kernel_rfl) (by kernel_rfl) (fun w' => w'.cell? ⟨(B + 1), 0, none⟩ = some (.slice ar nr cr) ∧ w'.cell? ⟨(B + 1), 1, none⟩ = some (.slice aa na ca) ∧ w'.cell? ⟨(B + 1), 2, none⟩ = some (.slice ag ng cg) ∧ w'.cell? ⟨(B + 1), 3, none⟩ = some (.slice aw nw cw) ∧ w'.cell? ⟨(B + 1), 4, none⟩ = some (.int .u8 x)) ?_ (fun hHeld => ?_)
  · first | exact HS.out _ a8 | exact HS.out _ a7 | exact HS.out _ a6 | exact HS.out _ a5 | exact HS.out _ (Below.drew (Below.refl _ w4))
  refine wpAnyH_take (i := 0) (oi := { dst := some 25, op := Op.fieldAddr 56 (Operand.tmp 5) 1, type := 0, pos := "law.go:193", after := #[], guard := none }) (v := ?_) rfl (by kernel_rfl) (by kernel_rfl) (by kernel_rfl) (fun _ _ _ h => h) (Or.inl ⟨by rfl, ?_⟩) (by assumption) ?_
  rotate_left
  · ((intro w hSw; (try dsimp only at hSw); go_simp; (try rw [if_neg (by omega)])); try with_reducible rfl)
  (try simp only [Act.put, List.setIfInBounds_toArray, List.set_cons_zero, List.set_cons_succ])
  refine wpAnyH_take (i := 1) (oi := { dst := some 26, op := Op.load 25 (Operand.tmp 25), type := 25, pos := "law.go:193", after := #[{ on := 0, ground := Ground.data }], guard := none }) (v := ?_) rfl (by kernel_rfl) (by kernel_rfl) (by kernel_rfl) (fun _ _ _ h => h) (Or.inl ⟨by rfl, ?_⟩) (by assumption) ?_
  rotate_left
  · ((intro w hSw; obtain ⟨s0, s1, s2, s3, s4⟩ := hSw; go_simp); try with_reducible rfl)
  (try simp only [Act.put, List.setIfInBounds_toArray, List.set_cons_zero, List.set_cons_succ])
  refine wpAnyH_take (i := 2) (oi := { dst := some 27, op := Op.load 56 (Operand.tmp 5), type := 56, pos := "law.go:193", after := #[], guard := none }) (v := ?_) rfl (by kernel_rfl) (by kernel_rfl) (by kernel_rfl) (fun _ _ _ h => h) (Or.inl ⟨by rfl, ?_⟩) (by assumption) ?_
  rotate_left
  · ((intro w hSw; obtain ⟨s0, s1, s2, s3, s4⟩ := hSw; go_simp); try with_reducible rfl)
  (try simp only [Act.put, List.setIfInBounds_toArray, List.set_cons_zero, List.set_cons_succ])
  refine wpAnyH_take (i := 5) (oi := { dst := some 30, op := Op.fieldAddr 56 (Operand.tmp 5) 2, type := 0, pos := "law.go:193", after := #[], guard := none }) (v := ?_) rfl (by kernel_rfl) (by kernel_rfl) (by kernel_rfl) (fun _ _ _ h => h) (Or.inl ⟨by rfl, ?_⟩) (by assumption) ?_
  rotate_left
  · ((intro w hSw; (try dsimp only at hSw); go_simp; (try rw [if_neg (by omega)])); try with_reducible rfl)
  (try simp only [Act.put, List.setIfInBounds_toArray, List.set_cons_zero, List.set_cons_succ])
  refine wpAnyH_take (i := 6) (oi := { dst := some 31, op := Op.load 25 (Operand.tmp 30), type := 25, pos := "law.go:193", after := #[{ on := 5, ground := Ground.data }], guard := none }) (v := ?_) rfl (by kernel_rfl) (by kernel_rfl) (by kernel_rfl) (fun _ _ _ h => h) (Or.inl ⟨by rfl, ?_⟩) (by assumption) ?_
  rotate_left
  · ((intro w hSw; obtain ⟨s0, s1, s2, s3, s4⟩ := hSw; go_simp); try with_reducible rfl)
  (try simp only [Act.put, List.setIfInBounds_toArray, List.set_cons_zero, List.set_cons_succ])
  refine wpAnyH_take (i := 7) (oi := { dst := some 32, op := Op.load 56 (Operand.tmp 5), type := 56, pos := "law.go:193", after := #[], guard := none }) (v := ?_) rfl (by kernel_rfl) (by kernel_rfl) (by kernel_rfl) (fun _ _ _ h => h) (Or.inl ⟨by rfl, ?_⟩) (by assumption) ?_
  rotate_left
  · ((intro w hSw; obtain ⟨s0, s1, s2, s3, s4⟩ := hSw; go_simp); try with_reducible rfl)
  (try simp only [Act.put, List.setIfInBounds_toArray, List.set_cons_zero, List.set_cons_succ])
  refine wpAnyH_ready (rs := [3]) (by kernel_rfl) (by simp) ?_
  refine AllReadyH.cons (o := { dst := some 28, op := Op.call { callee := Callee.value (Operand.func 28), args := #[Operand.tmp 27], argTypes := #[56] }, type := 3, pos := "law.go:193", after := #[{ on := 2, ground := Ground.data }], guard := none }) rfl (fun K hK => ?_) AllReadyH.nil
  (go_simp; go_at_call 28; refine (axesOf_c HX.out ar nr cr aa na ca ag ng cg aw nw cw hx0 hx1 _).mono ?_; rintro e w5 ⟨rfl, hb5⟩; have a5 := bnext (Below.drew (Below.refl _ w4)) hb5; dsimp only)
  refine hK.out _ _ ?_ (fun hHeld => ?_)
  · first | exact HS.out _ a8 | exact HS.out _ a7 | exact HS.out _ a6 | exact HS.out _ a5 | exact HS.out _ (Below.drew (Below.refl _ w4))
  clear hK K
  (try simp only [Act.put, List.setIfInBounds_toArray, List.set_cons_zero, List.set_cons_succ])
  refine wpAnyH_ready (rs := [4]) (by kernel_rfl) (by simp) ?_
  refine AllReadyH.cons (o := { dst := some 29, op := Op.call { callee := Callee.value (Operand.func 22), args := #[Operand.tmp 26, Operand.tmp 28], argTypes := #[25, 3] }, type := 25, pos := "law.go:193", after := #[{ on := 1, ground := Ground.data }, { on := 3, ground := Ground.data }, { on := 3, ground := Ground.chain }], guard := none }) rfl (fun K hK => ?_) AllReadyH.nil
  (go_simp; go_at_call 22; refine (madeat_any _ n _ _ (HIA.out _ (bnext HB4.out a5)).1 (HIA.out _ (bnext HB4.out a5)).2.1 hn3).mono ?_; rintro e w6 ⟨ua, rfl, hoa, hb6⟩; have a6 := bnext a5 hb6; obtain ⟨uaa, uac, rfl⟩ := own_shape hoa; dsimp only)
  refine hK.out _ _ ?_ (fun hHeld => ?_)
  · first | exact HS.out _ a8 | exact HS.out _ a7 | exact HS.out _ a6 | exact HS.out _ a5 | exact HS.out _ (Below.drew (Below.refl _ w4))
  clear hK K
  (try simp only [Act.put, List.setIfInBounds_toArray, List.set_cons_zero, List.set_cons_succ])
  refine wpAnyH_ready (rs := [8]) (by kernel_rfl) (by simp) ?_
  refine AllReadyH.cons (o := { dst := some 33, op := Op.call { callee := Callee.value (Operand.func 28), args := #[Operand.tmp 32], argTypes := #[56] }, type := 3, pos := "law.go:193", after := #[{ on := 7, ground := Ground.data }, { on := 4, ground := Ground.chain }], guard := none }) rfl (fun K hK => ?_) AllReadyH.nil
  (go_simp; go_at_call 28; refine (axesOf_c HX.out ar nr cr aa na ca ag ng cg aw nw cw hx0 hx1 _).mono ?_; rintro e w7 ⟨rfl, hb7⟩; have a7 := bnext a6 hb7; dsimp only)
  refine hK.out _ _ ?_ (fun hHeld => ?_)
  · first | exact HS.out _ a8 | exact HS.out _ a7 | exact HS.out _ a6 | exact HS.out _ a5 | exact HS.out _ (Below.drew (Below.refl _ w4))
  clear hK K
  (try simp only [Act.put, List.setIfInBounds_toArray, List.set_cons_zero, List.set_cons_succ])
  refine wpAnyH_ready (rs := [9]) (by kernel_rfl) (by simp) ?_
  refine AllReadyH.cons (o := { dst := some 34, op := Op.call { callee := Callee.value (Operand.func 31), args := #[Operand.tmp 31, Operand.tmp 33], argTypes := #[25, 3] }, type := 22, pos := "law.go:193", after := #[{ on := 6, ground := Ground.data }, { on := 8, ground := Ground.data }, { on := 8, ground := Ground.chain }], guard := none }) rfl (fun K hK => ?_) AllReadyH.nil
  (go_simp; go_at_call 31; refine (maderanges_any _ n _ _ (HIG.out _ (bnext HB4.out a7)).1 (HIG.out _ (bnext HB4.out a7)).2.1 hn3).mono ?_; rintro e w8 ⟨ug, rfl, hog, hb8⟩; have a8 := bnext a7 hb8; obtain ⟨uga, ugc, rfl⟩ := own_shape hog; dsimp only)
  refine hK.out _ _ ?_ (fun hHeld => ?_)
  · first | exact HS.out _ a8 | exact HS.out _ a7 | exact HS.out _ a6 | exact HS.out _ a5 | exact HS.out _ (Below.drew (Below.refl _ w4))
  clear hK K
  (try simp only [Act.put, List.setIfInBounds_toArray, List.set_cons_zero, List.set_cons_succ])
  refine wpAnyH_take (i := 10) (oi := { dst := some 8, op := Op.assign (Operand.tmp 29), type := 25, pos := "law.go:193", after := #[{ on := 4, ground := Ground.data }, { on := 9, ground := Ground.chain }, { on := 0, ground := Ground.phase }, { on := 1, ground := Ground.phase }, { on := 2, ground := Ground.phase }, { on := 3, ground := Ground.phase }, { on := 4, ground := Ground.phase }, { on := 5, ground := Ground.textOnly Departure.lateStores }, { on := 6, ground := Ground.textOnly Departure.lateStores }, { on := 7, ground := Ground.textOnly Departure.lateStores }, { on := 8, ground := Ground.textOnly Departure.lateStoresUnsure }, { on := 9, ground := Ground.textOnly Departure.lateStoresUnsure }], guard := none }) (v := ?_) rfl (by kernel_rfl) (by kernel_rfl) (by kernel_rfl) (fun _ _ _ h => h) (Or.inl ⟨by rfl, ?_⟩) (by assumption) ?_
  rotate_left
  · ((intro w hSw; (try dsimp only at hSw); go_simp; (try rw [if_neg (by omega)])); try with_reducible rfl)
  (try simp only [Act.put, List.setIfInBounds_toArray, List.set_cons_zero, List.set_cons_succ])
  refine wpAnyH_done (by kernel_rfl) ?_ _
  show Oper.wp _ _ _ _ _ _
  go_simp
  have HIA8 : Hid (InAt w8 (.slice uaa n uac) (AX.mkAt a2 n)) := Lib.hid ((InAt.of (row_own hoa (by simp [AX.mkAt_len]))).keep (bnext hb7 hb8))
  have HMR8 : Hid (PrAt w8 (.slice uga n ugc) (AX.mkRanges g2 n)) := Lib.hid (by
    have h2 := own_srcN hog
    have h3 : SrcN 2 w8 (.slice uga n ugc) (AX.mkRanges g2 n).length (AX.prc (AX.mkRanges g2 n)) := by rw [AX.mkRanges_len]; exact h2
    exact h3.pr)
  have HB48 := Lib.hid a8
  have HB8 := Lib.hid (bnext HB4.out a8)
  clear hoa hog hb5 hb6 hb7 hb8 a5 a6 a7 a8 HS'
  go_upto_region 6 with fail
  obtain ⟨G, hG⟩ : ∃ G, w8.heap.size = G := ⟨_, rfl⟩
  obtain ⟨W9, hW9⟩ : ∃ W9, w8.alloc (.cells #[.slice la m lc, .slice uga n ugc] 22) = W9 := ⟨_, rfl⟩
  have hgx : W9.heap[G]? = some (.cells #[.slice la m lc, .slice uga n ugc] 22 (0, 0)) := by rw [← hW9, ← hG]; exact heap_alloc_new w8 _
  have hb89 : Below w8.heap.size w8 W9 := by rw [← hW9]; exact balloc (Below.refl _ _) _
  try rw [hW9]
  try rw [hG]
  have HB49 := Lib.hid (bnext HB48.out hb89)
  have HB9 := Lib.hid (bnext HB8.out hb89)
  have HIAT : Hid (∀ V, Below W9.heap.size W9 V → InAt V (.slice uaa n uac) (AX.mkAt a2 n)) := Lib.hid fun V hV => HIA8.out.keep (bnext hb89 hV)
  have HXX : Hid (∀ V, Below W9.heap.size W9 V → ∀ i, i < 2 → ∃ (xa : Option Addr) (xn xc : Nat) (P : List AX.Pr), V.cell? ⟨G, i, none⟩ = some (.slice xa xn xc) ∧ PrAt V (.slice xa xn xc) P ∧ P.length ≤ 5) := Lib.hid fun V hV i hi => by
    have h := (hV.block G (Array.getElem?_eq_some_iff.1 hgx).1).trans hgx
    have hi2 : i = 0 ∨ i = 1 := by omega
    rcases hi2 with h2 | h2 <;> subst h2
    · exact ⟨la, m, lc, a1.take m, cell_of h rfl, HPL4.out.keep (bnext HB49.out hV), by rw [HML.out]; omega⟩
    · exact ⟨uga, n, ugc, AX.mkRanges g2 n, cell_of h rfl, HMR8.out.keep (bnext hb89 hV), by rw [AX.mkRanges_len]; omega⟩
  have HMR9 : Hid (∀ V, Below W9.heap.size W9 V → PrAt V (.slice uga n ugc) (AX.mkRanges g2 n)) := Lib.hid fun V hV => HMR8.out.keep (bnext hb89 hV)
  have hGlt : G < W9.heap.size := (Array.getElem?_eq_some_iff.1 hgx).1
  have HGLT := Lib.hid hGlt
  have HCB9 : Hid (∀ V, Below W9.heap.size W9 V → B + 1 < V.heap.size ∧ V.heap[B]? = some (.cells #[.slice fa fm fc] 42 (0, 0)) ∧ TnAt V (.slice fa fm fc) (a0.take fm)) := Lib.hid fun V hV => by
    have h1 := bnext HB34.out (bnext HB49.out hV)
    have h2 := (Array.getElem?_eq_some_iff.1 HC3.out).1
    refine ⟨by have := h1.size; omega, (h1.block B (by omega)).trans HX3.out, HTF3.out.keep h1⟩
  clear hW9 hG hgx hb89 hGlt hlt4
  go_wp2_with fail
  go_loopw [39] (fun v39 wr => ∃ k : Nat, v39 = .int .i64 (k : Int) ∧ k ≤ 2 ∧ Below W9.heap.size W9 wr) (fun v _ => 2 - (intOf v).toNat)
  case atStart => exact ⟨0, rfl, Nat.zero_le _, Below.refl _ _⟩
  case round =>
    obtain ⟨k, rfl, hk, hb⟩ := hrel
    obtain ⟨wo, hwo⟩ : ∃ wo, wo = wr := ⟨_, rfl⟩
    subst hwo
    have HBK := Lib.hid hb
    by_cases hk2 : k < 2
    · have hkk : (k : Int) < 2 := by omega
      have hk0 : (0 : Int) ≤ (k : Int) := by omega
      obtain ⟨xa, xn, xc, P, cx, hpx, hp5⟩ := HXX.out wo hb k hk2
      have hpl2 : P.length ≤ 1000000000000 := by omega
      have HPW : Hid (∀ V, Below wo.heap.size wo V → PrAt V (.slice xa xn xc) P) := Lib.hid fun V hV => hpx.keep hV
      have hglt : G < wo.heap.size := by have := HGLT.out; have := hb.size; omega
      clear hpx hb
      go_wp2_with fail
      go_loopw [12] (fun v12 wr => ∃ j : Nat, v12 = .int .i64 ((j : Int) - 1) ∧ j ≤ 7 ∧ Below wo.heap.size wo wr) (fun v _ => 7 - (intOf v + 1).toNat)
      case atStart => exact ⟨0, rfl, by omega, Below.refl _ _⟩
      case round =>
        obtain ⟨j, rfl, hj, hbj⟩ := hrel
        obtain ⟨wp, hwp⟩ : ∃ wp, wp = wr := ⟨_, rfl⟩
        subst hwp
        have HBJ := Lib.hid hbj
        by_cases hj7 : j < 7
        · have hjj : (j : Int) - 1 ≤ 5 := by omega
          obtain ⟨r, hr⟩ : ∃ r, AX.ranges P ((j : Int) - 1) = r := ⟨_, rfl⟩
          have HR := Lib.hid hr
          have hneq : (r != r) = false := by simp
          clear hr hbj
          go_wp2_with fail
          refine (ranges_c HR.out _ _ hpl2 (HPW.out _ HBJ.out)).mono ?_
          rintro e w10 ⟨rfl, hb10⟩
          have HB10 := Lib.hid (bnext HBJ.out hb10)
          clear hb10
          go_wp2_with fail
          refine (rranges_c HR.out _ _ hpl2 (HPW.out _ HB10.out)).mono ?_
          rintro e w11 ⟨rfl, hb11⟩
          have HB11 := Lib.hid (bnext HB10.out hb11)
          clear hb11
          go_wp2_with fail
          go_roundw
          case rel => exact ⟨j + 1, by go_num, by omega, HB11.out⟩
          case measure => simp [intOf] <;> omega
        · obtain rfl : j = 7 := by omega
          obtain ⟨r, hr⟩ : ∃ r, AX.within (AX.mkAt a2 n) P = r := ⟨_, rfl⟩
          have HR := Lib.hid hr
          have hneq : (r != r) = false := by simp
          have hal : (AX.mkAt a2 n).length ≤ 1000000000000 := by rw [AX.mkAt_len]; omega
          clear hr hbj
          go_wp2_with fail
          refine (within_c HR.out _ _ _ hal hpl2 (HIAT.out _ (bnext HBK.out HBJ.out)) (HPW.out _ HBJ.out)).mono ?_
          rintro e w12 ⟨rfl, hb12⟩
          have HB12 := Lib.hid (bnext HBJ.out hb12)
          clear hb12
          go_wp2_with fail
          refine (rwithin_c HR.out _ _ _ hal hpl2 (HIAT.out _ (bnext HBK.out HB12.out)) (HPW.out _ HB12.out)).mono ?_
          rintro e w13 ⟨rfl, hb13⟩
          have hb13w := bnext HB12.out hb13
          have HPX : Hid (∀ V, Below w13.heap.size w13 V → PrAt V (.slice xa xn xc) P) := Lib.hid fun V hV => HPW.out V (bnext hb13w hV)
          have hb913 := bnext HBK.out hb13w
          have HB913 := Lib.hid hb913
          have HB13 := Lib.hid (bnext HB9.out hb913)
          obtain ⟨hBL, hbx13, htf13⟩ := HCB9.out w13 hb913
          have HBL := Lib.hid hBL
          have HTF13 : Hid (TnAt w13 (.slice fa fm fc) (a0.take fm)) := Lib.hid htf13
          have HSC := HS.out w13 (bnext HB49.out hb913)
          have x5 := cell_of hbx13 (i := 0) rfl
          obtain ⟨x0, x1, x2, x3, x4⟩ := HSC
          have HSQ : Hid (∀ V : World, (∀ q, q ≤ B + 1 → V.heap[q]? = w13.heap[q]?) → (fun w' => w'.cell? ⟨B + 1, 0, none⟩ = some (.slice ar nr cr) ∧ w'.cell? ⟨B + 1, 1, none⟩ = some (.slice aa na ca) ∧ w'.cell? ⟨B + 1, 2, none⟩ = some (.slice ag ng cg) ∧ w'.cell? ⟨B + 1, 3, none⟩ = some (.slice aw nw cw) ∧ w'.cell? ⟨B + 1, 4, none⟩ = some (.int .u8 x) ∧ w'.cell? ⟨B, 0, none⟩ = some (.slice fa fm fc)) V) := Lib.hid fun V hV =>
            ⟨(World.cell?_of_block (a := ⟨B + 1, 0, none⟩) (hV (B + 1) (Nat.le_refl _))).trans x0, (World.cell?_of_block (a := ⟨B + 1, 1, none⟩) (hV (B + 1) (Nat.le_refl _))).trans x1, (World.cell?_of_block (a := ⟨B + 1, 2, none⟩) (hV (B + 1) (Nat.le_refl _))).trans x2, (World.cell?_of_block (a := ⟨B + 1, 3, none⟩) (hV (B + 1) (Nat.le_refl _))).trans x3, (World.cell?_of_block (a := ⟨B + 1, 4, none⟩) (hV (B + 1) (Nat.le_refl _))).trans x4, (World.cell?_of_block (a := ⟨B, 0, none⟩) (hV B (by omega))).trans x5⟩
          have HS15 : Hid (∀ V, Below w13.heap.size w13 V → (fun w' => w'.cell? ⟨B + 1, 0, none⟩ = some (.slice ar nr cr) ∧ w'.cell? ⟨B + 1, 1, none⟩ = some (.slice aa na ca) ∧ w'.cell? ⟨B + 1, 2, none⟩ = some (.slice ag ng cg) ∧ w'.cell? ⟨B + 1, 3, none⟩ = some (.slice aw nw cw) ∧ w'.cell? ⟨B + 1, 4, none⟩ = some (.int .u8 x) ∧ w'.cell? ⟨B, 0, none⟩ = some (.slice fa fm fc)) V) := Lib.hid fun V hV => HSQ.out V (fun q hq => hV.block q (by omega))
          have hcut := hk2
          clear hb13 hb13w hb913 hBL hbx13 htf13
          go_upto_region 15 with fail
          refine wp_region_held_drew (S := fun w' => w'.cell? ⟨B + 1, 0, none⟩ = some (.slice ar nr cr) ∧ w'.cell? ⟨B + 1, 1, none⟩ = some (.slice aa na ca) ∧ w'.cell? ⟨B + 1, 2, none⟩ = some (.slice ag ng cg) ∧ w'.cell? ⟨B + 1, 3, none⟩ = some (.slice aw nw cw) ∧ w'.cell? ⟨B + 1, 4, none⟩ = some (.int .u8 x) ∧ w'.cell? ⟨B, 0, none⟩ = some (.slice fa fm fc)) (by kernel_rfl) ?_ (fun hHeld => ?_)
          · first | exact hS15 | exact HS15.out _ c17 | exact HS15.out _ c16 | exact HS15.out _ c15 | exact HS15.out _ (Below.drew (Below.refl _ w13))
          refine wpAnyH_take (i := 0) (oi := { dst := some 61, op := Op.load 56 (Operand.tmp 5), type := 56, pos := "law.go:203", after := #[], guard := none }) (v := ?_) rfl (by kernel_rfl) (by kernel_rfl) (by kernel_rfl) (fun _ _ _ h => h) (Or.inl ⟨by rfl, ?_⟩) (by assumption) ?_
          rotate_left
          · ((intro w hSw; (try dsimp only at hSw); go_simp; (try rw [if_neg (by omega)])); try with_reducible rfl)
          (try simp only [Act.put, List.setIfInBounds_toArray, List.set_cons_zero, List.set_cons_succ])
          refine wpAnyH_take (i := 2) (oi := { dst := some 63, op := Op.load 42 (Operand.tmp 3), type := 42, pos := "law.go:203", after := #[], guard := none }) (v := ?_) rfl (by kernel_rfl) (by kernel_rfl) (by kernel_rfl) (fun _ _ _ h => h) (Or.inl ⟨by rfl, ?_⟩) (by assumption) ?_
          rotate_left
          · ((intro w hSw; (try dsimp only at hSw); go_simp; (try rw [if_neg (by omega)])); try with_reducible rfl)
          (try simp only [Act.put, List.setIfInBounds_toArray, List.set_cons_zero, List.set_cons_succ])
          refine wpAnyH_take (i := 6) (oi := { dst := some 67, op := Op.move (Operand.const (Value.int IntKind.i64 0)), type := 3, pos := "law.go:203", after := #[], guard := none }) (v := ?_) rfl (by kernel_rfl) (by kernel_rfl) (by kernel_rfl) (fun _ _ _ h => h) (Or.inl ⟨by rfl, ?_⟩) (by assumption) ?_
          rotate_left
          · ((intro w hSw; (try dsimp only at hSw); go_simp; (try rw [if_neg (by omega)])); try with_reducible rfl)
          (try simp only [Act.put, List.setIfInBounds_toArray, List.set_cons_zero, List.set_cons_succ])
          refine wpAnyH_ready (rs := [1, 3]) (by kernel_rfl) (by simp) ?_
          refine AllReadyH.cons (o := { dst := some 62, op := Op.call { callee := Callee.value (Operand.func 27), args := #[Operand.tmp 61], argTypes := #[56] }, type := 47, pos := "law.go:203", after := #[{ on := 0, ground := Ground.data }], guard := none }) rfl (fun K hK => ?_) ?_
          · go_simp
            go_at_call 27
            refine (regions_any _ ar nr cr aa na ca ag ng cg aw nw cw x n _ (HLL.out _ (bnext HB13.out (Below.drew (Below.refl _ w13)))) HLM.out HX.out hx0 hx1).mono ?_
            rintro e w16 ⟨ur, vs, rfl, hrg, hb16⟩
            have c16 := bnext (Below.drew (Below.refl _ w13)) hb16
            have hURG := hrg.1
            obtain ⟨oa, oc, rfl⟩ := own_shape hURG
            have HRG := Lib.hid hrg
            clear hURG hrg
            dsimp only
            refine hK.out _ _ ?_ (fun hHeld => ?_)
            · first | exact hS15 | exact HS15.out _ c17 | exact HS15.out _ c16 | exact HS15.out _ c15 | exact HS15.out _ (Below.drew (Below.refl _ w13))
            clear hK K
            (try simp only [Act.put, List.setIfInBounds_toArray, List.set_cons_zero, List.set_cons_succ])
            refine wpAnyH_ready (rs := [3]) (by kernel_rfl) (by simp) ?_
            refine AllReadyH.cons (o := { dst := some 64, op := Op.buildSlice 47 1 #[(0, Operand.tmp 63)], type := 47, pos := "law.go:203", after := #[{ on := 2, ground := Ground.data }], guard := none }) rfl (fun K hK => ?_) ?_
            · go_simp
              have c17 := balloc c16 (.cells #[.slice fa fm fc] 42)
              refine hK.out _ _ ?_ (fun hHeld => ?_)
              · first | exact hS15 | exact HS15.out _ c17 | exact HS15.out _ c16 | exact HS15.out _ c15 | exact HS15.out _ (Below.drew (Below.refl _ w13))
              clear hK K
              (try simp only [Act.put, List.setIfInBounds_toArray, List.set_cons_zero, List.set_cons_succ])
              refine wpAnyH_ready (rs := [4]) (by kernel_rfl) (by simp) ?_
              refine AllReadyH.cons (o := { dst := some 65, op := Op.call { callee := Callee.builtin Builtin.append, args := #[Operand.tmp 62, Operand.tmp 64], argTypes := #[47, 47] }, type := 47, pos := "law.go:203", after := #[{ on := 1, ground := Ground.data }, { on := 3, ground := Ground.data }, { on := 1, ground := Ground.chain }], guard := none }) rfl (fun K hK => ?_) ?_
              · refine step_append_any (by rfl) _ _ _ (by rfl) (w13.drew.heap.size) 42 i0 _ 1 24 Try.underlying47 hi0 hz0 hz1 hz2 rfl (by omega) (.slice oa (regs L2 n).length oc) (regs L2 n).length vs (by rfl) (own_below HRG.out.1 (balloc (Below.refl _ w16) (.cells #[.slice fa fm fc] 42))) ⟨w16.heap.size, 0, none⟩ 1 1 [.slice fa fm fc] (by rfl) (by rfl) (World.news_of_block (cs := #[.slice fa fm fc]) (t := 42) (fr := (0, 0)) (heap_alloc_new w16 _)) (by simp [Value.oneCell']) (by have := regs_len L2 n; unfold maxLen; omega) (by have := regs_len L2 n; omega) (by have := c16.size; simp at this ⊢; omega) ?_
                intro v' w18 hown9 hgrow hat
                have hrow : ∀ q, (Value.slice oa (regs L2 n).length oc).ownBlock = some q → w13.heap.size ≤ q := (fun q e => by have := (HRG.out.1.lt q e).1; simp at this; omega)
                have hS15 := HSQ.out w18 (fun q hq => (hgrow.block q (by have h1 := c17.size; have h2 := HBL.out; simp at h1 ⊢; omega) (fun e => by have := hrow q e.symm; have := HBL.out; omega)).trans (c17.block q (by have := HBL.out; omega)))
                have hpu := (HRG.out.keep (balloc (Below.refl _ w16) (.cells #[.slice fa fm fc] 42))).app (W0 := w13) HTF13.out (by simp) (by first | exact c17 | exact (c17).drew) hgrow hown9 hat
                have HPU := Lib.hid hpu.at
                have HB18 : Hid (Below w13.heap.size w13 w18) := Lib.hid (c17.grown hgrow c17.size (fun j ej => hrow j ej))
                obtain ⟨ra, rc, rfl⟩ := own_shape hown9
                clear hpu hown9 hgrow hat hrow
                refine hK.out _ _ ?_ (fun hHeld => ?_)
                · first | exact hS15 | exact HS15.out _ c17 | exact HS15.out _ c16 | exact HS15.out _ c15 | exact HS15.out _ (Below.drew (Below.refl _ w13))
                clear hK K
                (try simp only [Act.put, List.setIfInBounds_toArray, List.set_cons_zero, List.set_cons_succ])
                refine wpAnyH_ready (rs := [5]) (by kernel_rfl) (by simp) ?_
                refine AllReadyH.cons (o := { dst := some 66, op := Op.call { callee := Callee.builtin Builtin.len, args := #[Operand.tmp 65], argTypes := #[47] }, type := 3, pos := "law.go:203", after := #[{ on := 4, ground := Ground.data }], guard := none }) rfl (fun K hK => ?_) ?_
                · go_simp
                  refine hK.out _ _ ?_ (fun hHeld => ?_)
                  · first | exact hS15 | exact HS15.out _ c17 | exact HS15.out _ c16 | exact HS15.out _ c15 | exact HS15.out _ (Below.drew (Below.refl _ w13))
                  clear hK K
                  (try simp only [Act.put, List.setIfInBounds_toArray, List.set_cons_zero, List.set_cons_succ])
                  refine wpAnyH_done (by kernel_rfl) ?_ _
                  obtain ⟨RR, hRR⟩ : ∃ RR, regs L2 n ++ [a0.take fm] = RR := ⟨_, rfl⟩
                  have HRR := Lib.hid hRR
                  have hrl : RR.length ≤ 5 := by rw [← hRR, List.length_append]; have := regs_len L2 n; simp; omega
                  rw [hRR] at HPU
                  obtain ⟨rn, hrn⟩ : ∃ rn, (regs L2 n).length + 1 = rn := ⟨_, rfl⟩
                  have hrn2 : RR.length = rn := by rw [← hRR, List.length_append]; exact hrn
                  have HRN := Lib.hid hrn2
                  have hyL : Hid (∀ y ∈ RR, y.length ≤ 1000000000000) := Lib.hid fun y hy => by
                    rw [← HRR.out] at hy
                    rcases List.mem_append.1 hy with h | h
                    · obtain ⟨l, rfl⟩ := regs_mem h
                      rw [AX.mkReg_len]
                      omega
                    · rw [List.mem_singleton.1 h, HFM.out]
                      omega
                  rw [hrn2] at hrl
                  have hrnI : ((regs L2 n).length : Int) + 1 = (rn : Int) := by omega
                  rw [hrn] at HPU ⊢
                  have HBQ := Lib.hid (bnext HB13.out HB18.out)
                  clear hRR hrn hrn2
                  go_wp2_with fail
                  try simp only [hrnI]
                  clear hrnI
                  go_loopw [67] (fun v67 wr => ∃ j : Nat, v67 = .int .i64 (j : Int) ∧ j ≤ rn ∧ Below w18.heap.size w18 wr) (fun v _ => rn - (intOf v).toNat)
                  case atStart => exact ⟨0, rfl, Nat.zero_le _, Below.refl _ _⟩
                  case round =>
                    obtain ⟨j, rfl, hj, hbj⟩ := hrel
                    obtain ⟨wq, hwq⟩ : ∃ wq, wq = wr := ⟨_, rfl⟩
                    subst hwq
                    have HBJ := Lib.hid hbj
                    by_cases hjn : j < rn
                    · have hjj : (j : Int) < (rn : Int) := by omega
                      have hj0 : (0 : Int) ≤ (j : Int) := by omega
                      obtain ⟨y, hy⟩ : ∃ y, RR[j]? = some y := ⟨RR[j]'(by rw [HRN.out]; exact hjn), List.getElem?_eq_getElem _⟩
                      have hyl := hyL.out y (List.mem_of_getElem? hy)
                      obtain ⟨a', c', e1, hcy⟩ := HPU.out.keep hbj
                      rw [HRN.out] at e1
                      injection e1 with e1 e2 e3
                      subst e1 e3
                      rcases hcy with h | ⟨g', o', rfl, hg', hcl'⟩
                      · rw [h] at hy
                        simp at hy
                      obtain ⟨ya, yc, cy, hty⟩ := hcl' j y hy
                      obtain ⟨yn, hyn⟩ : ∃ yn, y.length = yn := ⟨_, rfl⟩
                      rw [hyn] at cy hty
                      have HTYo := Lib.hid hty
                      clear hy hcl' hty
                      go_upto_region 18 with fail
                      obtain ⟨W20, hW20⟩ : ∃ W20, wq.alloc (.cells #[.slice ya yn yc] 42) = W20 := ⟨_, rfl⟩
                      obtain ⟨D, hD⟩ : ∃ D, wq.heap.size = D := ⟨_, rfl⟩
                      have hdx : W20.heap[D]? = some (.cells #[.slice ya yn yc] 42 (0, 0)) := by rw [← hW20, ← hD]; exact heap_alloc_new wq _
                      have hb20 : Below wq.heap.size wq W20 := by rw [← hW20]; exact balloc (Below.refl _ _) _
                      try rw [hW20]
                      try rw [hD]
                      have HSY : Hid (∀ V, Below W20.heap.size W20 V → V.cell? ⟨D, 0, none⟩ = some (.slice ya yn yc)) := Lib.hid fun V hV => (hV.cell (p := ⟨D, 0, none⟩) (Array.getElem?_eq_some_iff.1 hdx).1).trans (cell_of hdx rfl)
                      have HTY : Hid (∀ V, Below W20.heap.size W20 V → TnAt V (.slice ya yn yc) y) := Lib.hid fun V hV => HTYo.out.keep (bnext hb20 hV)
                      have HB20 := Lib.hid (bnext HBJ.out hb20)
                      have HPY : Hid (∀ V, Below W20.heap.size W20 V → PrAt V (.slice xa xn xc) P) := Lib.hid fun V hV => HPX.out V (bnext (bnext HB18.out HB20.out) hV)
                      obtain ⟨r, hr⟩ : ∃ r, AX.touches y P = r := ⟨_, rfl⟩
                      have HTO := Lib.hid hr
                      have hneq : (r != r) = false := by simp
                      clear hW20 hD hdx hb20 hr cy
                      refine wp_region_last #[{ dst := some 71, op := Op.load 42 (Operand.tmp 14), type := 42, pos := "law.go:204", after := #[], guard := none }, { dst := some 72, op := Op.move (Operand.tmp 11), type := 22, pos := "law.go:204", after := #[], guard := none }, { dst := some 73, op := Op.call { callee := Callee.value (Operand.func 36), args := #[Operand.tmp 71, Operand.tmp 72], argTypes := #[42, 22] }, type := 4, pos := "law.go:204", after := #[{ on := 0, ground := Ground.data }, { on := 1, ground := Ground.data }], guard := none }, { dst := some 74, op := Op.load 42 (Operand.tmp 14), type := 42, pos := "law.go:204", after := #[], guard := none }, { dst := some 75, op := Op.move (Operand.tmp 11), type := 22, pos := "law.go:204", after := #[], guard := none }, { dst := some 76, op := Op.call { callee := Callee.value (Operand.func 37), args := #[Operand.tmp 74, Operand.tmp 75], argTypes := #[42, 22] }, type := 4, pos := "law.go:204", after := #[{ on := 3, ground := Ground.data }, { on := 4, ground := Ground.data }, { on := 2, ground := Ground.chain }], guard := none }] { dst := some 77, op := Op.binOp BinOp.neq 4 (Operand.tmp 73) (Operand.tmp 76) 4, type := 4, pos := "law.go:204", after := #[{ on := 2, ground := Ground.data }, { on := 5, ground := Ground.data }], guard := none } rfl (by kernel_rfl) (by kernel_rfl) (fun w' => w'.cell? ⟨D, 0, none⟩ = some (.slice ya yn yc)) ?_ (fun hHeld => ?_)
                      · first | exact HSY.out _ b22 | exact HSY.out _ b21 | exact HSY.out _ (Below.drew (Below.refl _ W20))
                      refine wpAnyH_take (i := 0) (oi := { dst := some 71, op := Op.load 42 (Operand.tmp 14), type := 42, pos := "law.go:204", after := #[], guard := none }) (v := ?_) rfl (by kernel_rfl) (by kernel_rfl) (by kernel_rfl) (fun _ _ _ h => h) (Or.inl ⟨by rfl, ?_⟩) (by assumption) ?_
                      rotate_left
                      · ((intro w hSw; (try dsimp only at hSw); go_simp; (try rw [if_neg (by omega)])); try with_reducible rfl)
                      (try simp only [Act.put, List.setIfInBounds_toArray, List.set_cons_zero, List.set_cons_succ])
                      refine wpAnyH_take (i := 1) (oi := { dst := some 72, op := Op.move (Operand.tmp 11), type := 22, pos := "law.go:204", after := #[], guard := none }) (v := ?_) rfl (by kernel_rfl) (by kernel_rfl) (by kernel_rfl) (fun _ _ _ h => h) (Or.inl ⟨by rfl, ?_⟩) (by assumption) ?_
                      rotate_left
                      · ((intro w hSw; (try dsimp only at hSw); go_simp; (try rw [if_neg (by omega)])); try with_reducible rfl)
                      (try simp only [Act.put, List.setIfInBounds_toArray, List.set_cons_zero, List.set_cons_succ])
                      refine wpAnyH_take (i := 3) (oi := { dst := some 74, op := Op.load 42 (Operand.tmp 14), type := 42, pos := "law.go:204", after := #[], guard := none }) (v := ?_) rfl (by kernel_rfl) (by kernel_rfl) (by kernel_rfl) (fun _ _ _ h => h) (Or.inl ⟨by rfl, ?_⟩) (by assumption) ?_
                      rotate_left
                      · ((intro w hSw; (try dsimp only at hSw); go_simp; (try rw [if_neg (by omega)])); try with_reducible rfl)
                      (try simp only [Act.put, List.setIfInBounds_toArray, List.set_cons_zero, List.set_cons_succ])
                      refine wpAnyH_take (i := 4) (oi := { dst := some 75, op := Op.move (Operand.tmp 11), type := 22, pos := "law.go:204", after := #[], guard := none }) (v := ?_) rfl (by kernel_rfl) (by kernel_rfl) (by kernel_rfl) (fun _ _ _ h => h) (Or.inl ⟨by rfl, ?_⟩) (by assumption) ?_
                      rotate_left
                      · ((intro w hSw; (try dsimp only at hSw); go_simp; (try rw [if_neg (by omega)])); try with_reducible rfl)
                      (try simp only [Act.put, List.setIfInBounds_toArray, List.set_cons_zero, List.set_cons_succ])
                      refine wpAnyH_ready (rs := [2]) (by kernel_rfl) (by simp) ?_
                      refine AllReadyH.cons (o := { dst := some 73, op := Op.call { callee := Callee.value (Operand.func 36), args := #[Operand.tmp 71, Operand.tmp 72], argTypes := #[42, 22] }, type := 4, pos := "law.go:204", after := #[{ on := 0, ground := Ground.data }, { on := 1, ground := Ground.data }], guard := none }) rfl (fun K hK => ?_) AllReadyH.nil
                      (go_simp; go_at_call 36; refine (touches_c HTO.out _ _ _ hyl hpl2 (HTY.out _ (Below.drew (Below.refl _ W20))) (HPY.out _ (Below.drew (Below.refl _ W20)))).mono ?_; rintro e w21 ⟨rfl, hb21⟩; have b21 := bnext (Below.drew (Below.refl _ W20)) hb21; dsimp only)
                      refine hK.out _ _ ?_ (fun hHeld => ?_)
                      · first | exact HSY.out _ b22 | exact HSY.out _ b21 | exact HSY.out _ (Below.drew (Below.refl _ W20))
                      clear hK K
                      (try simp only [Act.put, List.setIfInBounds_toArray, List.set_cons_zero, List.set_cons_succ])
                      refine wpAnyH_ready (rs := [5]) (by kernel_rfl) (by simp) ?_
                      refine AllReadyH.cons (o := { dst := some 76, op := Op.call { callee := Callee.value (Operand.func 37), args := #[Operand.tmp 74, Operand.tmp 75], argTypes := #[42, 22] }, type := 4, pos := "law.go:204", after := #[{ on := 3, ground := Ground.data }, { on := 4, ground := Ground.data }, { on := 2, ground := Ground.chain }], guard := none }) rfl (fun K hK => ?_) AllReadyH.nil
                      (go_simp; go_at_call 37; refine (rtouches_c HTO.out _ _ _ hyl hpl2 (HTY.out _ b21) (HPY.out _ b21)).mono ?_; rintro e w22 ⟨rfl, hb22⟩; have b22 := bnext b21 hb22; dsimp only)
                      refine hK.out _ _ ?_ (fun hHeld => ?_)
                      · first | exact HSY.out _ b22 | exact HSY.out _ b21 | exact HSY.out _ (Below.drew (Below.refl _ W20))
                      clear hK K
                      (try simp only [Act.put, List.setIfInBounds_toArray, List.set_cons_zero, List.set_cons_succ])
                      refine wpAnyH_done (by kernel_rfl) ?_ _
                      show Oper.wp _ _ _ _ _ _
                      go_simp
                      go_wp2_with fail
                      go_roundw
                      case rel => exact ⟨j + 1, by go_num, hjn, bnext HB20.out b22⟩
                      case measure => simp [intOf]; omega
                    · obtain rfl : j = rn := by omega
                      clear hbj
                      go_wp2_with fail
                      go_roundw
                      case rel => exact ⟨k + 1, by go_num, hk2, bnext HB913.out (bnext HB18.out HBJ.out)⟩
                      case measure => simp [intOf]; omega
                exact AllReadyH.nil
              exact AllReadyH.nil
            exact AllReadyH.nil
          refine AllReadyH.cons (o := { dst := some 64, op := Op.buildSlice 47 1 #[(0, Operand.tmp 63)], type := 47, pos := "law.go:203", after := #[{ on := 2, ground := Ground.data }], guard := none }) rfl (fun K hK => ?_) ?_
          · go_simp
            have c15 := balloc (Below.drew (Below.refl _ w13)) (.cells #[.slice fa fm fc] 42)
            refine hK.out _ _ ?_ (fun hHeld => ?_)
            · first | exact hS15 | exact HS15.out _ c17 | exact HS15.out _ c16 | exact HS15.out _ c15 | exact HS15.out _ (Below.drew (Below.refl _ w13))
            clear hK K
            (try simp only [Act.put, List.setIfInBounds_toArray, List.set_cons_zero, List.set_cons_succ])
            refine wpAnyH_ready (rs := [1]) (by kernel_rfl) (by simp) ?_
            refine AllReadyH.cons (o := { dst := some 62, op := Op.call { callee := Callee.value (Operand.func 27), args := #[Operand.tmp 61], argTypes := #[56] }, type := 47, pos := "law.go:203", after := #[{ on := 0, ground := Ground.data }], guard := none }) rfl (fun K hK => ?_) ?_
            · go_simp
              go_at_call 27
              refine (regions_any _ ar nr cr aa na ca ag ng cg aw nw cw x n _ (HLL.out _ (bnext HB13.out c15)) HLM.out HX.out hx0 hx1).mono ?_
              rintro e w16 ⟨ur, vs, rfl, hrg, hb16⟩
              have c16 := bnext c15 hb16
              have hURG := hrg.1
              obtain ⟨oa, oc, rfl⟩ := own_shape hURG
              have HRG := Lib.hid hrg
              clear hURG hrg
              dsimp only
              refine hK.out _ _ ?_ (fun hHeld => ?_)
              · first | exact hS15 | exact HS15.out _ c17 | exact HS15.out _ c16 | exact HS15.out _ c15 | exact HS15.out _ (Below.drew (Below.refl _ w13))
              clear hK K
              (try simp only [Act.put, List.setIfInBounds_toArray, List.set_cons_zero, List.set_cons_succ])
              refine wpAnyH_ready (rs := [4]) (by kernel_rfl) (by simp) ?_
              refine AllReadyH.cons (o := { dst := some 65, op := Op.call { callee := Callee.builtin Builtin.append, args := #[Operand.tmp 62, Operand.tmp 64], argTypes := #[47, 47] }, type := 47, pos := "law.go:203", after := #[{ on := 1, ground := Ground.data }, { on := 3, ground := Ground.data }, { on := 1, ground := Ground.chain }], guard := none }) rfl (fun K hK => ?_) ?_
              · refine step_append_any (by rfl) _ _ _ (by rfl) ((w13.drew.alloc (.cells #[.slice fa fm fc] 42)).heap.size) 42 i0 _ 1 24 Try.underlying47 hi0 hz0 hz1 hz2 rfl (by omega) (.slice oa (regs L2 n).length oc) (regs L2 n).length vs (by rfl) HRG.out.1 ⟨w13.drew.heap.size, 0, none⟩ 1 1 [.slice fa fm fc] (by rfl) (by rfl) (World.news_of_block (cs := #[.slice fa fm fc]) (t := 42) (fr := (0, 0)) ((hb16.block _ (by simp)).trans (heap_alloc_new w13.drew _))) (by simp [Value.oneCell']) (by have := regs_len L2 n; unfold maxLen; omega) (by have := regs_len L2 n; omega) (by have := hb16.size; omega) ?_
                intro v' w18 hown9 hgrow hat
                have hrow : ∀ q, (Value.slice oa (regs L2 n).length oc).ownBlock = some q → w13.heap.size ≤ q := (fun q e => by have := (HRG.out.1.lt q e).1; simp at this; omega)
                have hS15 := HSQ.out w18 (fun q hq => (hgrow.block q (by have h1 := c16.size; have h2 := HBL.out; simp at h1 ⊢; omega) (fun e => by have := hrow q e.symm; have := HBL.out; omega)).trans (c16.block q (by have := HBL.out; omega)))
                have hpu := HRG.out.app (W0 := w13) HTF13.out (by simp) (by first | exact c16 | exact (c16).drew) hgrow hown9 hat
                have HPU := Lib.hid hpu.at
                have HB18 : Hid (Below w13.heap.size w13 w18) := Lib.hid (c16.grown hgrow c16.size (fun j ej => hrow j ej))
                obtain ⟨ra, rc, rfl⟩ := own_shape hown9
                clear hpu hown9 hgrow hat hrow
                refine hK.out _ _ ?_ (fun hHeld => ?_)
                · first | exact hS15 | exact HS15.out _ c17 | exact HS15.out _ c16 | exact HS15.out _ c15 | exact HS15.out _ (Below.drew (Below.refl _ w13))
                clear hK K
                (try simp only [Act.put, List.setIfInBounds_toArray, List.set_cons_zero, List.set_cons_succ])
                refine wpAnyH_ready (rs := [5]) (by kernel_rfl) (by simp) ?_
                refine AllReadyH.cons (o := { dst := some 66, op := Op.call { callee := Callee.builtin Builtin.len, args := #[Operand.tmp 65], argTypes := #[47] }, type := 3, pos := "law.go:203", after := #[{ on := 4, ground := Ground.data }], guard := none }) rfl (fun K hK => ?_) ?_
                · go_simp
                  refine hK.out _ _ ?_ (fun hHeld => ?_)
                  · first | exact hS15 | exact HS15.out _ c17 | exact HS15.out _ c16 | exact HS15.out _ c15 | exact HS15.out _ (Below.drew (Below.refl _ w13))
                  clear hK K
                  (try simp only [Act.put, List.setIfInBounds_toArray, List.set_cons_zero, List.set_cons_succ])
                  refine wpAnyH_done (by kernel_rfl) ?_ _
                  obtain ⟨RR, hRR⟩ : ∃ RR, regs L2 n ++ [a0.take fm] = RR := ⟨_, rfl⟩
                  have HRR := Lib.hid hRR
                  have hrl : RR.length ≤ 5 := by rw [← hRR, List.length_append]; have := regs_len L2 n; simp; omega
                  rw [hRR] at HPU
                  obtain ⟨rn, hrn⟩ : ∃ rn, (regs L2 n).length + 1 = rn := ⟨_, rfl⟩
                  have hrn2 : RR.length = rn := by rw [← hRR, List.length_append]; exact hrn
                  have HRN := Lib.hid hrn2
                  have hyL : Hid (∀ y ∈ RR, y.length ≤ 1000000000000) := Lib.hid fun y hy => by
                    rw [← HRR.out] at hy
                    rcases List.mem_append.1 hy with h | h
                    · obtain ⟨l, rfl⟩ := regs_mem h
                      rw [AX.mkReg_len]
                      omega
                    · rw [List.mem_singleton.1 h, HFM.out]
                      omega
                  rw [hrn2] at hrl
                  have hrnI : ((regs L2 n).length : Int) + 1 = (rn : Int) := by omega
                  rw [hrn] at HPU ⊢
                  have HBQ := Lib.hid (bnext HB13.out HB18.out)
                  clear hRR hrn hrn2
                  go_wp2_with fail
                  try simp only [hrnI]
                  clear hrnI
                  go_loopw [67] (fun v67 wr => ∃ j : Nat, v67 = .int .i64 (j : Int) ∧ j ≤ rn ∧ Below w18.heap.size w18 wr) (fun v _ => rn - (intOf v).toNat)
                  case atStart => exact ⟨0, rfl, Nat.zero_le _, Below.refl _ _⟩
                  case round =>
                    obtain ⟨j, rfl, hj, hbj⟩ := hrel
                    obtain ⟨wq, hwq⟩ : ∃ wq, wq = wr := ⟨_, rfl⟩
                    subst hwq
                    have HBJ := Lib.hid hbj
                    by_cases hjn : j < rn
                    · have hjj : (j : Int) < (rn : Int) := by omega
                      have hj0 : (0 : Int) ≤ (j : Int) := by omega
                      obtain ⟨y, hy⟩ : ∃ y, RR[j]? = some y := ⟨RR[j]'(by rw [HRN.out]; exact hjn), List.getElem?_eq_getElem _⟩
                      have hyl := hyL.out y (List.mem_of_getElem? hy)
                      obtain ⟨a', c', e1, hcy⟩ := HPU.out.keep hbj
                      rw [HRN.out] at e1
                      injection e1 with e1 e2 e3
                      subst e1 e3
                      rcases hcy with h | ⟨g', o', rfl, hg', hcl'⟩
                      · rw [h] at hy
                        simp at hy
                      obtain ⟨ya, yc, cy, hty⟩ := hcl' j y hy
                      obtain ⟨yn, hyn⟩ : ∃ yn, y.length = yn := ⟨_, rfl⟩
                      rw [hyn] at cy hty
                      have HTYo := Lib.hid hty
                      clear hy hcl' hty
                      go_upto_region 18 with fail
                      obtain ⟨W20, hW20⟩ : ∃ W20, wq.alloc (.cells #[.slice ya yn yc] 42) = W20 := ⟨_, rfl⟩
                      obtain ⟨D, hD⟩ : ∃ D, wq.heap.size = D := ⟨_, rfl⟩
                      have hdx : W20.heap[D]? = some (.cells #[.slice ya yn yc] 42 (0, 0)) := by rw [← hW20, ← hD]; exact heap_alloc_new wq _
                      have hb20 : Below wq.heap.size wq W20 := by rw [← hW20]; exact balloc (Below.refl _ _) _
                      try rw [hW20]
                      try rw [hD]
                      have HSY : Hid (∀ V, Below W20.heap.size W20 V → V.cell? ⟨D, 0, none⟩ = some (.slice ya yn yc)) := Lib.hid fun V hV => (hV.cell (p := ⟨D, 0, none⟩) (Array.getElem?_eq_some_iff.1 hdx).1).trans (cell_of hdx rfl)
                      have HTY : Hid (∀ V, Below W20.heap.size W20 V → TnAt V (.slice ya yn yc) y) := Lib.hid fun V hV => HTYo.out.keep (bnext hb20 hV)
                      have HB20 := Lib.hid (bnext HBJ.out hb20)
                      have HPY : Hid (∀ V, Below W20.heap.size W20 V → PrAt V (.slice xa xn xc) P) := Lib.hid fun V hV => HPX.out V (bnext (bnext HB18.out HB20.out) hV)
                      obtain ⟨r, hr⟩ : ∃ r, AX.touches y P = r := ⟨_, rfl⟩
                      have HTO := Lib.hid hr
                      have hneq : (r != r) = false := by simp
                      clear hW20 hD hdx hb20 hr cy
                      refine wp_region_last #[{ dst := some 71, op := Op.load 42 (Operand.tmp 14), type := 42, pos := "law.go:204", after := #[], guard := none }, { dst := some 72, op := Op.move (Operand.tmp 11), type := 22, pos := "law.go:204", after := #[], guard := none }, { dst := some 73, op := Op.call { callee := Callee.value (Operand.func 36), args := #[Operand.tmp 71, Operand.tmp 72], argTypes := #[42, 22] }, type := 4, pos := "law.go:204", after := #[{ on := 0, ground := Ground.data }, { on := 1, ground := Ground.data }], guard := none }, { dst := some 74, op := Op.load 42 (Operand.tmp 14), type := 42, pos := "law.go:204", after := #[], guard := none }, { dst := some 75, op := Op.move (Operand.tmp 11), type := 22, pos := "law.go:204", after := #[], guard := none }, { dst := some 76, op := Op.call { callee := Callee.value (Operand.func 37), args := #[Operand.tmp 74, Operand.tmp 75], argTypes := #[42, 22] }, type := 4, pos := "law.go:204", after := #[{ on := 3, ground := Ground.data }, { on := 4, ground := Ground.data }, { on := 2, ground := Ground.chain }], guard := none }] { dst := some 77, op := Op.binOp BinOp.neq 4 (Operand.tmp 73) (Operand.tmp 76) 4, type := 4, pos := "law.go:204", after := #[{ on := 2, ground := Ground.data }, { on := 5, ground := Ground.data }], guard := none } rfl (by kernel_rfl) (by kernel_rfl) (fun w' => w'.cell? ⟨D, 0, none⟩ = some (.slice ya yn yc)) ?_ (fun hHeld => ?_)
                      · first | exact HSY.out _ b22 | exact HSY.out _ b21 | exact HSY.out _ (Below.drew (Below.refl _ W20))
                      refine wpAnyH_take (i := 0) (oi := { dst := some 71, op := Op.load 42 (Operand.tmp 14), type := 42, pos := "law.go:204", after := #[], guard := none }) (v := ?_) rfl (by kernel_rfl) (by kernel_rfl) (by kernel_rfl) (fun _ _ _ h => h) (Or.inl ⟨by rfl, ?_⟩) (by assumption) ?_
                      rotate_left
                      · ((intro w hSw; (try dsimp only at hSw); go_simp; (try rw [if_neg (by omega)])); try with_reducible rfl)
                      (try simp only [Act.put, List.setIfInBounds_toArray, List.set_cons_zero, List.set_cons_succ])
                      refine wpAnyH_take (i := 1) (oi := { dst := some 72, op := Op.move (Operand.tmp 11), type := 22, pos := "law.go:204", after := #[], guard := none }) (v := ?_) rfl (by kernel_rfl) (by kernel_rfl) (by kernel_rfl) (fun _ _ _ h => h) (Or.inl ⟨by rfl, ?_⟩) (by assumption) ?_
                      rotate_left
                      · ((intro w hSw; (try dsimp only at hSw); go_simp; (try rw [if_neg (by omega)])); try with_reducible rfl)
                      (try simp only [Act.put, List.setIfInBounds_toArray, List.set_cons_zero, List.set_cons_succ])
                      refine wpAnyH_take (i := 3) (oi := { dst := some 74, op := Op.load 42 (Operand.tmp 14), type := 42, pos := "law.go:204", after := #[], guard := none }) (v := ?_) rfl (by kernel_rfl) (by kernel_rfl) (by kernel_rfl) (fun _ _ _ h => h) (Or.inl ⟨by rfl, ?_⟩) (by assumption) ?_
                      rotate_left
                      · ((intro w hSw; (try dsimp only at hSw); go_simp; (try rw [if_neg (by omega)])); try with_reducible rfl)
                      (try simp only [Act.put, List.setIfInBounds_toArray, List.set_cons_zero, List.set_cons_succ])
                      refine wpAnyH_take (i := 4) (oi := { dst := some 75, op := Op.move (Operand.tmp 11), type := 22, pos := "law.go:204", after := #[], guard := none }) (v := ?_) rfl (by kernel_rfl) (by kernel_rfl) (by kernel_rfl) (fun _ _ _ h => h) (Or.inl ⟨by rfl, ?_⟩) (by assumption) ?_
                      rotate_left
                      · ((intro w hSw; (try dsimp only at hSw); go_simp; (try rw [if_neg (by omega)])); try with_reducible rfl)
                      (try simp only [Act.put, List.setIfInBounds_toArray, List.set_cons_zero, List.set_cons_succ])
                      refine wpAnyH_ready (rs := [2]) (by kernel_rfl) (by simp) ?_
                      refine AllReadyH.cons (o := { dst := some 73, op := Op.call { callee := Callee.value (Operand.func 36), args := #[Operand.tmp 71, Operand.tmp 72], argTypes := #[42, 22] }, type := 4, pos := "law.go:204", after := #[{ on := 0, ground := Ground.data }, { on := 1, ground := Ground.data }], guard := none }) rfl (fun K hK => ?_) AllReadyH.nil
                      (go_simp; go_at_call 36; refine (touches_c HTO.out _ _ _ hyl hpl2 (HTY.out _ (Below.drew (Below.refl _ W20))) (HPY.out _ (Below.drew (Below.refl _ W20)))).mono ?_; rintro e w21 ⟨rfl, hb21⟩; have b21 := bnext (Below.drew (Below.refl _ W20)) hb21; dsimp only)
                      refine hK.out _ _ ?_ (fun hHeld => ?_)
                      · first | exact HSY.out _ b22 | exact HSY.out _ b21 | exact HSY.out _ (Below.drew (Below.refl _ W20))
                      clear hK K
                      (try simp only [Act.put, List.setIfInBounds_toArray, List.set_cons_zero, List.set_cons_succ])
                      refine wpAnyH_ready (rs := [5]) (by kernel_rfl) (by simp) ?_
                      refine AllReadyH.cons (o := { dst := some 76, op := Op.call { callee := Callee.value (Operand.func 37), args := #[Operand.tmp 74, Operand.tmp 75], argTypes := #[42, 22] }, type := 4, pos := "law.go:204", after := #[{ on := 3, ground := Ground.data }, { on := 4, ground := Ground.data }, { on := 2, ground := Ground.chain }], guard := none }) rfl (fun K hK => ?_) AllReadyH.nil
                      (go_simp; go_at_call 37; refine (rtouches_c HTO.out _ _ _ hyl hpl2 (HTY.out _ b21) (HPY.out _ b21)).mono ?_; rintro e w22 ⟨rfl, hb22⟩; have b22 := bnext b21 hb22; dsimp only)
                      refine hK.out _ _ ?_ (fun hHeld => ?_)
                      · first | exact HSY.out _ b22 | exact HSY.out _ b21 | exact HSY.out _ (Below.drew (Below.refl _ W20))
                      clear hK K
                      (try simp only [Act.put, List.setIfInBounds_toArray, List.set_cons_zero, List.set_cons_succ])
                      refine wpAnyH_done (by kernel_rfl) ?_ _
                      show Oper.wp _ _ _ _ _ _
                      go_simp
                      go_wp2_with fail
                      go_roundw
                      case rel => exact ⟨j + 1, by go_num, hjn, bnext HB20.out b22⟩
                      case measure => simp [intOf]; omega
                    · obtain rfl : j = rn := by omega
                      clear hbj
                      go_wp2_with fail
                      go_roundw
                      case rel => exact ⟨k + 1, by go_num, hk2, bnext HB913.out (bnext HB18.out HBJ.out)⟩
                      case measure => simp [intOf]; omega
                exact AllReadyH.nil
              exact AllReadyH.nil
            exact AllReadyH.nil
          exact AllReadyH.nil
    · obtain rfl : k = 2 := by omega
      have HRM := Lib.hid (AX.mkRanges_right g2 hn3)
      obtain ⟨x0, x1, x2, x3, x4⟩ := HS.out wo (bnext HB49.out hb)
      clear hb
      go_wp2_with fail
      refine (axesOf_c HX.out ar nr cr aa na ca ag ng cg aw nw cw hx0 hx1 _).mono ?_
      rintro e w30 ⟨rfl, hb30⟩
      have HB30 := Lib.hid (bnext HBK.out hb30)
      clear hb30 x0 x1 x2 x3 x4
      go_wp2_with fail
      refine (ranges_c HRM.out _ _ (by rw [AX.mkRanges_len]; omega) (HMR9.out _ HB30.out)).mono ?_
      rintro e w31 ⟨rfl, hb31⟩
      have HB31 := Lib.hid (bnext HB9.out (bnext HB30.out hb31))
      clear hb31
      go_wp2
      go_ret
      exact ⟨by rfl, HB31.out⟩

set_option maxRecDepth 100000 in
theorem lifted (os : Os) (started : os.Started) (H : Type) (enc : TypeId × Value → H) :
    ReturnsInHanded {} Try.checked os 7 .any (Rows.axesTouchesSpec.pre6 enc Try.prog Try.f7 Rows.axesTouchesRow.domain false) (Rows.axesTouchesSpec.post enc Try.prog Try.f7 false true false false) := by
  refine returnsInHanded_of_change (C := Try.checked) own started (by kernel_rfl) Try.func7
    (ChangeSpec.witness6 (enc := enc) (C := Try.checked) false ⟨#[], #[.agg #[.slice none 0 0], .slice none 0 0, .agg #[.slice none 0 0, .slice none 0 0, .slice none 0 0, .slice none 0 0, .int .u8 0]], []⟩ 8 (by kernel_rfl) (by kernel_rfl) (by kernel_rfl) (by kernel_rfl)) ?_
  intro W base args ds gs before hval0 hW hcnd _
  have hval : ∀ (j : Nat) t v, Try.f7.params[j]? = some t → args[j]? = some v → Value.okWide Try.prog W .any base t v := hval0
  have hW' := hW
  obtain ⟨p, q, hA0, hV, rfl, hfz, hnd⟩ := hW
  have hA : DataW.TrodAll enc Try.prog W 0 (fun _ => true) true Try.f7.params.toList args.toList ds p := hA0
  rw [Try.params7] at hA hval
  obtain ⟨v0, vs0, d0, ds0, p0, q0, hargs, rfl, rfl, h0, r0⟩ := trodAll_cons hA
  obtain ⟨v1, vs1, d1, ds1, p1, q1, rfl, rfl, rfl, h1, r1⟩ := trodAll_cons r0
  obtain ⟨v2, vs2, d2, ds2, p2, q2, rfl, rfl, rfl, h2, r2⟩ := trodAll_cons r1
  obtain ⟨rfl, rfl, rfl⟩ := trodAll_nil r2
  obtain rfl : args = #[v0, v1, v2] := by cases args; simp_all
  obtain ⟨rfl, rfl⟩ := trodVars_none hV
  have k0 := h0
  have lt0 : ∀ x ∈ p0, x.block < W.heap.size := by obtain ⟨m, hm⟩ := k0; exact DataW.trod_lt m _ _ _ hm
  have k1 := h1
  have lt1 : ∀ x ∈ p1, x.block < W.heap.size := by obtain ⟨m, hm⟩ := k1; exact DataW.trod_lt m _ _ _ hm
  have k2 := h2
  have lt2 : ∀ x ∈ p2, x.block < W.heap.size := by obtain ⟨m, hm⟩ := k2; exact DataW.trod_lt m _ _ _ hm
  obtain ⟨u0, a0, rfl, H0⟩ := open_reg (hval 0 42 v0 rfl rfl) h0
  obtain ⟨a1, H1⟩ := open_prs (hval 1 22 v1 rfl rfl) h1
  obtain ⟨L2, a2, g2, b2, x2, H2⟩ := open_case (hval 2 56 v2 rfl rfl) h2
  clear hA0 hval0
  refine (walk u0 a0 v1 a1 v2 L2 a2 g2 b2 x2  W H0 H1 H2).mono fun e W' ⟨he, bel⟩ => ?_
  subst he
  exact ⟨_, rfl, _, _, _, [], _, [], hW', trodAll_mk1 (shut_bool Try.underlying4 _), (trodAll_cons_mk (Below.trod laidOut (by kernel_rfl) (of_decide_eq_true (by kernel_rfl)) k0 bel lt0) (trodAll_cons_mk (Below.trod laidOut (by kernel_rfl) (of_decide_eq_true (by kernel_rfl)) k1 bel lt1) (trodAll_cons_mk (Below.trod laidOut (by kernel_rfl) (of_decide_eq_true (by kernel_rfl)) k2 bel lt2) trodAll_mk0))), rfl, bel.frame _, fun h => by cases h⟩

theorem over : Rows.axesTouchesRow.holds Try.pinned (OpenSpec.ofChange Rows.axesTouchesSpec) :=
  OpenClaim.holds_of_wide 7 Try.f7 rfl rfl rfl rfl rfl rfl rfl ⟨rfl, rfl, rfl, rfl, rfl⟩ rfl rfl rfl rfl rfl (by kernel_rfl) Try.func7 (by kernel_rfl)
    (of_decide_eq_true (by kernel_rfl)) (by unfold Func.isWrapper; first | (rw [if_pos (by decide +kernel)]; kernel_rfl) | (rw [if_neg (by decide +kernel)]; exact ⟨rfl, rfl⟩))
    (fun os started H enc _ => lifted os started H enc)

end Go.Proofs.Ytbhkbjnmpaebdaa.axesTouches
namespace Go.Proofs.Ytbhkbjnmpaebdaa
theorem axesTouches_proved : Rows.AxesTouchesSaid := axesTouches.over
#print axioms axesTouches_proved
end Go.Proofs.Ytbhkbjnmpaebdaa
