/- For every number, list of changes and case AxesSums returns true: Sum answers as the reference does, for any numbers, and for such whose regions there are. No conditions. -/
import Derived.Test.YtbhkbjnmpaebdaaAx33
import Derived.Test.YtbhkbjnmpaebdaaLast
import Derived.Test.YtbhkbjnmpaebdaaHeldIn
namespace Go.Proofs.Ytbhkbjnmpaebdaa.axesSums
open Go.ChangeShapes Go.WideShapes Go.ChangeAt Go.RowKit Go.Joins Go.Deep
set_option linter.unusedVariables false

set_option maxRecDepth 100000 in
set_option maxHeartbeats 16000000 in
theorem walk (a0 : Int) (v1 : Value) (a1 : List AX.Pr) (v2 : Value) (L2 : List (List Int)) (a2 : List Int) (g2 : List Int) (b2 : List Int) (x2 : Int) (wa0 : (Lit.int .i64 a0).wf = true) (w : World) (H1 : PrArg w v1 a1) (H2 : CaArg w v2 L2 a2 g2 b2 x2) :
    Calls Try.prog 6 #[.int .i64 a0, v1, v2] w fun e w' => e = .returned (.bool true) ∧ Below w.heap.size w w' := by
  obtain ⟨ig, hig', hg0, hg1, hg2⟩ := info_parts info_gr
  obtain ⟨ar, cr, aa, ca, ag, cg, aw, cw, rfl, ⟨hll, hllm⟩, hia, hig, hiw, hx0, hx1⟩ := H2.out
  obtain ⟨nr, hnr⟩ : ∃ nr, L2.length = nr := ⟨_, rfl⟩
  obtain ⟨na, hna⟩ : ∃ na, a2.length = na := ⟨_, rfl⟩
  obtain ⟨ng, hng⟩ : ∃ ng, g2.length = ng := ⟨_, rfl⟩
  obtain ⟨nw, hnw⟩ : ∃ nw, b2.length = nw := ⟨_, rfl⟩
  obtain ⟨x, hx⟩ : ∃ x, x = x2 := ⟨_, rfl⟩
  subst hx
  obtain ⟨n, hn⟩ : ∃ n : Nat, x % 4 = (n : Int) := ⟨(x % 4).toNat, by omega⟩
  have hn3 : n ≤ 3 := by omega
  rw [hnr] at hll
  rw [hna] at hia
  rw [hng] at hig
  rw [hnw] at hiw
  rw [hnr, hna, hng, hnw]
  unfold CaV
  have HLL : Hid (∀ V, Below w.heap.size w V → LnAt V (.slice ar nr cr) L2) := Lib.hid fun V hV => hll.keep hV
  have HIA : Hid (∀ V, Below w.heap.size w V → InArg V (.slice aa na ca) a2) := Lib.hid fun V hV => hia.keep hV
  have HIG : Hid (∀ V, Below w.heap.size w V → InArg V (.slice ag ng cg) g2) := Lib.hid fun V hV => hig.keep hV
  have HIW : Hid (∀ V, Below w.heap.size w V → InArg V (.slice aw nw cw) b2) := Lib.hid fun V hV => hiw.keep hV
  have HX := Lib.hid hn
  have HLM := Lib.hid hllm
  clear H2 hll hia hig hiw hnr hna hng hnw hllm
  have hp' := H1.1
  obtain ⟨pa, pc, rfl, -, -⟩ := hp'
  obtain ⟨pn, hpn⟩ : ∃ pn, a1.length = pn := ⟨_, rfl⟩
  rw [hpn] at H1 ⊢
  have HPR := Lib.hid H1
  obtain ⟨m, hm⟩ : ∃ m : Nat, (if (10 : Int) < (pn : Int) then 10 else (pn : Int)) = (m : Int) := ⟨min pn 10, by split <;> omega⟩
  have hm10 : m ≤ 10 ∧ m ≤ pn := by split at hm <;> omega
  have hmc : m ≤ pc := (prarg_take H1 hm10.2).2.2
  have HML : Hid ((a1.take m).length = m) := Lib.hid (prarg_take H1 hm10.2).2.1
  obtain ⟨mi, hmi⟩ : ∃ m : Nat, (if (5 : Int) < (na : Int) then 5 else (na : Int)) = (m : Int) := ⟨min na 5, by split <;> omega⟩
  have hmi5 : mi ≤ 5 ∧ mi ≤ na := by split at hmi <;> omega
  have hac := (((HIA.out w (Below.refl _ _)).2.2) _ _ _ rfl).1
  have hmic : mi ≤ ca := by omega
  obtain ⟨B, hB⟩ : ∃ B, w.heap.size = B := ⟨_, rfl⟩
  obtain ⟨W0, hW0, b1, bel0, hsz0⟩ := one_block w (.cells #[.slice ar nr cr, .slice aa na ca, .slice ag ng cg, .slice aw nw cw, .int .u8 x] 56) B hB
  have HCX0 : Hid (∀ V, Below W0.heap.size W0 V → V.heap[B]? = some (.cells #[.slice ar nr cr, .slice aa na ca, .slice ag ng cg, .slice aw nw cw, .int .u8 x] 56 (0, 0))) := Lib.hid fun V hV => (hV.block B (Array.getElem?_eq_some_iff.1 b1).1).trans b1
  have HB0 := Lib.hid bel0
  have HB := Lib.hid hB
  clear H1 hpn b1 bel0 hsz0
  go_enter Try.func6, Try.ntmps6
  go_upto_region 1 with fail
  try rw [hW0]
  try rw [hB]
  clear hW0 hB
  go_wp2_with fail
  refine (sane_any _).mono ?_
  rintro e w1 ⟨rfl, hb1⟩
  have HB1 := Lib.hid (bnext HB0.out hb1)
  have HB01 := Lib.hid hb1
  clear hb1
  go_upto_region 3 with (at_builtin; refine wpList_appN _ rfl _ _ 53 rfl w1.heap.size 60 ig _ 2 16 Try.underlying53 hig' hg0 hg1 hg2 rfl (by decide) _ _ _ rfl (own_empty w1 60 2 w1.heap.size (Nat.le_refl _)) _ m (AX.prc (a1.take m)) rfl ((prarg_take (HPR.out.keep HB1.out) hm10.2).1.keep (balloc (Below.refl _ _) _)) (AX.prc_one _) (by unfold maxLen; omega) (by omega) (by simp) ?_; intro v' w3 hown' hgrow hat; rw [Nat.zero_add, List.nil_append] at hown'; obtain ⟨la, lc, rfl⟩ := own_shape hown')
  have hb13 : Below w1.heap.size w1 w3 := (balloc (Below.refl _ w1) _).grown hgrow (by simp) (fun j ej => by have : w1.heap.size = j := Option.some.inj ej; omega)
  have HB3 := Lib.hid (bnext HB1.out hb13)
  have HSL : Hid (∀ V, Below w3.heap.size w3 V → SrcN 2 V (.slice la m lc) m (AX.prc (a1.take m))) := Lib.hid fun V hV => (own_srcN hown').keep hV
  have HS : Hid (∀ V, Below w3.heap.size w3 V → (fun w' => w'.cell? ⟨B, 0, none⟩ = some (.slice ar nr cr) ∧ w'.cell? ⟨B, 1, none⟩ = some (.slice aa na ca) ∧ w'.cell? ⟨B, 2, none⟩ = some (.slice ag ng cg) ∧ w'.cell? ⟨B, 3, none⟩ = some (.slice aw nw cw) ∧ w'.cell? ⟨B, 4, none⟩ = some (.int .u8 x)) V) := Lib.hid fun V hV => by
    have h := HCX0.out V (bnext HB01.out (bnext hb13 hV))
    exact ⟨cell_of h rfl, cell_of h rfl, cell_of h rfl, cell_of h rfl, cell_of h rfl⟩
  have HS' := HS.out w3 (Below.refl _ _)
  clear hb13 hown' hgrow hat hm
  go_upto_region 3 with fail
  refine wp_region_last #[{ dst := some 32, op := Op.load 56 (Operand.tmp 5), type := 56, pos := "law.go:166", after := #[], guard := none }, { dst := some 33, op := Op.call { callee := Callee.value (Operand.func 27), args := #[Operand.tmp 32], argTypes := #[56] }, type := 47, pos := "law.go:166", after := #[{ on := 0, ground := Ground.data }], guard := none }, { dst := some 34, op := Op.fieldAddr 56 (Operand.tmp 5) 1, type := 0, pos := "law.go:166", after := #[], guard := none }, { dst := some 35, op := Op.load 25 (Operand.tmp 34), type := 25, pos := "law.go:166", after := #[{ on := 2, ground := Ground.data }], guard := none }, { dst := some 36, op := Op.load 56 (Operand.tmp 5), type := 56, pos := "law.go:166", after := #[], guard := none }, { dst := some 37, op := Op.call { callee := Callee.value (Operand.func 28), args := #[Operand.tmp 36], argTypes := #[56] }, type := 3, pos := "law.go:166", after := #[{ on := 4, ground := Ground.data }, { on := 1, ground := Ground.chain }], guard := none }, { dst := some 38, op := Op.call { callee := Callee.value (Operand.func 22), args := #[Operand.tmp 35, Operand.tmp 37], argTypes := #[25, 3] }, type := 25, pos := "law.go:166", after := #[{ on := 3, ground := Ground.data }, { on := 5, ground := Ground.data }, { on := 5, ground := Ground.chain }], guard := none }, { dst := some 8, op := Op.assign (Operand.tmp 33), type := 47, pos := "law.go:166", after := #[{ on := 1, ground := Ground.data }, { on := 6, ground := Ground.chain }, { on := 0, ground := Ground.phase }, { on := 1, ground := Ground.phase }, { on := 2, ground := Ground.textOnly Departure.lateStores }, { on := 3, ground := Ground.textOnly Departure.lateStores }, { on := 4, ground := Ground.textOnly Departure.lateStores }, { on := 5, ground := Ground.textOnly Departure.lateStoresUnsure }, { on := 6, ground := Ground.textOnly Departure.lateStoresUnsure }], guard := none }] { dst := some 9, op := Op.assign (Operand.tmp 38), type := 25, pos := "law.go:166", after := #[{ on := 6, ground := Ground.data }, { on := 7, ground := Ground.chain }, { on := 0, ground := Ground.phase }, { on := 1, ground := Ground.phase }, { on := 2, ground := Ground.phase }, { on := 3, ground := Ground.phase }, { on := 4, ground := Ground.phase }, { on := 5, ground := Ground.phase }, { on := 6, ground := Ground.phase }, { on := 7, ground := Ground.phase }], guard := none } rfl (by kernel_rfl) (by kernel_rfl) (fun w' => w'.cell? ⟨B, 0, none⟩ = some (.slice ar nr cr) ∧ w'.cell? ⟨B, 1, none⟩ = some (.slice aa na ca) ∧ w'.cell? ⟨B, 2, none⟩ = some (.slice ag ng cg) ∧ w'.cell? ⟨B, 3, none⟩ = some (.slice aw nw cw) ∧ w'.cell? ⟨B, 4, none⟩ = some (.int .u8 x)) ?_ (fun hHeld => ?_)
  · first | exact HS.out _ a6 | exact HS.out _ a5 | exact HS.out _ a4 | exact HS.out _ (Below.drew (Below.refl _ w3))
  refine wpAnyH_take (i := 0) (oi := { dst := some 32, op := Op.load 56 (Operand.tmp 5), type := 56, pos := "law.go:166", after := #[], guard := none }) (v := ?_) rfl (by kernel_rfl) (by kernel_rfl) (by kernel_rfl) (fun _ _ _ h => h) (Or.inl ⟨by rfl, ?_⟩) (by assumption) ?_
  rotate_left
  · ((intro w hSw; obtain ⟨s0, s1, s2, s3, s4⟩ := hSw; go_simp); try with_reducible rfl)
  (try simp only [Act.put, List.setIfInBounds_toArray, List.set_cons_zero, List.set_cons_succ])
  refine wpAnyH_take (i := 2) (oi := { dst := some 34, op := Op.fieldAddr 56 (Operand.tmp 5) 1, type := 0, pos := "law.go:166", after := #[], guard := none }) (v := ?_) rfl (by kernel_rfl) (by kernel_rfl) (by kernel_rfl) (fun _ _ _ h => h) (Or.inl ⟨by rfl, ?_⟩) (by assumption) ?_
  rotate_left
  · ((intro w hSw; (try dsimp only at hSw); go_simp; (try rw [if_neg (by omega)])); try with_reducible rfl)
  (try simp only [Act.put, List.setIfInBounds_toArray, List.set_cons_zero, List.set_cons_succ])
  refine wpAnyH_take (i := 3) (oi := { dst := some 35, op := Op.load 25 (Operand.tmp 34), type := 25, pos := "law.go:166", after := #[{ on := 2, ground := Ground.data }], guard := none }) (v := ?_) rfl (by kernel_rfl) (by kernel_rfl) (by kernel_rfl) (fun _ _ _ h => h) (Or.inl ⟨by rfl, ?_⟩) (by assumption) ?_
  rotate_left
  · ((intro w hSw; obtain ⟨s0, s1, s2, s3, s4⟩ := hSw; go_simp); try with_reducible rfl)
  (try simp only [Act.put, List.setIfInBounds_toArray, List.set_cons_zero, List.set_cons_succ])
  refine wpAnyH_take (i := 4) (oi := { dst := some 36, op := Op.load 56 (Operand.tmp 5), type := 56, pos := "law.go:166", after := #[], guard := none }) (v := ?_) rfl (by kernel_rfl) (by kernel_rfl) (by kernel_rfl) (fun _ _ _ h => h) (Or.inl ⟨by rfl, ?_⟩) (by assumption) ?_
  rotate_left
  · ((intro w hSw; obtain ⟨s0, s1, s2, s3, s4⟩ := hSw; go_simp); try with_reducible rfl)
  (try simp only [Act.put, List.setIfInBounds_toArray, List.set_cons_zero, List.set_cons_succ])
  refine wpAnyH_ready (rs := [1]) (by kernel_rfl) (by simp) ?_
  refine AllReadyH.cons (o := { dst := some 33, op := Op.call { callee := Callee.value (Operand.func 27), args := #[Operand.tmp 32], argTypes := #[56] }, type := 47, pos := "law.go:166", after := #[{ on := 0, ground := Ground.data }], guard := none }) rfl (fun K hK => ?_) AllReadyH.nil
  (go_simp; go_at_call 27; refine (regions_any _ ar nr cr aa na ca ag ng cg aw nw cw x n _ (HLL.out _ (bnext HB3.out (Below.drew (Below.refl _ w3)))) HLM.out HX.out hx0 hx1).mono ?_; rintro e w4 ⟨ur, vs, rfl, hrg, hb4⟩; have a4 := bnext (Below.drew (Below.refl _ w3)) hb4; have hURG := hrg.1; obtain ⟨oa, oc, rfl⟩ := own_shape hURG; clear hURG; dsimp only)
  refine hK.out _ _ ?_ (fun hHeld => ?_)
  · first | exact HS.out _ a6 | exact HS.out _ a5 | exact HS.out _ a4 | exact HS.out _ (Below.drew (Below.refl _ w3))
  clear hK K
  (try simp only [Act.put, List.setIfInBounds_toArray, List.set_cons_zero, List.set_cons_succ])
  refine wpAnyH_ready (rs := [5]) (by kernel_rfl) (by simp) ?_
  refine AllReadyH.cons (o := { dst := some 37, op := Op.call { callee := Callee.value (Operand.func 28), args := #[Operand.tmp 36], argTypes := #[56] }, type := 3, pos := "law.go:166", after := #[{ on := 4, ground := Ground.data }, { on := 1, ground := Ground.chain }], guard := none }) rfl (fun K hK => ?_) AllReadyH.nil
  (go_simp; go_at_call 28; refine (axesOf_c HX.out ar nr cr aa na ca ag ng cg aw nw cw hx0 hx1 _).mono ?_; rintro e w5 ⟨rfl, hb5⟩; have a5 := bnext a4 hb5; dsimp only)
  refine hK.out _ _ ?_ (fun hHeld => ?_)
  · first | exact HS.out _ a6 | exact HS.out _ a5 | exact HS.out _ a4 | exact HS.out _ (Below.drew (Below.refl _ w3))
  clear hK K
  (try simp only [Act.put, List.setIfInBounds_toArray, List.set_cons_zero, List.set_cons_succ])
  refine wpAnyH_ready (rs := [6]) (by kernel_rfl) (by simp) ?_
  refine AllReadyH.cons (o := { dst := some 38, op := Op.call { callee := Callee.value (Operand.func 22), args := #[Operand.tmp 35, Operand.tmp 37], argTypes := #[25, 3] }, type := 25, pos := "law.go:166", after := #[{ on := 3, ground := Ground.data }, { on := 5, ground := Ground.data }, { on := 5, ground := Ground.chain }], guard := none }) rfl (fun K hK => ?_) AllReadyH.nil
  (go_simp; go_at_call 22; refine (madeat_any _ n _ _ (HIA.out _ (bnext HB3.out a5)).1 (HIA.out _ (bnext HB3.out a5)).2.1 hn3).mono ?_; rintro e w6 ⟨ua, rfl, hoa, hb6⟩; have a6 := bnext a5 hb6; obtain ⟨uaa, uac, rfl⟩ := own_shape hoa; dsimp only)
  refine hK.out _ _ ?_ (fun hHeld => ?_)
  · first | exact HS.out _ a6 | exact HS.out _ a5 | exact HS.out _ a4 | exact HS.out _ (Below.drew (Below.refl _ w3))
  clear hK K
  (try simp only [Act.put, List.setIfInBounds_toArray, List.set_cons_zero, List.set_cons_succ])
  refine wpAnyH_take (i := 7) (oi := { dst := some 8, op := Op.assign (Operand.tmp 33), type := 47, pos := "law.go:166", after := #[{ on := 1, ground := Ground.data }, { on := 6, ground := Ground.chain }, { on := 0, ground := Ground.phase }, { on := 1, ground := Ground.phase }, { on := 2, ground := Ground.textOnly Departure.lateStores }, { on := 3, ground := Ground.textOnly Departure.lateStores }, { on := 4, ground := Ground.textOnly Departure.lateStores }, { on := 5, ground := Ground.textOnly Departure.lateStoresUnsure }, { on := 6, ground := Ground.textOnly Departure.lateStoresUnsure }], guard := none }) (v := ?_) rfl (by kernel_rfl) (by kernel_rfl) (by kernel_rfl) (fun _ _ _ h => h) (Or.inl ⟨by rfl, ?_⟩) (by assumption) ?_
  rotate_left
  · ((intro w hSw; (try dsimp only at hSw); go_simp; (try rw [if_neg (by omega)])); try with_reducible rfl)
  (try simp only [Act.put, List.setIfInBounds_toArray, List.set_cons_zero, List.set_cons_succ])
  refine wpAnyH_done (by kernel_rfl) ?_ _
  show Oper.wp _ _ _ _ _ _
  go_simp
  have HRG6 : Hid (RgAt w6 (.slice oa (regs L2 n).length oc) (regs L2 n)) := Lib.hid ((hrg.keep (bnext hb5 hb6)).at)
  have HAT6 : Hid (InAt w6 (.slice uaa n uac) (AX.mkAt a2 n)) := Lib.hid (InAt.of (row_own hoa (by simp [AX.mkAt_len])))
  have HB36 := Lib.hid a6
  have HB6 := Lib.hid (bnext HB3.out a6)
  have HRT : Hid (∀ r ∈ regs L2 n, r.length ≤ 1000000000000) := Lib.hid (regs_tents hn3)
  have hrl4 := regs_len L2 n
  obtain ⟨RR, hRR⟩ : ∃ RR, regs L2 n = RR := ⟨_, rfl⟩
  rw [hRR] at HRG6 HRT hrl4 ⊢
  obtain ⟨rl, hrl⟩ : ∃ rl, RR.length = rl := ⟨_, rfl⟩
  have HRL4 : Hid (RR.length ≤ 1000000000000) := Lib.hid (by omega)
  rw [hrl] at HRG6 hrl4 ⊢
  clear hoa hrg hb4 hb5 hb6 a4 a5 a6 HS' hRR
  go_upto_region 5 with (at_builtin; refine wpList_appN _ rfl _ _ 53 rfl w6.heap.size 60 ig _ 2 16 Try.underlying53 hig' hg0 hg1 hg2 rfl (by decide) _ _ _ rfl (own_empty w6 60 2 w6.heap.size (Nat.le_refl _)) _ m (AX.prc (a1.take m)) rfl ((HSL.out _ HB36.out).keep (balloc (Below.refl _ _) _)) (AX.prc_one _) (by unfold maxLen; omega) (by omega) (by simp) ?_; intro v' w7 hown' hgrow hat; rw [Nat.zero_add, List.nil_append] at hown'; obtain ⟨sa, sc, rfl⟩ := own_shape hown')
  have hb67 : Below w6.heap.size w6 w7 := (balloc (Below.refl _ w6) _).grown hgrow (by simp) (fun j ej => by have : w6.heap.size = j := Option.some.inj ej; omega)
  have HB67 := Lib.hid hb67
  have HO7 := Lib.hid hown'
  clear hb67 hown' hgrow hat
  go_wp2_with fail
  go_loopw [11] (fun v11 wr => ∃ (k : Nat) (P : List AX.Pr), v11 = .int .i64 (k : Int) ∧ k ≤ m ∧ P.length = m ∧ wr.ownsRow w6.heap.size 60 2 (.slice sa m sc) m (AX.prc P) ∧ Below w6.heap.size w6 wr) (fun v _ => m - (intOf v).toNat)
  case atStart => exact ⟨0, a1.take m, rfl, Nat.zero_le _, HML.out, HO7.out, HB67.out⟩
  case round =>
    obtain ⟨k, P, rfl, hk, hPl, hrow, hb⟩ := hrel
    by_cases hkm : k < m
    · have hkk : (k : Int) < (m : Int) := by omega
      have hk0 : (0 : Int) ≤ (k : Int) := by omega
      obtain ⟨p, hp⟩ : ∃ p, P[k]? = some p := ⟨P[k]'(by omega), List.getElem?_eq_getElem _⟩
      obtain ⟨g, rfl, hgB⟩ := own_addr hrow (by omega)
      obtain ⟨z0, z1⟩ := AX.prc_get P hp
      have c1 : wr.cell? ⟨g, k * 2 + 1, none⟩ = some (.int .i64 p.2) := (hrow.cellAt (k * 2 + 1) (by omega)).trans z1
      have f1 := hrow.frozenAt (k * 2 + 1)
      obtain ⟨q, hq⟩ : ∃ q, p.2.tmod 100 = q := ⟨_, rfl⟩
      have hqw : IntKind.i64.wrap (p.2.tmod 100) = q := by rw [hq, IntKind.wrap_i64]; have := F.FP.tmod_bd p.2 100 (by omega); omega
      have st1 := hrow.stored (k * 2 + 1) (.int .i64 q)
      rw [AX.prc_set1 P k p q hp] at st1
      have HST := Lib.hid st1
      have HBR := Lib.hid (bset hb (p := ⟨g, k * 2 + 1, none⟩) hgB (.int .i64 q))
      have HP2 : Hid ((P.set k (p.1, q)).length = m ∧ (P.set k (p.1, q))[k]? = some (p.1, q)) := Lib.hid ⟨by rw [List.length_set]; exact hPl, by rw [List.getElem?_set]; simp; omega⟩
      clear z0 z1 st1 hrow hb
      go_upto_region 9 with fail
      obtain ⟨W8, hW8⟩ : ∃ W8, wr.setCell ⟨g, k * 2 + 1, none⟩ (.int .i64 q) = W8 := ⟨_, rfl⟩
      try rw [hW8]
      rw [hW8] at HST HBR
      obtain ⟨P2, hP2⟩ : ∃ P2, P.set k (p.1, q) = P2 := ⟨_, rfl⟩
      rw [hP2] at HST HP2
      clear hW8 c1 f1 hP2
      by_cases hr0 : rl = 0
      · have hr0' : ¬ (0 < rl) := by omega
        have hr0i : ¬ ((0 : Int) < (rl : Int)) := by omega
        go_wp2_with fail
        go_roundw
        case rel => exact ⟨k + 1, P2, by go_num, hkm, HP2.out.1, HST.out.1, HBR.out⟩
        case measure => simp [intOf]; omega
      · have hr0' : 0 < rl := by omega
        have hr0i : (0 : Int) < (rl : Int) := by omega
        obtain ⟨s', hs'⟩ : ∃ s', bits .and .i64 p.1 65535 = s' := ⟨_, rfl⟩
        have hsb : 0 ≤ s' ∧ s' ≤ 65535 := by rw [← hs', i64_and65535]; omega
        obtain ⟨t, ht⟩ : ∃ t, s' % (rl : Int) = t := ⟨_, rfl⟩
        have htb : 0 ≤ t ∧ t < (rl : Int) := by rw [← ht]; exact ⟨Int.emod_nonneg _ (by omega), Int.emod_lt_of_pos _ hr0i⟩
        obtain ⟨z0, z1⟩ := AX.prc_get P2 HP2.out.2
        have c0 : W8.cell? ⟨g, k * 2, none⟩ = some (.int .i64 p.1) := (HST.out.1.cellAt (k * 2) (by omega)).trans z0
        have f0 := HST.out.1.frozenAt (k * 2)
        have st2 := HST.out.1.stored (k * 2) (.int .i64 t)
        rw [AX.prc_set0 P2 k (p.1, q) t HP2.out.2] at st2
        have HST2 := Lib.hid st2
        have HBR2 := Lib.hid (bset HBR.out (p := ⟨g, k * 2, none⟩) hgB (.int .i64 t))
        have HP3 : Hid ((P2.set k (t, q)).length = m) := Lib.hid (by rw [List.length_set]; exact HP2.out.1)
        clear z0 z1 st2
        go_wp2_with fail
        go_roundw
        case rel => exact ⟨k + 1, P2.set k (t, q), by go_num, hkm, HP3.out, HST2.out.1, HBR2.out⟩
        case measure => simp [intOf]; omega
    · obtain rfl : k = m := by omega
      obtain ⟨w9, hw9⟩ : ∃ w9, w9 = wr := ⟨_, rfl⟩
      subst hw9
      have HSN : Hid (SrcN 2 w9 (.slice sa k sc) k (AX.prc P)) := Lib.hid (own_srcN hrow)
      have HPL2 := Lib.hid hPl
      have HB69 := Lib.hid hb
      clear hrow hb hPl
      obtain ⟨qb, hqb⟩ : ∃ q, a0.tmod 100 = q := ⟨_, rfl⟩
      have hqbw : IntKind.i64.wrap (a0.tmod 100) = qb := by rw [hqb, IntKind.wrap_i64]; have := F.FP.tmod_bd a0 100 (by omega); omega
      go_upto_region 12 with fail
      obtain ⟨G, hG⟩ : ∃ G, w9.heap.size = G := ⟨_, rfl⟩
      obtain ⟨W9, hW9⟩ : ∃ W9, w9.alloc (.cells #[.slice la k lc, .slice sa k sc] 53) = W9 := ⟨_, rfl⟩
      have hgx : W9.heap[G]? = some (.cells #[.slice la k lc, .slice sa k sc] 53 (0, 0)) := by rw [← hW9, ← hG]; exact heap_alloc_new w9 _
      have hb9 : Below w9.heap.size w9 W9 := by rw [← hW9]; exact balloc (Below.refl _ _) _
      try rw [hW9]
      try rw [hG]
      have HB6W := Lib.hid (bnext HB69.out hb9)
      have HXX : Hid (∀ V, Below W9.heap.size W9 V → ∀ i, i < 2 → ∃ (xa : Option Addr) (xc : Nat) (P : List AX.Pr), V.cell? ⟨G, i, none⟩ = some (.slice xa k xc) ∧ PrAt V (.slice xa k xc) P ∧ P.length ≤ 1000000000000) := Lib.hid fun V hV i hi => by
        have h := (hV.block G (Array.getElem?_eq_some_iff.1 hgx).1).trans hgx
        have hi2 : i = 0 ∨ i = 1 := by omega
        rcases hi2 with h2 | h2 <;> subst h2
        · have t1 := HSL.out V (bnext HB36.out (bnext HB6W.out hV))
          have t2 : SrcN 2 V (.slice la k lc) (a1.take k).length (AX.prc (a1.take k)) := by rw [HML.out]; exact t1
          exact ⟨la, lc, _, cell_of h rfl, t2.pr, by rw [HML.out]; omega⟩
        · have t1 := HSN.out.keep (bnext hb9 hV)
          have t2 : SrcN 2 V (.slice sa k sc) P.length (AX.prc P) := by rw [HPL2.out]; exact t1
          exact ⟨sa, sc, P, cell_of h rfl, t2.pr, by rw [HPL2.out]; omega⟩
      have HGLT : Hid (G < W9.heap.size) := Lib.hid (Array.getElem?_eq_some_iff.1 hgx).1
      have HRG : Hid (∀ V, Below W9.heap.size W9 V → RgAt V (.slice oa rl oc) RR) := Lib.hid fun V hV => HRG6.out.keep (bnext HB6W.out hV)
      have HAT : Hid (∀ V, Below W9.heap.size W9 V → InAt V (.slice uaa n uac) (AX.mkAt a2 n)) := Lib.hid fun V hV => HAT6.out.keep (bnext HB6W.out hV)
      have HAR : Hid (∀ V, Below W9.heap.size W9 V → InAt V (.slice aa mi ca) (a2.take mi)) := Lib.hid fun V hV => ((HIA.out V (bnext HB6.out (bnext HB6W.out hV))).1).take hmi5.2
      have HSC9 : Hid (∀ V, Below W9.heap.size W9 V → (fun w' => w'.cell? ⟨B, 0, none⟩ = some (.slice ar nr cr) ∧ w'.cell? ⟨B, 1, none⟩ = some (.slice aa na ca) ∧ w'.cell? ⟨B, 2, none⟩ = some (.slice ag ng cg) ∧ w'.cell? ⟨B, 3, none⟩ = some (.slice aw nw cw) ∧ w'.cell? ⟨B, 4, none⟩ = some (.int .u8 x)) V) := Lib.hid fun V hV => HS.out V (bnext HB36.out (bnext HB6W.out hV))
      have HATL : Hid ((AX.mkAt a2 n).length ≤ 1000000000000) := Lib.hid (by rw [AX.mkAt_len]; omega)
      have HARL : Hid ((a2.take mi).length ≤ 1000000000000) := Lib.hid (by rw [List.length_take]; omega)
      have HBW9 := Lib.hid (bnext HB6.out HB6W.out)
      clear hW9 hG hgx hb9
      go_wp2_with fail
      go_loopw [78] (fun v78 wr => ∃ i : Nat, v78 = .int .i64 (i : Int) ∧ i ≤ 2 ∧ Below W9.heap.size W9 wr) (fun v _ => 2 - (intOf v).toNat)
      case atStart => exact ⟨0, rfl, Nat.zero_le _, Below.refl _ _⟩
      case round =>
        obtain ⟨i, rfl, hi, hb⟩ := hrel
        obtain ⟨wo, hwo⟩ : ∃ wo, wo = wr := ⟨_, rfl⟩
        subst hwo
        by_cases hi2 : i < 2
        · have hii : (i : Int) < 2 := by omega
          have hi0 : (0 : Int) ≤ (i : Int) := by omega
          obtain ⟨xa, xc, Q, cx, hpx, hxl⟩ := HXX.out wo hb i hi2
          have hglt : G < wo.heap.size := by have := HGLT.out; have := hb.size; omega
          have HPX0 := Lib.hid hpx
          have HBI := Lib.hid hb
          clear hpx hb
          go_upto_region 15 with fail
          obtain ⟨G2, hG2⟩ : ∃ G2, wo.heap.size = G2 := ⟨_, rfl⟩
          obtain ⟨WA, hWA⟩ : ∃ WA, wo.alloc (.cells #[.int .i64 a0, .int .i64 qb] 3) = WA := ⟨_, rfl⟩
          have hgx2 : WA.heap[G2]? = some (.cells #[.int .i64 a0, .int .i64 qb] 3 (0, 0)) := by rw [← hWA, ← hG2]; exact heap_alloc_new wo _
          have hbA : Below wo.heap.size wo WA := by rw [← hWA]; exact balloc (Below.refl _ _) _
          try rw [hWA]
          try rw [hG2]
          have HNN : Hid (∀ V, Below WA.heap.size WA V → ∀ j, j < 2 → ∃ z, V.cell? ⟨G2, j, none⟩ = some (.int .i64 z)) := Lib.hid fun V hV j hj => by
            have h := (hV.block G2 (Array.getElem?_eq_some_iff.1 hgx2).1).trans hgx2
            have hj2 : j = 0 ∨ j = 1 := by omega
            rcases hj2 with h2 | h2 <;> subst h2
            · exact ⟨a0, cell_of h rfl⟩
            · exact ⟨qb, cell_of h rfl⟩
          have HGL2 : Hid (G2 < WA.heap.size) := Lib.hid (Array.getElem?_eq_some_iff.1 hgx2).1
          have HPX : Hid (∀ V, Below WA.heap.size WA V → PrAt V (.slice xa k xc) Q) := Lib.hid fun V hV => HPX0.out.keep (bnext hbA hV)
          have HB9b := Lib.hid (bnext HBI.out hbA)
          clear hWA hG2 hgx2 hbA cx
          go_wp2_with fail
          go_loopw [87] (fun v87 wr => ∃ j : Nat, v87 = .int .i64 (j : Int) ∧ j ≤ 2 ∧ Below WA.heap.size WA wr) (fun v _ => 2 - (intOf v).toNat)
          case atStart => exact ⟨0, rfl, Nat.zero_le _, Below.refl _ _⟩
          case round =>
            obtain ⟨j, rfl, hj, hbj⟩ := hrel
            obtain ⟨wp, hwp⟩ : ∃ wp, wp = wr := ⟨_, rfl⟩
            subst hwp
            by_cases hj2 : j < 2
            · have hjj : (j : Int) < 2 := by omega
              have hj0 : (0 : Int) ≤ (j : Int) := by omega
              obtain ⟨z, cz⟩ := HNN.out wp hbj j hj2
              have hglt2 : G2 < wp.heap.size := by have := HGL2.out; have := hbj.size; omega
              obtain ⟨u, hu⟩ : ∃ u, AX.sum z Q RR (AX.mkAt a2 n) = u := ⟨_, rfl⟩
              obtain ⟨u', hu'⟩ : ∃ u, AX.sum z Q RR (a2.take mi) = u := ⟨_, rfl⟩
              obtain ⟨e1, e2⟩ := u
              obtain ⟨e3, e4⟩ := u'
              have HU := Lib.hid hu
              have HU' := Lib.hid hu'
              have hn1 : (e1 != e1) = false := by simp
              have hn2 : (e2 != e2) = false := by simp
              have hn3' : (e3 != e3) = false := by simp
              have hn4 : (e4 != e4) = false := by simp
              clear hu hu'
              go_wp2_with fail
              refine (sum_c HU.out _ _ _ _ hxl HRL4.out HRT.out HATL.out (HPX.out _ hbj) (HRG.out _ (bnext HB9b.out hbj)) (HAT.out _ (bnext HB9b.out hbj))).mono ?_
              rintro e w21 ⟨rfl, hb21⟩
              have d21 := bnext hbj hb21
              go_wp2_with fail
              refine (rsum_c HU.out _ _ _ _ hxl HRL4.out HRT.out HATL.out (HPX.out _ d21) (HRG.out _ (bnext HB9b.out d21)) (HAT.out _ (bnext HB9b.out d21))).mono ?_
              rintro e w22 ⟨rfl, hb22⟩
              have d22 := bnext d21 hb22
              obtain ⟨s0, s1, s2, s3, s4⟩ := HSC9.out w22 (bnext HB9b.out d22)
              go_wp2_with fail
              refine (sum_c HU'.out _ _ _ _ hxl HRL4.out HRT.out HARL.out (HPX.out _ d22) (HRG.out _ (bnext HB9b.out d22)) (HAR.out _ (bnext HB9b.out d22))).mono ?_
              rintro e w23 ⟨rfl, hb23⟩
              have d23 := bnext d22 hb23
              clear s0 s1 s2 s3 s4
              obtain ⟨s0, s1, s2, s3, s4⟩ := HSC9.out w23 (bnext HB9b.out d23)
              go_wp2_with fail
              refine (rsum_c HU'.out _ _ _ _ hxl HRL4.out HRT.out HARL.out (HPX.out _ d23) (HRG.out _ (bnext HB9b.out d23)) (HAR.out _ (bnext HB9b.out d23))).mono ?_
              rintro e w24 ⟨rfl, hb24⟩
              have d24 := bnext d23 hb24
              clear s0 s1 s2 s3 s4 hb21 hb22 hb23 hb24 cz
              have HD := Lib.hid d24
              go_wp2_with fail
              go_roundw
              case rel => exact ⟨j + 1, by go_num, hj2, HD.out⟩
              case measure => simp [intOf]; omega
            · obtain rfl : j = 2 := by omega
              have HBJ := Lib.hid hbj
              clear hbj
              go_wp2_with fail
              go_roundw
              case rel => exact ⟨i + 1, by go_num, hi2, bnext HB9b.out HBJ.out⟩
              case measure => simp [intOf]; omega
        · obtain rfl : i = 2 := by omega
          have HBI := Lib.hid hb
          clear hb
          go_wp2
          go_ret
          exact ⟨by rfl, bnext HBW9.out HBI.out⟩

set_option maxRecDepth 100000 in
theorem lifted (os : Os) (started : os.Started) (H : Type) (enc : TypeId × Value → H) :
    ReturnsInHanded {} Try.checked os 6 .any (Rows.axesSumsSpec.pre6 enc Try.prog Try.f6 Rows.axesSumsRow.domain false) (Rows.axesSumsSpec.post enc Try.prog Try.f6 false true false false) := by
  refine returnsInHanded_of_change (C := Try.checked) own started (by kernel_rfl) Try.func6
    (ChangeSpec.witness6 (enc := enc) (C := Try.checked) false ⟨#[], #[.int .i64 0, .slice none 0 0, .agg #[.slice none 0 0, .slice none 0 0, .slice none 0 0, .slice none 0 0, .int .u8 0]], []⟩ 8 (by kernel_rfl) (by kernel_rfl) (by kernel_rfl) (by kernel_rfl)) ?_
  intro W base args ds gs before hval0 hW hcnd _
  have hval : ∀ (j : Nat) t v, Try.f6.params[j]? = some t → args[j]? = some v → Value.okWide Try.prog W .any base t v := hval0
  have hW' := hW
  obtain ⟨p, q, hA0, hV, rfl, hfz, hnd⟩ := hW
  have hA : DataW.TrodAll enc Try.prog W 0 (fun _ => true) true Try.f6.params.toList args.toList ds p := hA0
  rw [Try.params6] at hA hval
  obtain ⟨v0, vs0, d0, ds0, p0, q0, hargs, rfl, rfl, h0, r0⟩ := trodAll_cons hA
  obtain ⟨v1, vs1, d1, ds1, p1, q1, rfl, rfl, rfl, h1, r1⟩ := trodAll_cons r0
  obtain ⟨v2, vs2, d2, ds2, p2, q2, rfl, rfl, rfl, h2, r2⟩ := trodAll_cons r1
  obtain ⟨rfl, rfl, rfl⟩ := trodAll_nil r2
  obtain rfl : args = #[v0, v1, v2] := by cases args; simp_all
  obtain ⟨rfl, rfl⟩ := trodVars_none hV
  have k0 := h0
  have lt0 : ∀ x ∈ p0, x.block < W.heap.size := by obtain ⟨m, hm⟩ := k0; exact DataW.trod_lt m _ _ _ hm
  have k1 := h1
  have lt1 : ∀ x ∈ p1, x.block < W.heap.size := by obtain ⟨m, hm⟩ := k1; exact DataW.trod_lt m _ _ _ hm
  have k2 := h2
  have lt2 : ∀ x ∈ p2, x.block < W.heap.size := by obtain ⟨m, hm⟩ := k2; exact DataW.trod_lt m _ _ _ hm
  obtain ⟨a0, rfl, rfl, rfl, wa0⟩ := open_int Try.underlying3 (hval 0 3 v0 rfl rfl) h0
  obtain ⟨a1, H1⟩ := open_grs (hval 1 53 v1 rfl rfl) h1
  obtain ⟨L2, a2, g2, b2, x2, H2⟩ := open_case (hval 2 56 v2 rfl rfl) h2
  clear hA0 hval0
  refine (walk a0 v1 a1 v2 L2 a2 g2 b2 x2 wa0 W H1 H2).mono fun e W' ⟨he, bel⟩ => ?_
  subst he
  exact ⟨_, rfl, _, _, _, [], _, [], hW', trodAll_mk1 (shut_bool Try.underlying4 _), (trodAll_cons_mk (Below.trod laidOut (by kernel_rfl) (of_decide_eq_true (by kernel_rfl)) k0 bel lt0) (trodAll_cons_mk (Below.trod laidOut (by kernel_rfl) (of_decide_eq_true (by kernel_rfl)) k1 bel lt1) (trodAll_cons_mk (Below.trod laidOut (by kernel_rfl) (of_decide_eq_true (by kernel_rfl)) k2 bel lt2) trodAll_mk0))), rfl, bel.frame _, fun h => by cases h⟩

theorem over : Rows.axesSumsRow.holds Try.pinned (OpenSpec.ofChange Rows.axesSumsSpec) :=
  OpenClaim.holds_of_wide 6 Try.f6 rfl rfl rfl rfl rfl rfl rfl ⟨rfl, rfl, rfl, rfl, rfl⟩ rfl rfl rfl rfl rfl (by kernel_rfl) Try.func6 (by kernel_rfl)
    (of_decide_eq_true (by kernel_rfl)) (by unfold Func.isWrapper; first | (rw [if_pos (by decide +kernel)]; kernel_rfl) | (rw [if_neg (by decide +kernel)]; exact ⟨rfl, rfl⟩))
    (fun os started H enc _ => lifted os started H enc)

end Go.Proofs.Ytbhkbjnmpaebdaa.axesSums
namespace Go.Proofs.Ytbhkbjnmpaebdaa
theorem axesSums_proved : Rows.AxesSumsSaid := axesSums.over
#print axioms axesSums_proved
end Go.Proofs.Ytbhkbjnmpaebdaa
