/- For every case PanelCovers returns true: rectangles of a plan have no rows in common; they contain all pixels that differ; and each of them has one in its first and last row, and in its first and last column. No conditions. -/
import Derived.Test.YtmiennkldkcnfaaDoorPn41
import Derived.Test.YtmiennkldkcnfaaDoorPn36
import Derived.Test.YtmiennkldkcnfaaDoorPn32
import Derived.Test.YtmiennkldkcnfaaDoorPn33
import Derived.Test.YtmiennkldkcnfaaDoorPnLaid
namespace Go.Proofs.YtmiennkldkcnfaaDoor.panelCovers
open Go.ChangeShapes Go.WideShapes Go.ChangeAt Go.RowKit Go.Joins Go.Deep
set_option linter.unusedVariables false

set_option maxRecDepth 100000 in
set_option maxHeartbeats 8000000 in
theorem walk (a0 : Int) (b0 : Int) (c0 : Int) (p0 : Value) (q0 : Value) (l0 : List Nat) (m0 : List Nat) (g : Nat × Nat)  (w : World) (hl : Laid w g) (H0 : ((0 ≤ a0 ∧ a0 ≤ 255) ∧ (0 ≤ b0 ∧ b0 ≤ 255) ∧ (0 ≤ c0 ∧ c0 ≤ 255)) ∧ UsArg w p0 l0 ∧ UsArg w q0 m0) :
    Calls Tryd.prog 8 #[.agg #[.int .u8 a0, .int .u8 b0, p0, q0, .int .u8 c0]] w fun e w' => e = .returned (.bool true) ∧ Below w.heap.size w w' := by
  have HLD := Lib.hid hl
  clear hl
  obtain ⟨⟨hba, hbb, hbc⟩, hus, hus2⟩ := H0
  obtain ⟨pa, pc, rfl⟩ := hus.ua.shape
  obtain ⟨qa, qc, rfl⟩ := hus2.ua.shape
  have HU1 := Lib.hid hus
  have HU2 := Lib.hid hus2
  clear hus hus2
  obtain ⟨pw, hpw⟩ : ∃ pw : Nat, 1 + a0 % 64 = (pw : Int) := ⟨(1 + a0 % 64).toNat, by omega⟩
  obtain ⟨ph, hph⟩ : ∃ ph : Nat, 1 + b0 % 64 = (ph : Int) := ⟨(1 + b0 % 64).toNat, by omega⟩
  obtain ⟨mo, hmo⟩ : ∃ mo : Nat, 1 + c0 % 9 = (mo : Int) := ⟨(1 + c0 % 9).toNat, by omega⟩
  have HPW : Hid (1 ≤ pw ∧ pw ≤ 64 ∧ 1 ≤ ph ∧ ph ≤ 64 ∧ 1 ≤ mo ∧ mo ≤ 9) := Lib.hid (by omega)
  have HEQ := Lib.hid (And.intro (And.intro hba (And.intro hbb hbc)) (And.intro hpw (And.intro hph hmo)))
  clear hba hbb hbc hpw hph hmo
  obtain ⟨B, hB⟩ : ∃ B, w.heap.size = B := ⟨_, rfl⟩
  have hx1 := heap_alloc_new w (.cells #[.int .u8 a0, .int .u8 b0, .slice pa l0.length pc, .slice qa m0.length qc, .int .u8 c0] 53)
  have hb1 := balloc (Below.refl _ w) (.cells #[.int .u8 a0, .int .u8 b0, .slice pa l0.length pc, .slice qa m0.length qc, .int .u8 c0] 53)
  obtain ⟨w1, hw1⟩ : ∃ w1, w.alloc (.cells #[.int .u8 a0, .int .u8 b0, .slice pa l0.length pc, .slice qa m0.length qc, .int .u8 c0] 53) = w1 := ⟨_, rfl⟩
  rw [hw1, hB] at hx1
  rw [hw1] at hb1
  have HB1 := Lib.hid hb1
  have HX1 := Lib.hid hx1
  have HCX : Hid (∀ U, Below w1.heap.size w1 U → U.cell? ⟨B, 0, none⟩ = some (.int .u8 a0) ∧ U.cell? ⟨B, 1, none⟩ = some (.int .u8 b0) ∧ U.cell? ⟨B, 2, none⟩ = some (.slice pa l0.length pc) ∧ U.cell? ⟨B, 3, none⟩ = some (.slice qa m0.length qc) ∧ U.cell? ⟨B, 4, none⟩ = some (.int .u8 c0)) := Lib.hid fun U hU => by
    have h1 := (hU.block B (Array.getElem?_eq_some_iff.1 HX1.out).1).trans HX1.out
    exact ⟨nd_cell h1 rfl, nd_cell h1 rfl, nd_cell h1 rfl, nd_cell h1 rfl, nd_cell h1 rfl⟩
  clear hx1 hb1
  go_enter Tryd.func8, Tryd.ntmps8
  go_upto_region 1 with fail
  try rw [hw1]
  try rw [hB]
  clear hw1 hB
  have HC := Lib.hid (sanity_any _ g (HLD.out.mono HB1.out))
  go_wp2_with fail
  go_at_call 11
  refine HC.out.mono ?_
  rintro e w3 ⟨rfl, k3⟩
  clear HC
  have HB3 := Lib.hid (bnext HB1.out k3)
  have HC3 := Lib.hid k3
  clear k3
  
  obtain ⟨x0, x1, x2, x3, x4⟩ := HCX.out w3 HC3.out
  go_upto_region 2 with fail
  have HC := Lib.hid (sizes_any w3 a0 b0 c0 (.slice pa l0.length pc) (.slice qa m0.length qc) pw ph HEQ.out.1.1 HEQ.out.1.2.1 HEQ.out.2.1 HEQ.out.2.2.1)
  go_wp2_with fail
  go_at_call 27
  refine HC.out.mono ?_
  rintro e w4 ⟨rfl, k4⟩
  clear HC
  have HB4 := Lib.hid (bnext HB3.out k4)
  have HC4 := Lib.hid (bnext HC3.out k4)
  clear k4
  
  clear x0 x1 x2 x3 x4
  obtain ⟨x0, x1, x2, x3, x4⟩ := HCX.out w4 HC4.out
  go_upto_region 3 with fail
  have HC := Lib.hid (rows_any w4 a0 b0 c0 pa qa pc qc l0 m0 pw ph HEQ.out.1.1 HEQ.out.1.2.1 HEQ.out.2.1 HEQ.out.2.2.1 (HU1.out.keep HB4.out) (HU2.out.keep HB4.out))
  go_wp2_with fail
  go_at_call 28
  refine HC.out.mono ?_
  rintro e w5 ⟨r1, r2, rfl, ko1, ko2, k5⟩
  clear HC
  
  obtain ⟨ga, ca, rfl, hga⟩ := pg_of ko1 (by have := HPW.out; omega) mkRow_lt
  obtain ⟨gb, cb, rfl, hgb⟩ := pg_of ko2 (by have := HPW.out; omega) mkRow_lt
  obtain ⟨OL, hOL⟩ : ∃ OL, mkRow l0 pw ph = OL := ⟨_, rfl⟩
  obtain ⟨NX, hNX⟩ : ∃ NX, mkRow m0 pw ph = NX := ⟨_, rfl⟩
  rw [hOL] at hga
  rw [hNX] at hgb
  have HA := Lib.hid hga
  have HN := Lib.hid hgb
  have HB5 := Lib.hid (bnext HB4.out k5)
  have HC5 := Lib.hid (bnext HC4.out k5)
  clear k5 hga hgb hOL hNX ko1 ko2 x0 x1 x2 x3 x4
  obtain ⟨x0, x1, x2, x3, x4⟩ := HCX.out w5 HC5.out
  go_upto_region 4 with fail
  have e1 : IntKind.i64.wrap c0 = c0 := IntWalk.i64_in _ (by have := HEQ.out.1.2.2; omega)
  have e3 : c0.tmod 9 = c0 % 9 := Int.tmod_eq_emod_of_nonneg HEQ.out.1.2.2.1
  have e5 : IntKind.i64.wrap (mo : Int) = (mo : Int) := IntWalk.i64_in _ (by have := HPW.out; omega)
  have e6 := HEQ.out.2.2.2
  have HPF := Lib.hid (plan_facts (mo) (by have := HPW.out; omega) (HA.out.len.trans HN.out.len.symm) HA.out.lt HN.out.lt (by have := HPW.out; omega))
  have hpe : planP OL NX (pw : Int) ((mo : Nat) : Int) = PN.plan OL NX pw (mo) := by
    unfold planP
    rw [if_pos (by unfold planOk; have := HPW.out; have := HA.out.len; have := HN.out.len; omega), Int.toNat_natCast]
    all_goals first | rfl | rw [Int.toNat_natCast]
  have hpl := plan_any w5 g (HLD.out.mono HB5.out) _ _ OL NX (pw : Int) ((mo : Nat) : Int) HA.out.ua HN.out.ua (by have := HPW.out; have := HA.out.len; omega) (by have := HPW.out; have := HN.out.len; omega) (by have := HPW.out; omega) (HA.out.lt64 (by have := HPW.out; omega)) (HN.out.lt64 (by have := HPW.out; omega))
  rw [hpe] at hpl
  have HPB := Lib.hid (plan_brings (mo) (by have := HPW.out; omega) (HA.out.len.trans HN.out.len.symm) HA.out.lt HN.out.lt (by have := HPW.out; omega))
  obtain ⟨PL, hPL⟩ : ∃ PL, PN.plan OL NX pw (mo) = PL := ⟨_, rfl⟩
  have HPE := Lib.hid hPL
  rw [hPL] at hpl HPF HPB
  clear hPL hpe
  have HC := Lib.hid (hpl)
  go_wp2_with fail
  go_at_call 22
  refine HC.out.mono ?_
  rintro e w6 ⟨vp, rfl, ko, k9⟩
  clear HC
  clear hpl
  
  obtain ⟨pa', pc', rfl⟩ := own_shape ko
  have HPL := Lib.hid ko
  have HPO : Hid (∀ q, (Value.slice pa' PL.length pc').ownBlock = some q → w5.heap.size ≤ q) := Lib.hid fun q hq => by
    rcases ko.2 with ⟨h1, h2⟩ | ⟨g', cap, cur, h1, h2, -⟩
    · rw [h1] at hq; cases hq
    · rw [h1] at hq
      have : g' = q := Option.some.inj hq
      omega
  have HB6 := Lib.hid (bnext HB5.out k9)
  have HA6 := Lib.hid (HA.out.keep k9)
  have HN6 := Lib.hid (HN.out.keep k9)
  have HPLu := HPL
  have HOL := Lib.hid HA.out.len
  have HNL : Hid (PL.length ≤ 9) := Lib.hid (by have := HPF.out.2.2.1; have := HPW.out; omega)
  clear ko k9
  clear e1 e3 e5 e6 x0 x1 x2 x3 x4
  obtain ⟨NP, hNP⟩ : ∃ NP, PL.length = NP := ⟨_, rfl⟩
  have HNP := Lib.hid hNP
  rw [hNP] at HPL
  rw [hNP] at HNL
  rw [hNP] at HPO
  try rw [hNP]
  clear hNP HPLu
  obtain ⟨D, hD⟩ : ∃ D, PN.df OL NX pw = D := ⟨_, rfl⟩
  have HD := Lib.hid hD
  have HDL : Hid (D.length = ph) := Lib.hid (by rw [← hD, PN.df_len pw (HA.out.len.trans HN.out.len.symm)]; exact HA.out.len)
  have HD64 : Hid (∀ r ∈ D, r < 2 ^ 64) := Lib.hid (fun r hr => by rw [← hD] at hr; exact Nat.lt_of_lt_of_le (df_lt r hr) (Nat.pow_le_pow_right (by decide) (by have := HPW.out; omega)))
  clear hD
  have hmk := make_u64 w6 ph (by have := HPW.out; omega)
  have hx := heap_alloc_new w6 (.cells ((List.replicate ph (0 : Nat)).map U6).toArray 63)
  have hb1 := balloc (Below.refl _ w6) (.cells ((List.replicate ph (0 : Nat)).map U6).toArray 63)
  obtain ⟨Q, hQ⟩ : ∃ Q, w6.heap.size = Q := ⟨_, rfl⟩
  obtain ⟨w7, hw7⟩ : ∃ w7, w6.alloc (.cells ((List.replicate ph (0 : Nat)).map U6).toArray 63) = w7 := ⟨_, rfl⟩
  rw [hw7] at hmk hx hb1
  rw [hQ] at hmk hx
  have HQ := Lib.hid hQ
  have HX7 : Hid (Rs w7 Q (List.replicate ph 0)) := Lib.hid ⟨hx⟩
  have HB7 := Lib.hid (bnext HB6.out hb1)
  have HA7 := Lib.hid (HA6.out.keep hb1)
  have HN7 := Lib.hid (HN6.out.keep hb1)
  have HPL7 := Lib.hid (own_below HPL.out hb1)
  have HQO : Hid (ga ≠ Q ∧ gb ≠ Q ∧ (∀ q, (Value.slice pa' NP pc').ownBlock = some q → q ≠ Q)) := Lib.hid ⟨fun e => by have := HA6.out.hi; rw [HQ.out] at this; omega, fun e => by have := HN6.out.hi; rw [HQ.out] at this; omega, fun q hq => by
    rcases HPL.out.2 with ⟨h1, h2⟩ | ⟨g', cap, cur, h1, h2, h3, -⟩
    · rw [h1] at hq; cases hq
    · rw [h1] at hq
      have e : g' = q := Option.some.inj hq
      have := (Array.getElem?_eq_some_iff.1 h3).1
      rw [HQ.out] at this
      omega⟩
  have HQW : Hid (w.heap.size ≤ Q) := Lib.hid (by rw [← HQ.out]; exact HB6.out.size)
  clear hx hb1 hw7 hQ
  go_upto_region 7 with fail
  clear hmk
  go_loopw [10] (fun v10 wr => ∃ k : Nat, v10 = .int .i64 (k : Int) ∧ k ≤ ph ∧ Hid (Rs wr Q (D.take k ++ List.replicate (ph - k) 0)) ∧ Hid (FrS (fun q => q = Q) w7 wr)) (fun v _ => ph - (intOf v).toNat)
  case atStart => exact ⟨0, rfl, Nat.zero_le _, Lib.hid HX7.out, Lib.hid (FrS.refl _ _)⟩
  case round =>
    obtain ⟨k, rfl, hk, HXR, HFR⟩ := hrel
    by_cases hkn : k < ph
    · have hkz : (k : Int) < (ph : Int) := by omega
      have hk0 : (0 : Int) ≤ (k : Int) := by omega
      have hk9 : k < 64 := by have := HPW.out; omega
      obtain ⟨x, hx⟩ : ∃ x, OL[k]? = some x := ⟨_, List.getElem?_eq_getElem (by rw [HA.out.len]; exact hkn)⟩
      obtain ⟨y, hy⟩ : ∃ y, NX[k]? = some y := ⟨_, List.getElem?_eq_getElem (by rw [HN.out.len]; exact hkn)⟩
      have hxl := HA.out.lt x (List.mem_of_getElem? hx)
      have hyl := HN.out.lt y (List.mem_of_getElem? hy)
      have hdf := PN.df_at pw hx hy
      rw [HD.out, xor_mask hxl hyl] at hdf
      have e1 := u64_xor_nat x y (HA.out.lt64 (by have := HPW.out; omega) x (List.mem_of_getElem? hx)) (HN.out.lt64 (by have := HPW.out; omega) y (List.mem_of_getElem? hy))
      have hdr := Below.drew (Below.refl wr.heap.size wr)
      have hc1 := ((HA7.out.frame HFR.out HQO.out.1).keep hdr).cell hx
      have hc2 := ((HN7.out.frame HFR.out HQO.out.2.1).keep hdr).cell hy
      have HXD := Lib.hid (HXR.out.below hdr)
      have hc3 := HXD.out.froz k
      have hc4 : wr.drew.cell? ⟨Q, k, none⟩ = some (U6 0) := HXD.out.cell (by
        rw [List.getElem?_append_right (by rw [List.length_take]; omega), List.length_take, HDL.out, Nat.min_eq_left (by omega), Nat.sub_self, List.getElem?_replicate, if_pos (by omega)])
      have HKD := Lib.hid (And.intro hc1 (And.intro hc2 (And.intro hc3 hc4)))
      obtain ⟨o, ho⟩ : ∃ o, x ^^^ y = o := ⟨_, rfl⟩
      rw [ho] at e1 hdf
      have HST : Hid ((D.take k ++ List.replicate (ph - k) 0).set k o = D.take (k + 1) ++ List.replicate (ph - (k + 1)) 0) := Lib.hid (by
        rw [List.set_append_right _ _ (by rw [List.length_take]; omega), List.length_take, show ph - k = (ph - (k + 1)) + 1 by omega, List.replicate_succ, Nat.min_eq_left (by have := HDL.out; omega), Nat.sub_self, List.set_cons_zero, List.take_add_one, hdf]
        simp)
      have HFD := Lib.hid (HFR.out.trans (FrS.of hdr))
      clear hx hy hxl hyl hdf hdr hc1 hc2 hc3 hc4 ho
      go_upto_region 9 with fail
      refine wp_region_last #[{ dst := some 44, op := Op.move (Operand.tmp 9), type := 32, pos := "law.go:194", after := #[], guard := none }, { dst := some 45, op := Op.move (Operand.tmp 10), type := 3, pos := "law.go:194", after := #[], guard := none }, { dst := some 46, op := Op.move (Operand.tmp 6), type := 32, pos := "law.go:194", after := #[], guard := none }, { dst := some 47, op := Op.move (Operand.tmp 10), type := 3, pos := "law.go:194", after := #[], guard := none }, { dst := some 48, op := Op.indexAddr 32 (Operand.tmp 46) (Operand.tmp 47), type := 0, pos := "law.go:194", after := #[{ on := 2, ground := Ground.data }, { on := 3, ground := Ground.data }], guard := none }, { dst := some 49, op := Op.load 63 (Operand.tmp 48), type := 63, pos := "law.go:194", after := #[{ on := 4, ground := Ground.data }], guard := none }, { dst := some 50, op := Op.move (Operand.tmp 7), type := 32, pos := "law.go:194", after := #[], guard := none }, { dst := some 51, op := Op.move (Operand.tmp 10), type := 3, pos := "law.go:194", after := #[], guard := none }, { dst := some 52, op := Op.indexAddr 32 (Operand.tmp 50) (Operand.tmp 51), type := 0, pos := "law.go:194", after := #[{ on := 6, ground := Ground.data }, { on := 7, ground := Ground.data }], guard := none }, { dst := some 53, op := Op.load 63 (Operand.tmp 52), type := 63, pos := "law.go:194", after := #[{ on := 8, ground := Ground.data }], guard := none }, { dst := some 54, op := Op.binOp BinOp.xor 63 (Operand.tmp 49) (Operand.tmp 53) 63, type := 63, pos := "law.go:194", after := #[{ on := 5, ground := Ground.data }, { on := 9, ground := Ground.data }], guard := none }, { dst := some 55, op := Op.indexAddr 32 (Operand.tmp 44) (Operand.tmp 45), type := 0, pos := "law.go:194", after := #[{ on := 0, ground := Ground.data }, { on := 1, ground := Ground.data }, { on := 0, ground := Ground.phase }, { on := 1, ground := Ground.phase }, { on := 2, ground := Ground.phase }, { on := 3, ground := Ground.phase }, { on := 4, ground := Ground.phase }, { on := 5, ground := Ground.phase }, { on := 6, ground := Ground.phase }, { on := 7, ground := Ground.phase }, { on := 8, ground := Ground.phase }, { on := 9, ground := Ground.phase }, { on := 10, ground := Ground.phase }], guard := none }] { dst := none, op := Op.store 63 (Operand.tmp 55) (Operand.tmp 54), type := 0, pos := "law.go:194", after := #[{ on := 11, ground := Ground.data }, { on := 10, ground := Ground.data }, { on := 0, ground := Ground.phase }, { on := 1, ground := Ground.phase }, { on := 2, ground := Ground.phase }, { on := 3, ground := Ground.phase }, { on := 4, ground := Ground.phase }, { on := 5, ground := Ground.phase }, { on := 6, ground := Ground.phase }, { on := 7, ground := Ground.phase }, { on := 8, ground := Ground.phase }, { on := 9, ground := Ground.phase }, { on := 10, ground := Ground.phase }], guard := none } rfl (by kernel_rfl) (by kernel_rfl) ((fun w' => w'.cell? ⟨ga, k, none⟩ = some (U6 x) ∧ w'.cell? ⟨gb, k, none⟩ = some (U6 y) ∧ w'.frozen? ⟨Q, k, none⟩ = false ∧ w'.cell? ⟨Q, k, none⟩ = some (U6 0))) ?_ (fun hHeld => ?_)
      · exact HKD.out
      refine wpAnyH_take (i := 0) (oi := { dst := some 44, op := Op.move (Operand.tmp 9), type := 32, pos := "law.go:194", after := #[], guard := none }) (v := ?_) rfl (by kernel_rfl) (by kernel_rfl) (by kernel_rfl) (fun _ _ _ h => h) (Or.inl ⟨by rfl, ?_⟩) (by assumption) ?_
      rotate_left
      · ((intro w hSw; (try dsimp only at hSw); go_simp; (try rw [if_neg (by omega)])); try with_reducible rfl)
      (try simp only [Act.put, List.setIfInBounds_toArray, List.set_cons_zero, List.set_cons_succ])
      refine wpAnyH_take (i := 1) (oi := { dst := some 45, op := Op.move (Operand.tmp 10), type := 3, pos := "law.go:194", after := #[], guard := none }) (v := ?_) rfl (by kernel_rfl) (by kernel_rfl) (by kernel_rfl) (fun _ _ _ h => h) (Or.inl ⟨by rfl, ?_⟩) (by assumption) ?_
      rotate_left
      · ((intro w hSw; (try dsimp only at hSw); go_simp; (try rw [if_neg (by omega)])); try with_reducible rfl)
      (try simp only [Act.put, List.setIfInBounds_toArray, List.set_cons_zero, List.set_cons_succ])
      refine wpAnyH_take (i := 2) (oi := { dst := some 46, op := Op.move (Operand.tmp 6), type := 32, pos := "law.go:194", after := #[], guard := none }) (v := ?_) rfl (by kernel_rfl) (by kernel_rfl) (by kernel_rfl) (fun _ _ _ h => h) (Or.inl ⟨by rfl, ?_⟩) (by assumption) ?_
      rotate_left
      · ((intro w hSw; (try dsimp only at hSw); go_simp; (try rw [if_neg (by omega)])); try with_reducible rfl)
      (try simp only [Act.put, List.setIfInBounds_toArray, List.set_cons_zero, List.set_cons_succ])
      refine wpAnyH_take (i := 3) (oi := { dst := some 47, op := Op.move (Operand.tmp 10), type := 3, pos := "law.go:194", after := #[], guard := none }) (v := ?_) rfl (by kernel_rfl) (by kernel_rfl) (by kernel_rfl) (fun _ _ _ h => h) (Or.inl ⟨by rfl, ?_⟩) (by assumption) ?_
      rotate_left
      · ((intro w hSw; (try dsimp only at hSw); go_simp; (try rw [if_neg (by omega)])); try with_reducible rfl)
      (try simp only [Act.put, List.setIfInBounds_toArray, List.set_cons_zero, List.set_cons_succ])
      refine wpAnyH_take (i := 4) (oi := { dst := some 48, op := Op.indexAddr 32 (Operand.tmp 46) (Operand.tmp 47), type := 0, pos := "law.go:194", after := #[{ on := 2, ground := Ground.data }, { on := 3, ground := Ground.data }], guard := none }) (v := ?_) rfl (by kernel_rfl) (by kernel_rfl) (by kernel_rfl) (fun _ _ _ h => h) (Or.inl ⟨by rfl, ?_⟩) (by assumption) ?_
      rotate_left
      · ((intro w hSw; (try dsimp only at hSw); go_simp; (try rw [if_neg (by omega)])); try with_reducible rfl)
      (try simp only [Act.put, List.setIfInBounds_toArray, List.set_cons_zero, List.set_cons_succ])
      refine wpAnyH_take (i := 5) (oi := { dst := some 49, op := Op.load 63 (Operand.tmp 48), type := 63, pos := "law.go:194", after := #[{ on := 4, ground := Ground.data }], guard := none }) (v := ?_) rfl (by kernel_rfl) (by kernel_rfl) (by kernel_rfl) (fun _ _ _ h => h) (Or.inl ⟨by rfl, ?_⟩) (by assumption) ?_
      rotate_left
      · ((intro w hSw; (try dsimp only at hSw); go_simp; (try rw [if_neg (by omega)])); try with_reducible rfl)
      (try simp only [Act.put, List.setIfInBounds_toArray, List.set_cons_zero, List.set_cons_succ])
      refine wpAnyH_take (i := 6) (oi := { dst := some 50, op := Op.move (Operand.tmp 7), type := 32, pos := "law.go:194", after := #[], guard := none }) (v := ?_) rfl (by kernel_rfl) (by kernel_rfl) (by kernel_rfl) (fun _ _ _ h => h) (Or.inl ⟨by rfl, ?_⟩) (by assumption) ?_
      rotate_left
      · ((intro w hSw; (try dsimp only at hSw); go_simp; (try rw [if_neg (by omega)])); try with_reducible rfl)
      (try simp only [Act.put, List.setIfInBounds_toArray, List.set_cons_zero, List.set_cons_succ])
      refine wpAnyH_take (i := 7) (oi := { dst := some 51, op := Op.move (Operand.tmp 10), type := 3, pos := "law.go:194", after := #[], guard := none }) (v := ?_) rfl (by kernel_rfl) (by kernel_rfl) (by kernel_rfl) (fun _ _ _ h => h) (Or.inl ⟨by rfl, ?_⟩) (by assumption) ?_
      rotate_left
      · ((intro w hSw; (try dsimp only at hSw); go_simp; (try rw [if_neg (by omega)])); try with_reducible rfl)
      (try simp only [Act.put, List.setIfInBounds_toArray, List.set_cons_zero, List.set_cons_succ])
      refine wpAnyH_take (i := 8) (oi := { dst := some 52, op := Op.indexAddr 32 (Operand.tmp 50) (Operand.tmp 51), type := 0, pos := "law.go:194", after := #[{ on := 6, ground := Ground.data }, { on := 7, ground := Ground.data }], guard := none }) (v := ?_) rfl (by kernel_rfl) (by kernel_rfl) (by kernel_rfl) (fun _ _ _ h => h) (Or.inl ⟨by rfl, ?_⟩) (by assumption) ?_
      rotate_left
      · ((intro w hSw; (try dsimp only at hSw); go_simp; (try rw [if_neg (by omega)])); try with_reducible rfl)
      (try simp only [Act.put, List.setIfInBounds_toArray, List.set_cons_zero, List.set_cons_succ])
      refine wpAnyH_take (i := 9) (oi := { dst := some 53, op := Op.load 63 (Operand.tmp 52), type := 63, pos := "law.go:194", after := #[{ on := 8, ground := Ground.data }], guard := none }) (v := ?_) rfl (by kernel_rfl) (by kernel_rfl) (by kernel_rfl) (fun _ _ _ h => h) (Or.inl ⟨by rfl, ?_⟩) (by assumption) ?_
      rotate_left
      · ((intro w hSw; (try dsimp only at hSw); go_simp; (try rw [if_neg (by omega)])); try with_reducible rfl)
      (try simp only [Act.put, List.setIfInBounds_toArray, List.set_cons_zero, List.set_cons_succ])
      refine wpAnyH_take (i := 10) (oi := { dst := some 54, op := Op.binOp BinOp.xor 63 (Operand.tmp 49) (Operand.tmp 53) 63, type := 63, pos := "law.go:194", after := #[{ on := 5, ground := Ground.data }, { on := 9, ground := Ground.data }], guard := none }) (v := ?_) rfl (by kernel_rfl) (by kernel_rfl) (by kernel_rfl) (fun _ _ _ h => h) (Or.inl ⟨by rfl, ?_⟩) (by assumption) ?_
      rotate_left
      · ((intro w hSw; (try dsimp only at hSw); go_simp; (try rw [if_neg (by omega)])); try with_reducible rfl)
      (try simp only [Act.put, List.setIfInBounds_toArray, List.set_cons_zero, List.set_cons_succ])
      refine wpAnyH_take (i := 11) (oi := { dst := some 55, op := Op.indexAddr 32 (Operand.tmp 44) (Operand.tmp 45), type := 0, pos := "law.go:194", after := #[{ on := 0, ground := Ground.data }, { on := 1, ground := Ground.data }, { on := 0, ground := Ground.phase }, { on := 1, ground := Ground.phase }, { on := 2, ground := Ground.phase }, { on := 3, ground := Ground.phase }, { on := 4, ground := Ground.phase }, { on := 5, ground := Ground.phase }, { on := 6, ground := Ground.phase }, { on := 7, ground := Ground.phase }, { on := 8, ground := Ground.phase }, { on := 9, ground := Ground.phase }, { on := 10, ground := Ground.phase }], guard := none }) (v := ?_) rfl (by kernel_rfl) (by kernel_rfl) (by kernel_rfl) (fun _ _ _ h => h) (Or.inl ⟨by rfl, ?_⟩) (by assumption) ?_
      rotate_left
      · ((intro w hSw; (try dsimp only at hSw); go_simp; (try rw [if_neg (by omega)])); try with_reducible rfl)
      (try simp only [Act.put, List.setIfInBounds_toArray, List.set_cons_zero, List.set_cons_succ])
      refine wpAnyH_done (by kernel_rfl) ?_ _
      show Oper.wp _ _ _ _ _ _
      clear hHeld
      have hc3 := HKD.out.2.2.1
      have hc4 := HKD.out.2.2.2
      go_simp
      go_wp2
      go_roundw
      case rel => exact ⟨k + 1, by go_num, hkn, Lib.hid (by rw [← HST.out]; exact HXD.out.set k o), Lib.hid (HFD.out.trans (FrS.set (S := fun q => q = Q) wr.drew (b := Q) (i := k) rfl (U6 o)))⟩
      case measure => simp [intOf]; omega
    · have hkz : ¬ (k : Int) < (ph : Int) := by omega
      obtain rfl : ph = k := by omega
      have HXE : Hid (Rs wr Q D) := Lib.hid (by
        have h1 := HXR.out
        rw [List.take_of_length_le (by rw [HDL.out]; exact Nat.le_refl _), Nat.sub_self] at h1
        simpa using h1)
      clear hkn hk HXR HX7
      obtain ⟨w8, hw8⟩ : ∃ w8, w8 = wr := ⟨_, rfl⟩
      subst hw8
      have HB8 := Lib.hid (HFR.out.below w HB7.out (fun q hq => by rw [hq]; exact HQW.out))
      have HPL8 := Lib.hid (HFR.out.own HPL7.out (fun q hq e => HQO.out.2.2 q hq e))
      have HT : Hid (∀ c ∈ PL, wiP c pw ph ∧ PN.Tight D c) := Lib.hid fun c hc => by
        have h := HPF.out.1 c hc
        rw [HA.out.len, HD.out] at h
        exact h
      have HO := Lib.hid HPF.out.2.1
      clear HFR
      go_upto_region 12 with fail
      go_loopw [11, 58] (fun v11 v58 wr => ∃ (k bt : Nat) (R : List Nat), v58 = .int .i64 (k : Int) ∧ v11 = .int .i64 (bt : Int) ∧ k ≤ NP ∧ bt ≤ 64 ∧ Hid (∀ c, PL[k]? = some c → (bt : Int) ≤ c.y) ∧ Hid (Rs wr Q R ∧ Cov D (PL.take k) R) ∧ Hid (FrS (fun q => q = Q) w8 wr)) (fun v11 v58 _ => NP - (intOf v58).toNat)
      case atStart => exact ⟨0, 0, D, rfl, rfl, Nat.zero_le _, Nat.zero_le _, Lib.hid (fun c hc => (HO.out.2 c (List.mem_of_getElem? hc)).1), Lib.hid ⟨HXE.out, cov_zero HD64.out⟩, Lib.hid (FrS.refl _ _)⟩
      case round =>
        obtain ⟨k, bt, R, rfl, rfl, hk, hbt, HBT, HRR, HFR⟩ := hrel
        by_cases hkN : k < NP
        · have hkz : (k : Int) < (NP : Int) := by omega
          have hk0 : (0 : Int) ≤ (k : Int) := by omega
          have hN9 : k < 64 := by have := HNL.out; omega
          obtain ⟨r, hr⟩ : ∃ r, PL[k]? = some r := ⟨_, List.getElem?_eq_getElem (by rw [HNP.out]; exact hkN)⟩
          obtain ⟨hwi, htg⟩ := HT.out r (List.mem_of_getElem? hr)
          have hb1 := HBT.out r hr
          obtain ⟨rx, ry, rw', rh⟩ := r
          unfold wiP at hwi
          dsimp only at hwi hb1
          obtain ⟨x, rfl⟩ : ∃ x : Nat, rx = (x : Int) := ⟨rx.toNat, by omega⟩
          obtain ⟨y, rfl⟩ : ∃ y : Nat, ry = (y : Int) := ⟨ry.toNat, by omega⟩
          obtain ⟨cw, rfl⟩ : ∃ cw : Nat, rw' = (cw : Int) := ⟨rw'.toNat, by omega⟩
          obtain ⟨ch, rfl⟩ : ∃ ch : Nat, rh = (ch : Int) := ⟨rh.toNat, by omega⟩
          have HR := Lib.hid hr
          have HTG := Lib.hid htg
          have HWI : Hid ((x + cw ≤ pw ∧ y + ch ≤ ph ∧ 1 ≤ cw ∧ 1 ≤ ch) ∧ wiP ⟨x, y, cw, ch⟩ pw ph) := Lib.hid ⟨by have := HPW.out; omega, by unfold wiP; exact hwi⟩
          have hyb : ¬ (y : Int) < (bt : Int) := by omega
          obtain ⟨pg, po, hpa, hpl, i0, i1, i2, i3⟩ := rc_at (own_srcN (HFR.out.own HPL8.out (fun q hq e => HQO.out.2.2 q hq e))) hr
          subst hpa
          have HQX : Hid (Q < wr.heap.size) := Lib.hid (Array.getElem?_eq_some_iff.1 HRR.out.1.hd).1
          clear hwi hr hpl htg hb1 hbt
          have hxn := heap_alloc_new wr (.cells #[.int .i64 0, .int .i64 0, .int .i64 0, .int .i64 0] 31)
          have hbn := balloc (Below.refl _ wr) (.cells #[.int .i64 0, .int .i64 0, .int .i64 0, .int .i64 0] 31)
          obtain ⟨X, hX⟩ : ∃ X, wr.heap.size = X := ⟨_, rfl⟩
          obtain ⟨wa, hwa⟩ : ∃ wa, wr.alloc (.cells #[.int .i64 0, .int .i64 0, .int .i64 0, .int .i64 0] 31) = wa := ⟨_, rfl⟩
          have HXo : Hid (X = wr.heap.size) := Lib.hid hX.symm
          rw [hX, hwa] at hxn
          rw [hwa] at hbn
          have y0 : wa.cell? ⟨X, 0, none⟩ = some (.int .i64 0) := nd_cell hxn rfl
          have y1 : wa.cell? ⟨X, 1, none⟩ = some (.int .i64 0) := nd_cell hxn rfl
          have y2 : wa.cell? ⟨X, 2, none⟩ = some (.int .i64 0) := nd_cell hxn rfl
          have y3 : wa.cell? ⟨X, 3, none⟩ = some (.int .i64 0) := nd_cell hxn rfl
          have z0 := nd_froz hxn 0
          have z1 := nd_froz hxn 1
          have z2 := nd_froz hxn 2
          have z3 := nd_froz hxn 3
          obtain ⟨wx, hwx, hxx, hfx⟩ := set4 hxn (.int .i64 (x : Int)) (.int .i64 (y : Int)) (.int .i64 (cw : Int)) (.int .i64 (ch : Int))
          have HXX := Lib.hid hxx
          have HBX := Lib.hid (hfx.below wr hbn (fun b hb => by rw [hb, HXo.out]; exact Nat.le_refl _))
          clear hxx hfx hbn hxn
          go_upto_region 14 with fail
          try rw [hwx]
          clear y0 y1 y2 y3 z0 z1 z2 z3 hwx hX hwa
          clear i0 i1 i2 i3
          have HKX : Hid (∀ U, FrS (fun q => q = Q) wx U → U.cell? ⟨X, 0, none⟩ = some (.int .i64 (x : Int)) ∧ U.cell? ⟨X, 1, none⟩ = some (.int .i64 (y : Int)) ∧ U.cell? ⟨X, 2, none⟩ = some (.int .i64 (cw : Int)) ∧ U.cell? ⟨X, 3, none⟩ = some (.int .i64 (ch : Int))) := Lib.hid fun U hU => by
            have h1 := hU.nd HXX.out (fun e => by have h3 := HQX.out; have h4 := HXo.out; omega)
            exact ⟨nd_cell h1 rfl, nd_cell h1 rfl, nd_cell h1 rfl, nd_cell h1 rfl⟩
          obtain ⟨y0, y1, y2, y3⟩ := HKX.out wx (FrS.refl _ _)
          have hwt := within_any wx ⟨x, y, cw, ch⟩ (pw : Int) (ph : Int) (by unfold rcOk; dsimp only; have := HWI.out.1; have := HPW.out; omega) (by have := HPW.out; omega) (by have := HPW.out; omega)
          rw [decide_eq_true HWI.out.2] at hwt
          have HC := Lib.hid hwt
          clear hwt
          go_wp2_with fail
          go_at_call 32
          refine HC.out.mono ?_
          rintro e wy ⟨rfl, ky⟩
          clear HC y0 y1 y2 y3
          have HKY : Hid (∀ U, FrS (fun q => q = Q) wy U → U.cell? ⟨X, 0, none⟩ = some (.int .i64 (x : Int)) ∧ U.cell? ⟨X, 1, none⟩ = some (.int .i64 (y : Int)) ∧ U.cell? ⟨X, 2, none⟩ = some (.int .i64 (cw : Int)) ∧ U.cell? ⟨X, 3, none⟩ = some (.int .i64 (ch : Int))) := Lib.hid fun U hU => HKX.out U ((FrS.of ky).trans hU)
          obtain ⟨y0, y1, y2, y3⟩ := HKY.out wy (FrS.refl _ _)
          obtain ⟨e, he⟩ : ∃ e, y + ch = e := ⟨_, rfl⟩
          have HE : Hid (y + ch = e ∧ e ≤ ph) := Lib.hid ⟨he, by have := HWI.out.1; omega⟩
          have g1 : (y : Int) + (ch : Int) = (e : Int) := by omega
          have g2 : IntKind.i64.wrap (e : Int) = (e : Int) := IntWalk.i64_in _ (by have := HE.out; have := HPW.out; omega)
          have HRY : Hid (Rs wy Q R ∧ Cov D (PL.take k) R) := Lib.hid ⟨HRR.out.1.below (bnext HBX.out ky), HRR.out.2⟩
          have HFY := Lib.hid (HFR.out.trans (FrS.of (bnext HBX.out ky)))
          have HOY : Hid (∀ c' ∈ PL.take k, 0 ≤ c'.y ∧ c'.y + c'.h ≤ (y : Int)) := Lib.hid (ord_take HO.out HR.out)
          clear he ky HRR
          go_upto_region 16 with fail
          go_upto_region 19 with fail
          have hyn : ¬ y < bt := by omega
          simp only [decide_eq_false hyn]
          clear y0 y1 y2 y3 hyb hyn
          go_loopw [14, 15] (fun v14 v15 wr => ∃ (p a : Nat) (R : List Nat), v15 = .int .i64 (p : Int) ∧ v14 = U6 a ∧ y ≤ p ∧ p ≤ e ∧ Hid (Rs wr Q R ∧ CovI D (PL.take k) ⟨x, y, cw, ch⟩ (p - y) R a) ∧ Hid (FrS (fun q => q = Q) wy wr)) (fun v14 v15 _ => e - (intOf v15).toNat)
          case atStart => exact ⟨y, 0, R, rfl, rfl, Nat.le_refl _, by have := HE.out; omega, Lib.hid ⟨HRY.out.1, by rw [Nat.sub_self]; exact HRY.out.2.first _⟩, Lib.hid (FrS.refl _ _)⟩
          case round =>
            obtain ⟨p, a, R, rfl, rfl, hp1, hp2, HRR, HFI⟩ := hrel
            obtain ⟨y0, y1, y2, y3⟩ := HKY.out wr HFI.out
            by_cases hpe : p < e
            · have hpz : (p : Int) < (e : Int) := by omega
              have hp0 : (0 : Int) ≤ (p : Int) := by omega
              have hp9 : p < 64 := by have := HE.out; have := HPW.out; omega
              have hph : (p : Int) < (ph : Int) := by have := HE.out; omega
              have HRL : Hid (R.length = ph) := Lib.hid (HRR.out.2.len.trans HDL.out)
              have HPP : Hid (p < R.length ∧ x + cw ≤ 64 ∧ 1 ≤ cw) := Lib.hid (by have := HRL.out; have := HE.out; have := HWI.out.1; have := HPW.out; omega)
              have HW6 : Hid (wiP ⟨x, y, cw, ch⟩ 64 R.length) := Lib.hid (by have := HRL.out; have := HWI.out.1; have := HPW.out; unfold wiP; dsimp only; omega)
              have HNX := Lib.hid (cov_next HRR.out.2 hp1 (by have := HE.out; omega) HOY.out HW6.out)
              have HSM : Hid (PN.cutb (R.getD p 0) x cw = 0 → p ≠ y ∧ p + 1 ≠ e) := Lib.hid fun h0 => by
                have := cov_some HRR.out.2 hp1 (by have := HE.out; omega) HOY.out HW6.out HTG.out h0
                rw [HE.out.1] at this
                exact this
              obtain ⟨rp, hrp⟩ : ∃ rp, R[p]? = some rp := ⟨_, List.getElem?_eq_getElem HPP.out.1⟩
              have hgd : R.getD p 0 = rp := by rw [List.getD_eq_getElem?_getD, hrp]; rfl
              have hrl := HRR.out.2.lt rp (List.mem_of_getElem? hrp)
              have hal := HRR.out.2.alt
              have hcl : PN.cutb (R.getD p 0) x cw < 18446744073709551616 := Nat.lt_of_lt_of_le (PN.cut_lt _ _ _) (Nat.pow_le_pow_right (n := 2) (j := 64) (by decide) (by have := HPP.out; omega))
              have HRT := Lib.hid (rect_any wr (x : Int) (p : Int) (cw : Int) 1)
              have hct := fun (U : World) (hU : Below wr.heap.size wr U) => rcut_one U R (.slice (some ⟨Q, 0, none⟩) ph ph) HPP.out.2.1 HPP.out.2.2 HPP.out.1 ((HRR.out.1.below hU).ua HRL.out) (by have := HRL.out; have := HPW.out; omega) HRR.out.2.lt
              obtain ⟨i1, hi1⟩ : ∃ i1, PN.cutb (R.getD p 0) x cw = i1 := ⟨_, rfl⟩
              rw [hi1] at HNX HSM hcl
              simp only [hi1] at hct
              rw [hgd] at HNX
              have HCT := Lib.hid hct
              have t1 := u64_or_nat a i1 hal hcl
              have t2 := shl_val i1 x
              have t3 := u64_andNot_nat rp (PN.shl i1 x) hrl (PN.shl_lt _ _)
              have m64 : min x 64 = x := by have := HPP.out; omega
              obtain ⟨s1, hs1⟩ : ∃ s1, PN.shl i1 x = s1 := ⟨_, rfl⟩
              have HS1 := Lib.hid hs1
              rw [hs1] at t2 t3 HNX
              obtain ⟨o, ho⟩ : ∃ o, rp &&& (18446744073709551615 - s1) = o := ⟨_, rfl⟩
              rw [ho] at t3 HNX
              obtain ⟨a2, ha2⟩ : ∃ a2, a ||| i1 = a2 := ⟨_, rfl⟩
              rw [ha2] at t1 HNX
              have HRP := Lib.hid hrp
              clear ho ha2 hs1 hi1 hcl hal hrl hgd hrp hct
              go_upto_region 21 with fail
              go_wp2_with fail
              go_at_call 33
              refine HRT.out.mono ?_
              rintro u wz1 ⟨rfl, kz1⟩
              have HBz1 := Lib.hid kz1
              go_wp2_with fail
              go_at_call 26
              refine (HCT.out _ kz1).mono ?_
              rintro u wz2 ⟨q, c', rfl, hq0, hq1, kz2⟩
              have HBz2 := Lib.hid (bnext HBz1.out kz2)
              clear kz1 kz2 HCT HRT y0 y1 y2 y3 hq1
              obtain ⟨y0, y1, y2, y3⟩ := HKY.out wz2 (HFI.out.trans (FrS.of HBz2.out))
              go_upto_region 23 with fail
              clear hq0
              obtain ⟨e1, he1⟩ : ∃ e1 : Nat, (e : Int) - 1 = (e1 : Int) := ⟨e - 1, by omega⟩
              have g4 : IntKind.i64.wrap (e1 : Int) = (e1 : Int) := IntWalk.i64_in _ (by have := HE.out; have := HPW.out; omega)
              by_cases h0 : i1 = 0
              · obtain ⟨n1, n2⟩ := HSM.out h0
                have n3 : ((p : Int) == (y : Int)) = false := by rw [beq_eq_false_iff_ne]; omega
                have n4 : ((p : Int) == (e1 : Int)) = false := by rw [beq_eq_false_iff_ne]; omega
                have n5 : ((i1 : Int) == 0) = true := by rw [beq_iff_eq]; omega
                clear h0 n1 n2
                go_upto_region 25 with fail
                have hdr := Below.drew (Below.refl wz2.heap.size wz2)
                have HRZ := Lib.hid (HRR.out.1.below (bnext HBz2.out hdr))
                have HFZ := Lib.hid (HFI.out.trans (FrS.of (bnext HBz2.out hdr)))
                have HKD := Lib.hid (And.intro (HRZ.out.cell HRP.out) (And.intro (HKY.out _ HFZ.out).1 (HRZ.out.froz p)))
                clear y0 y1 y2 y3 hdr
                refine wp_region_last #[{ dst := some 120, op := Op.move (Operand.tmp 9), type := 32, pos := "law.go:209", after := #[], guard := none }, { dst := some 121, op := Op.move (Operand.tmp 15), type := 3, pos := "law.go:209", after := #[], guard := none }, { dst := some 122, op := Op.move (Operand.tmp 9), type := 32, pos := "law.go:209", after := #[], guard := none }, { dst := some 123, op := Op.move (Operand.tmp 15), type := 3, pos := "law.go:209", after := #[], guard := none }, { dst := some 124, op := Op.indexAddr 32 (Operand.tmp 122) (Operand.tmp 123), type := 0, pos := "law.go:209", after := #[{ on := 2, ground := Ground.data }, { on := 3, ground := Ground.data }], guard := none }, { dst := some 125, op := Op.load 63 (Operand.tmp 124), type := 63, pos := "law.go:209", after := #[{ on := 4, ground := Ground.data }], guard := none }, { dst := some 126, op := Op.move (Operand.tmp 16), type := 63, pos := "law.go:209", after := #[], guard := none }, { dst := some 127, op := Op.fieldAddr 31 (Operand.tmp 13) 0, type := 0, pos := "law.go:209", after := #[], guard := none }, { dst := some 128, op := Op.load 3 (Operand.tmp 127), type := 3, pos := "law.go:209", after := #[{ on := 7, ground := Ground.data }], guard := none }, { dst := some 129, op := Op.binOp BinOp.shl 63 (Operand.tmp 126) (Operand.tmp 128) 3, type := 63, pos := "law.go:209", after := #[{ on := 6, ground := Ground.data }, { on := 8, ground := Ground.data }], guard := none }, { dst := some 130, op := Op.binOp BinOp.andNot 63 (Operand.tmp 125) (Operand.tmp 129) 63, type := 63, pos := "law.go:209", after := #[{ on := 5, ground := Ground.data }, { on := 9, ground := Ground.data }], guard := none }, { dst := some 131, op := Op.indexAddr 32 (Operand.tmp 120) (Operand.tmp 121), type := 0, pos := "law.go:209", after := #[{ on := 0, ground := Ground.data }, { on := 1, ground := Ground.data }, { on := 0, ground := Ground.phase }, { on := 1, ground := Ground.phase }, { on := 2, ground := Ground.phase }, { on := 3, ground := Ground.phase }, { on := 4, ground := Ground.phase }, { on := 5, ground := Ground.phase }, { on := 6, ground := Ground.phase }, { on := 7, ground := Ground.phase }, { on := 8, ground := Ground.phase }, { on := 9, ground := Ground.phase }, { on := 10, ground := Ground.phase }], guard := none }] { dst := none, op := Op.store 63 (Operand.tmp 131) (Operand.tmp 130), type := 0, pos := "law.go:209", after := #[{ on := 11, ground := Ground.data }, { on := 10, ground := Ground.data }, { on := 0, ground := Ground.phase }, { on := 1, ground := Ground.phase }, { on := 2, ground := Ground.phase }, { on := 3, ground := Ground.phase }, { on := 4, ground := Ground.phase }, { on := 5, ground := Ground.phase }, { on := 6, ground := Ground.phase }, { on := 7, ground := Ground.phase }, { on := 8, ground := Ground.phase }, { on := 9, ground := Ground.phase }, { on := 10, ground := Ground.phase }], guard := none } rfl (by kernel_rfl) (by kernel_rfl) ((fun w' => w'.cell? ⟨Q, p, none⟩ = some (U6 rp) ∧ w'.cell? ⟨X, 0, none⟩ = some (.int .i64 (x : Int)) ∧ w'.frozen? ⟨Q, p, none⟩ = false)) ?_ (fun hHeld => ?_)
                · exact HKD.out
                refine wpAnyH_take (i := 0) (oi := { dst := some 120, op := Op.move (Operand.tmp 9), type := 32, pos := "law.go:209", after := #[], guard := none }) (v := ?_) rfl (by kernel_rfl) (by kernel_rfl) (by kernel_rfl) (fun _ _ _ h => h) (Or.inl ⟨by rfl, ?_⟩) (by assumption) ?_
                rotate_left
                · ((intro w hSw; (try dsimp only at hSw); go_simp; (try rw [if_neg (by omega)])); try with_reducible rfl)
                (try simp only [Act.put, List.setIfInBounds_toArray, List.set_cons_zero, List.set_cons_succ])
                refine wpAnyH_take (i := 1) (oi := { dst := some 121, op := Op.move (Operand.tmp 15), type := 3, pos := "law.go:209", after := #[], guard := none }) (v := ?_) rfl (by kernel_rfl) (by kernel_rfl) (by kernel_rfl) (fun _ _ _ h => h) (Or.inl ⟨by rfl, ?_⟩) (by assumption) ?_
                rotate_left
                · ((intro w hSw; (try dsimp only at hSw); go_simp; (try rw [if_neg (by omega)])); try with_reducible rfl)
                (try simp only [Act.put, List.setIfInBounds_toArray, List.set_cons_zero, List.set_cons_succ])
                refine wpAnyH_take (i := 2) (oi := { dst := some 122, op := Op.move (Operand.tmp 9), type := 32, pos := "law.go:209", after := #[], guard := none }) (v := ?_) rfl (by kernel_rfl) (by kernel_rfl) (by kernel_rfl) (fun _ _ _ h => h) (Or.inl ⟨by rfl, ?_⟩) (by assumption) ?_
                rotate_left
                · ((intro w hSw; (try dsimp only at hSw); go_simp; (try rw [if_neg (by omega)])); try with_reducible rfl)
                (try simp only [Act.put, List.setIfInBounds_toArray, List.set_cons_zero, List.set_cons_succ])
                refine wpAnyH_take (i := 3) (oi := { dst := some 123, op := Op.move (Operand.tmp 15), type := 3, pos := "law.go:209", after := #[], guard := none }) (v := ?_) rfl (by kernel_rfl) (by kernel_rfl) (by kernel_rfl) (fun _ _ _ h => h) (Or.inl ⟨by rfl, ?_⟩) (by assumption) ?_
                rotate_left
                · ((intro w hSw; (try dsimp only at hSw); go_simp; (try rw [if_neg (by omega)])); try with_reducible rfl)
                (try simp only [Act.put, List.setIfInBounds_toArray, List.set_cons_zero, List.set_cons_succ])
                refine wpAnyH_take (i := 4) (oi := { dst := some 124, op := Op.indexAddr 32 (Operand.tmp 122) (Operand.tmp 123), type := 0, pos := "law.go:209", after := #[{ on := 2, ground := Ground.data }, { on := 3, ground := Ground.data }], guard := none }) (v := ?_) rfl (by kernel_rfl) (by kernel_rfl) (by kernel_rfl) (fun _ _ _ h => h) (Or.inl ⟨by rfl, ?_⟩) (by assumption) ?_
                rotate_left
                · ((intro w hSw; (try dsimp only at hSw); go_simp; (try rw [if_neg (by omega)])); try with_reducible rfl)
                (try simp only [Act.put, List.setIfInBounds_toArray, List.set_cons_zero, List.set_cons_succ])
                refine wpAnyH_take (i := 5) (oi := { dst := some 125, op := Op.load 63 (Operand.tmp 124), type := 63, pos := "law.go:209", after := #[{ on := 4, ground := Ground.data }], guard := none }) (v := ?_) rfl (by kernel_rfl) (by kernel_rfl) (by kernel_rfl) (fun _ _ _ h => h) (Or.inl ⟨by rfl, ?_⟩) (by assumption) ?_
                rotate_left
                · ((intro w hSw; (try dsimp only at hSw); go_simp; (try rw [if_neg (by omega)])); try with_reducible rfl)
                (try simp only [Act.put, List.setIfInBounds_toArray, List.set_cons_zero, List.set_cons_succ])
                refine wpAnyH_take (i := 6) (oi := { dst := some 126, op := Op.move (Operand.tmp 16), type := 63, pos := "law.go:209", after := #[], guard := none }) (v := ?_) rfl (by kernel_rfl) (by kernel_rfl) (by kernel_rfl) (fun _ _ _ h => h) (Or.inl ⟨by rfl, ?_⟩) (by assumption) ?_
                rotate_left
                · ((intro w hSw; (try dsimp only at hSw); go_simp; (try rw [if_neg (by omega)])); try with_reducible rfl)
                (try simp only [Act.put, List.setIfInBounds_toArray, List.set_cons_zero, List.set_cons_succ])
                refine wpAnyH_take (i := 7) (oi := { dst := some 127, op := Op.fieldAddr 31 (Operand.tmp 13) 0, type := 0, pos := "law.go:209", after := #[], guard := none }) (v := ?_) rfl (by kernel_rfl) (by kernel_rfl) (by kernel_rfl) (fun _ _ _ h => h) (Or.inl ⟨by rfl, ?_⟩) (by assumption) ?_
                rotate_left
                · ((intro w hSw; (try dsimp only at hSw); go_simp; (try rw [if_neg (by omega)])); try with_reducible rfl)
                (try simp only [Act.put, List.setIfInBounds_toArray, List.set_cons_zero, List.set_cons_succ])
                refine wpAnyH_take (i := 8) (oi := { dst := some 128, op := Op.load 3 (Operand.tmp 127), type := 3, pos := "law.go:209", after := #[{ on := 7, ground := Ground.data }], guard := none }) (v := ?_) rfl (by kernel_rfl) (by kernel_rfl) (by kernel_rfl) (fun _ _ _ h => h) (Or.inl ⟨by rfl, ?_⟩) (by assumption) ?_
                rotate_left
                · ((intro w hSw; (try dsimp only at hSw); go_simp; (try rw [if_neg (by omega)])); try with_reducible rfl)
                (try simp only [Act.put, List.setIfInBounds_toArray, List.set_cons_zero, List.set_cons_succ])
                refine wpAnyH_take (i := 9) (oi := { dst := some 129, op := Op.binOp BinOp.shl 63 (Operand.tmp 126) (Operand.tmp 128) 3, type := 63, pos := "law.go:209", after := #[{ on := 6, ground := Ground.data }, { on := 8, ground := Ground.data }], guard := none }) (v := ?_) rfl (by kernel_rfl) (by kernel_rfl) (by kernel_rfl) (fun _ _ _ h => h) (Or.inl ⟨by rfl, ?_⟩) (by assumption) ?_
                rotate_left
                · ((intro w hSw; (try dsimp only at hSw); go_simp; (try rw [if_neg (by omega)])); try with_reducible rfl)
                (try simp only [Act.put, List.setIfInBounds_toArray, List.set_cons_zero, List.set_cons_succ])
                refine wpAnyH_take (i := 10) (oi := { dst := some 130, op := Op.binOp BinOp.andNot 63 (Operand.tmp 125) (Operand.tmp 129) 63, type := 63, pos := "law.go:209", after := #[{ on := 5, ground := Ground.data }, { on := 9, ground := Ground.data }], guard := none }) (v := ?_) rfl (by kernel_rfl) (by kernel_rfl) (by kernel_rfl) (fun _ _ _ h => h) (Or.inl ⟨by rfl, ?_⟩) (by assumption) ?_
                rotate_left
                · ((intro w hSw; (try dsimp only at hSw); go_simp; (try rw [if_neg (by omega)])); try with_reducible rfl)
                (try simp only [Act.put, List.setIfInBounds_toArray, List.set_cons_zero, List.set_cons_succ])
                refine wpAnyH_take (i := 11) (oi := { dst := some 131, op := Op.indexAddr 32 (Operand.tmp 120) (Operand.tmp 121), type := 0, pos := "law.go:209", after := #[{ on := 0, ground := Ground.data }, { on := 1, ground := Ground.data }, { on := 0, ground := Ground.phase }, { on := 1, ground := Ground.phase }, { on := 2, ground := Ground.phase }, { on := 3, ground := Ground.phase }, { on := 4, ground := Ground.phase }, { on := 5, ground := Ground.phase }, { on := 6, ground := Ground.phase }, { on := 7, ground := Ground.phase }, { on := 8, ground := Ground.phase }, { on := 9, ground := Ground.phase }, { on := 10, ground := Ground.phase }], guard := none }) (v := ?_) rfl (by kernel_rfl) (by kernel_rfl) (by kernel_rfl) (fun _ _ _ h => h) (Or.inl ⟨by rfl, ?_⟩) (by assumption) ?_
                rotate_left
                · ((intro w hSw; (try dsimp only at hSw); go_simp; (try rw [if_neg (by omega)])); try with_reducible rfl)
                (try simp only [Act.put, List.setIfInBounds_toArray, List.set_cons_zero, List.set_cons_succ])
                refine wpAnyH_done (by kernel_rfl) ?_ _
                show Oper.wp _ _ _ _ _ _
                clear hHeld
                have hc3 := HKD.out.2.2
                have hc4 := HKD.out.1
                go_simp
                go_wp2
                go_roundw
                case rel => exact ⟨p + 1, a2, R.set p o, by go_num, rfl, by omega, by omega, Lib.hid ⟨HRZ.out.set p o, HNX.out⟩, Lib.hid (HFZ.out.trans (FrS.set (S := fun q => q = Q) wz2.drew (b := Q) (i := p) rfl (U6 o)))⟩
                case measure => simp [intOf]; omega
              · have n5 : ¬ (i1 : Int) = 0 := by omega
                clear h0
                go_upto_region 25 with fail
                have hdr := Below.drew (Below.refl wz2.heap.size wz2)
                have HRZ := Lib.hid (HRR.out.1.below (bnext HBz2.out hdr))
                have HFZ := Lib.hid (HFI.out.trans (FrS.of (bnext HBz2.out hdr)))
                have HKD := Lib.hid (And.intro (HRZ.out.cell HRP.out) (And.intro (HKY.out _ HFZ.out).1 (HRZ.out.froz p)))
                clear y0 y1 y2 y3 hdr
                refine wp_region_last #[{ dst := some 120, op := Op.move (Operand.tmp 9), type := 32, pos := "law.go:209", after := #[], guard := none }, { dst := some 121, op := Op.move (Operand.tmp 15), type := 3, pos := "law.go:209", after := #[], guard := none }, { dst := some 122, op := Op.move (Operand.tmp 9), type := 32, pos := "law.go:209", after := #[], guard := none }, { dst := some 123, op := Op.move (Operand.tmp 15), type := 3, pos := "law.go:209", after := #[], guard := none }, { dst := some 124, op := Op.indexAddr 32 (Operand.tmp 122) (Operand.tmp 123), type := 0, pos := "law.go:209", after := #[{ on := 2, ground := Ground.data }, { on := 3, ground := Ground.data }], guard := none }, { dst := some 125, op := Op.load 63 (Operand.tmp 124), type := 63, pos := "law.go:209", after := #[{ on := 4, ground := Ground.data }], guard := none }, { dst := some 126, op := Op.move (Operand.tmp 16), type := 63, pos := "law.go:209", after := #[], guard := none }, { dst := some 127, op := Op.fieldAddr 31 (Operand.tmp 13) 0, type := 0, pos := "law.go:209", after := #[], guard := none }, { dst := some 128, op := Op.load 3 (Operand.tmp 127), type := 3, pos := "law.go:209", after := #[{ on := 7, ground := Ground.data }], guard := none }, { dst := some 129, op := Op.binOp BinOp.shl 63 (Operand.tmp 126) (Operand.tmp 128) 3, type := 63, pos := "law.go:209", after := #[{ on := 6, ground := Ground.data }, { on := 8, ground := Ground.data }], guard := none }, { dst := some 130, op := Op.binOp BinOp.andNot 63 (Operand.tmp 125) (Operand.tmp 129) 63, type := 63, pos := "law.go:209", after := #[{ on := 5, ground := Ground.data }, { on := 9, ground := Ground.data }], guard := none }, { dst := some 131, op := Op.indexAddr 32 (Operand.tmp 120) (Operand.tmp 121), type := 0, pos := "law.go:209", after := #[{ on := 0, ground := Ground.data }, { on := 1, ground := Ground.data }, { on := 0, ground := Ground.phase }, { on := 1, ground := Ground.phase }, { on := 2, ground := Ground.phase }, { on := 3, ground := Ground.phase }, { on := 4, ground := Ground.phase }, { on := 5, ground := Ground.phase }, { on := 6, ground := Ground.phase }, { on := 7, ground := Ground.phase }, { on := 8, ground := Ground.phase }, { on := 9, ground := Ground.phase }, { on := 10, ground := Ground.phase }], guard := none }] { dst := none, op := Op.store 63 (Operand.tmp 131) (Operand.tmp 130), type := 0, pos := "law.go:209", after := #[{ on := 11, ground := Ground.data }, { on := 10, ground := Ground.data }, { on := 0, ground := Ground.phase }, { on := 1, ground := Ground.phase }, { on := 2, ground := Ground.phase }, { on := 3, ground := Ground.phase }, { on := 4, ground := Ground.phase }, { on := 5, ground := Ground.phase }, { on := 6, ground := Ground.phase }, { on := 7, ground := Ground.phase }, { on := 8, ground := Ground.phase }, { on := 9, ground := Ground.phase }, { on := 10, ground := Ground.phase }], guard := none } rfl (by kernel_rfl) (by kernel_rfl) ((fun w' => w'.cell? ⟨Q, p, none⟩ = some (U6 rp) ∧ w'.cell? ⟨X, 0, none⟩ = some (.int .i64 (x : Int)) ∧ w'.frozen? ⟨Q, p, none⟩ = false)) ?_ (fun hHeld => ?_)
                · exact HKD.out
                refine wpAnyH_take (i := 0) (oi := { dst := some 120, op := Op.move (Operand.tmp 9), type := 32, pos := "law.go:209", after := #[], guard := none }) (v := ?_) rfl (by kernel_rfl) (by kernel_rfl) (by kernel_rfl) (fun _ _ _ h => h) (Or.inl ⟨by rfl, ?_⟩) (by assumption) ?_
                rotate_left
                · ((intro w hSw; (try dsimp only at hSw); go_simp; (try rw [if_neg (by omega)])); try with_reducible rfl)
                (try simp only [Act.put, List.setIfInBounds_toArray, List.set_cons_zero, List.set_cons_succ])
                refine wpAnyH_take (i := 1) (oi := { dst := some 121, op := Op.move (Operand.tmp 15), type := 3, pos := "law.go:209", after := #[], guard := none }) (v := ?_) rfl (by kernel_rfl) (by kernel_rfl) (by kernel_rfl) (fun _ _ _ h => h) (Or.inl ⟨by rfl, ?_⟩) (by assumption) ?_
                rotate_left
                · ((intro w hSw; (try dsimp only at hSw); go_simp; (try rw [if_neg (by omega)])); try with_reducible rfl)
                (try simp only [Act.put, List.setIfInBounds_toArray, List.set_cons_zero, List.set_cons_succ])
                refine wpAnyH_take (i := 2) (oi := { dst := some 122, op := Op.move (Operand.tmp 9), type := 32, pos := "law.go:209", after := #[], guard := none }) (v := ?_) rfl (by kernel_rfl) (by kernel_rfl) (by kernel_rfl) (fun _ _ _ h => h) (Or.inl ⟨by rfl, ?_⟩) (by assumption) ?_
                rotate_left
                · ((intro w hSw; (try dsimp only at hSw); go_simp; (try rw [if_neg (by omega)])); try with_reducible rfl)
                (try simp only [Act.put, List.setIfInBounds_toArray, List.set_cons_zero, List.set_cons_succ])
                refine wpAnyH_take (i := 3) (oi := { dst := some 123, op := Op.move (Operand.tmp 15), type := 3, pos := "law.go:209", after := #[], guard := none }) (v := ?_) rfl (by kernel_rfl) (by kernel_rfl) (by kernel_rfl) (fun _ _ _ h => h) (Or.inl ⟨by rfl, ?_⟩) (by assumption) ?_
                rotate_left
                · ((intro w hSw; (try dsimp only at hSw); go_simp; (try rw [if_neg (by omega)])); try with_reducible rfl)
                (try simp only [Act.put, List.setIfInBounds_toArray, List.set_cons_zero, List.set_cons_succ])
                refine wpAnyH_take (i := 4) (oi := { dst := some 124, op := Op.indexAddr 32 (Operand.tmp 122) (Operand.tmp 123), type := 0, pos := "law.go:209", after := #[{ on := 2, ground := Ground.data }, { on := 3, ground := Ground.data }], guard := none }) (v := ?_) rfl (by kernel_rfl) (by kernel_rfl) (by kernel_rfl) (fun _ _ _ h => h) (Or.inl ⟨by rfl, ?_⟩) (by assumption) ?_
                rotate_left
                · ((intro w hSw; (try dsimp only at hSw); go_simp; (try rw [if_neg (by omega)])); try with_reducible rfl)
                (try simp only [Act.put, List.setIfInBounds_toArray, List.set_cons_zero, List.set_cons_succ])
                refine wpAnyH_take (i := 5) (oi := { dst := some 125, op := Op.load 63 (Operand.tmp 124), type := 63, pos := "law.go:209", after := #[{ on := 4, ground := Ground.data }], guard := none }) (v := ?_) rfl (by kernel_rfl) (by kernel_rfl) (by kernel_rfl) (fun _ _ _ h => h) (Or.inl ⟨by rfl, ?_⟩) (by assumption) ?_
                rotate_left
                · ((intro w hSw; (try dsimp only at hSw); go_simp; (try rw [if_neg (by omega)])); try with_reducible rfl)
                (try simp only [Act.put, List.setIfInBounds_toArray, List.set_cons_zero, List.set_cons_succ])
                refine wpAnyH_take (i := 6) (oi := { dst := some 126, op := Op.move (Operand.tmp 16), type := 63, pos := "law.go:209", after := #[], guard := none }) (v := ?_) rfl (by kernel_rfl) (by kernel_rfl) (by kernel_rfl) (fun _ _ _ h => h) (Or.inl ⟨by rfl, ?_⟩) (by assumption) ?_
                rotate_left
                · ((intro w hSw; (try dsimp only at hSw); go_simp; (try rw [if_neg (by omega)])); try with_reducible rfl)
                (try simp only [Act.put, List.setIfInBounds_toArray, List.set_cons_zero, List.set_cons_succ])
                refine wpAnyH_take (i := 7) (oi := { dst := some 127, op := Op.fieldAddr 31 (Operand.tmp 13) 0, type := 0, pos := "law.go:209", after := #[], guard := none }) (v := ?_) rfl (by kernel_rfl) (by kernel_rfl) (by kernel_rfl) (fun _ _ _ h => h) (Or.inl ⟨by rfl, ?_⟩) (by assumption) ?_
                rotate_left
                · ((intro w hSw; (try dsimp only at hSw); go_simp; (try rw [if_neg (by omega)])); try with_reducible rfl)
                (try simp only [Act.put, List.setIfInBounds_toArray, List.set_cons_zero, List.set_cons_succ])
                refine wpAnyH_take (i := 8) (oi := { dst := some 128, op := Op.load 3 (Operand.tmp 127), type := 3, pos := "law.go:209", after := #[{ on := 7, ground := Ground.data }], guard := none }) (v := ?_) rfl (by kernel_rfl) (by kernel_rfl) (by kernel_rfl) (fun _ _ _ h => h) (Or.inl ⟨by rfl, ?_⟩) (by assumption) ?_
                rotate_left
                · ((intro w hSw; (try dsimp only at hSw); go_simp; (try rw [if_neg (by omega)])); try with_reducible rfl)
                (try simp only [Act.put, List.setIfInBounds_toArray, List.set_cons_zero, List.set_cons_succ])
                refine wpAnyH_take (i := 9) (oi := { dst := some 129, op := Op.binOp BinOp.shl 63 (Operand.tmp 126) (Operand.tmp 128) 3, type := 63, pos := "law.go:209", after := #[{ on := 6, ground := Ground.data }, { on := 8, ground := Ground.data }], guard := none }) (v := ?_) rfl (by kernel_rfl) (by kernel_rfl) (by kernel_rfl) (fun _ _ _ h => h) (Or.inl ⟨by rfl, ?_⟩) (by assumption) ?_
                rotate_left
                · ((intro w hSw; (try dsimp only at hSw); go_simp; (try rw [if_neg (by omega)])); try with_reducible rfl)
                (try simp only [Act.put, List.setIfInBounds_toArray, List.set_cons_zero, List.set_cons_succ])
                refine wpAnyH_take (i := 10) (oi := { dst := some 130, op := Op.binOp BinOp.andNot 63 (Operand.tmp 125) (Operand.tmp 129) 63, type := 63, pos := "law.go:209", after := #[{ on := 5, ground := Ground.data }, { on := 9, ground := Ground.data }], guard := none }) (v := ?_) rfl (by kernel_rfl) (by kernel_rfl) (by kernel_rfl) (fun _ _ _ h => h) (Or.inl ⟨by rfl, ?_⟩) (by assumption) ?_
                rotate_left
                · ((intro w hSw; (try dsimp only at hSw); go_simp; (try rw [if_neg (by omega)])); try with_reducible rfl)
                (try simp only [Act.put, List.setIfInBounds_toArray, List.set_cons_zero, List.set_cons_succ])
                refine wpAnyH_take (i := 11) (oi := { dst := some 131, op := Op.indexAddr 32 (Operand.tmp 120) (Operand.tmp 121), type := 0, pos := "law.go:209", after := #[{ on := 0, ground := Ground.data }, { on := 1, ground := Ground.data }, { on := 0, ground := Ground.phase }, { on := 1, ground := Ground.phase }, { on := 2, ground := Ground.phase }, { on := 3, ground := Ground.phase }, { on := 4, ground := Ground.phase }, { on := 5, ground := Ground.phase }, { on := 6, ground := Ground.phase }, { on := 7, ground := Ground.phase }, { on := 8, ground := Ground.phase }, { on := 9, ground := Ground.phase }, { on := 10, ground := Ground.phase }], guard := none }) (v := ?_) rfl (by kernel_rfl) (by kernel_rfl) (by kernel_rfl) (fun _ _ _ h => h) (Or.inl ⟨by rfl, ?_⟩) (by assumption) ?_
                rotate_left
                · ((intro w hSw; (try dsimp only at hSw); go_simp; (try rw [if_neg (by omega)])); try with_reducible rfl)
                (try simp only [Act.put, List.setIfInBounds_toArray, List.set_cons_zero, List.set_cons_succ])
                refine wpAnyH_done (by kernel_rfl) ?_ _
                show Oper.wp _ _ _ _ _ _
                clear hHeld
                have hc3 := HKD.out.2.2
                have hc4 := HKD.out.1
                go_simp
                go_wp2
                go_roundw
                case rel => exact ⟨p + 1, a2, R.set p o, by go_num, rfl, by omega, by omega, Lib.hid ⟨HRZ.out.set p o, HNX.out⟩, Lib.hid (HFZ.out.trans (FrS.set (S := fun q => q = Q) wz2.drew (b := Q) (i := p) rfl (U6 o)))⟩
                case measure => simp [intOf]; omega
            · have hpz : ¬ (p : Int) < (e : Int) := by omega
              obtain rfl : e = p := by omega
              clear hpe
              obtain ⟨hcv, hb0, hbw⟩ := cov_last HRR.out.2 HE.out.1 HTG.out
              obtain ⟨m, hm⟩ : ∃ m : Nat, cw - 1 = m := ⟨_, rfl⟩
              have hm1 : (cw : Int) - 1 = (m : Int) := by have := HWI.out.1; omega
              have hm2 : IntKind.i64.wrap (m : Int) = (m : Int) := IntWalk.i64_in _ (by have := HWI.out.1; have := HPW.out; omega)
              have hm3 : (0 : Int) ≤ (m : Int) := by omega
              rw [hm] at hbw
              have q1 := bit_and a 0 HRR.out.2.alt hb0
              rw [Nat.pow_zero, Nat.div_one] at q1
              have q2 := bit_and a m HRR.out.2.alt hbw
              have q3 := shr_val a m
              have q4 : min m 64 = m := by have := HWI.out.1; have := HPW.out; omega
              obtain ⟨qq, hqq⟩ : ∃ qq, a / 2 ^ m = qq := ⟨_, rfl⟩
              rw [hqq] at q2 q3
              have HCV := Lib.hid hcv
              clear hqq hm hb0 hbw hcv
              go_upto_region 28 with fail
              clear q1 q2 q3 q4 hm1 hm2 hm3 y0 y1 y2 y3
              go_wp2
              go_roundw
              case rel => exact ⟨k + 1, e, R, by go_num, rfl, by omega, by have := HE.out; have := HPW.out; omega, Lib.hid (fun c hc => by have h1 := ord_next HO.out HR.out hc; have h2 := HE.out.1; dsimp only at h1; omega), Lib.hid ⟨HRR.out.1, by rw [List.take_add_one, HR.out]; exact HCV.out⟩, Lib.hid (HFY.out.trans HFI.out)⟩
              case measure => simp [intOf]; omega
        · have hkz : ¬ (k : Int) < (NP : Int) := by omega
          obtain rfl : NP = k := by omega
          clear hkN hk
          have hce : R = List.replicate ph 0 := by
            have h1 := HRR.out.2
            rw [List.take_of_length_le (by rw [HNP.out]; exact Nat.le_refl _)] at h1
            have h2 := cov_all (A := OL) (B := NX) (w := pw) (m := mo) (by have := HPW.out; omega) (HA.out.len.trans HN.out.len.symm) HA.out.lt HN.out.lt (by have := HPW.out; omega) (by rw [HD.out, HPE.out]; exact h1)
            rw [HOL.out] at h2
            exact h2
          have HBr := Lib.hid (HFR.out.below w HB8.out (fun q hq => by rw [hq]; exact HQW.out))
          have HRR2 := Lib.hid HRR.out.1
          clear HRR
          subst hce
          have hmk := make_u64 wr ph (by have := HPW.out; omega)
          have hum := ua_made wr ph
          have hb1 := balloc (Below.refl _ wr) (.cells ((List.replicate ph (0 : Nat)).map U6).toArray 63)
          have hsm := same_any (.slice (some ⟨Q, 0, none⟩) ph ph) _ (List.replicate ph 0) (List.replicate ph 0) (wr.alloc (.cells ((List.replicate ph (0 : Nat)).map U6).toArray 63)) ((HRR2.out.below hb1).ua (by simp)) hum (by have := HPW.out; rw [List.length_replicate]; omega) (by have := HPW.out; rw [List.length_replicate]; omega)
          rw [decide_eq_true rfl] at hsm
          obtain ⟨w9, hw9⟩ : ∃ w9, wr.alloc (.cells ((List.replicate ph (0 : Nat)).map U6).toArray 63) = w9 := ⟨_, rfl⟩
          obtain ⟨Y, hY⟩ : ∃ Y, wr.heap.size = Y := ⟨_, rfl⟩
          rw [hw9] at hmk hsm hb1
          rw [hY] at hmk hsm
          have HB9 := Lib.hid (bnext HBr.out hb1)
          have HC := Lib.hid hsm
          clear hsm hum hb1 hw9 hY
          go_wp2_with fail
          go_at_call 15
          refine HC.out.mono ?_
          rintro u we ⟨rfl, ke⟩
          have HBe := Lib.hid (bnext HB9.out ke)
          clear HC ke hmk
          go_wp2
          go_ret
          exact ⟨rfl, HBe.out⟩

set_option maxRecDepth 100000 in
theorem lifted (os : Os) (started : os.Started) (H : Type) (enc : TypeId × Value → H) :
    ReturnsInHanded {} Tryd.checked os 8 .any (fun w args => (Rows.panelCoversSpec.pre enc Tryd.prog Tryd.f8 [] false w args ∧ laidMetH Tryd.prog laidL w) ∧ sizedMet enc Tryd.prog Tryd.f8 (OpenSpec.ofChange Rows.panelCoversSpec) false w args)
      (Rows.panelCoversSpec.post enc Tryd.prog Tryd.f8 false true false false) := by
  refine returnsInHanded_of_change_and (C := Tryd.checked) (X := fun w _ => laidMetH Tryd.prog laidL w) (fun _ _ _ hh h => h.of_heap hh) own started (by kernel_rfl) Tryd.func8
    (ChangeSpec.witness_shaped (enc := enc) (C := Tryd.checked) (os := os) (X := fun w _ => laidMetH Tryd.prog laidL w) false (World.doorLaid Tryd.prog 46 os) #[.agg #[.int .u8 0, .int .u8 0, .slice none 0 0, .slice none 0 0, .int .u8 0]] 8 rfl (World.shaped_of_RefB (by kernel_rfl) (by kernel_rfl)) (by kernel_rfl) (by kernel_rfl) (by kernel_rfl) (door_met os _)) ?_
  intro W base args ds gs before hval0 hW _ _ hL _
  have hval : ∀ (j : Nat) t v, Tryd.f8.params[j]? = some t → args[j]? = some v → Value.okWide Tryd.prog W .any base t v := hval0
  have hW' := hW
  obtain ⟨p, q, hA0, hV, rfl, hfz, hnd⟩ := hW
  have hA : DataW.TrodAll enc Tryd.prog W 0 (fun _ => true) true Tryd.f8.params.toList args.toList ds p := hA0
  rw [Tryd.params8] at hA hval
  obtain ⟨v0, vs0, d0, ds0, p0, q0, hargs, rfl, rfl, h0, r0⟩ := trodAll_cons hA
  obtain ⟨rfl, rfl, rfl⟩ := trodAll_nil r0
  obtain rfl : args = #[v0] := by cases args; simp_all
  obtain ⟨rfl, rfl⟩ := trodVars_none hV
  obtain ⟨g, hlaid⟩ := of_laid hL
  have k0 := h0
  have lt0 : ∀ x ∈ p0, x.block < W.heap.size := by obtain ⟨m, hm⟩ := k0; exact DataW.trod_lt m _ _ _ hm
  obtain ⟨a0, b0, c0, p0, q0, l0, m0, rfl, H0⟩ := open_case (hval 0 53 v0 rfl rfl) h0
  clear hA0 hval0
  refine (walk a0 b0 c0 p0 q0 l0 m0 g  W hlaid H0).mono fun e W' ⟨he, bel⟩ => ?_
  subst he
  exact ⟨_, rfl, _, _, _, [], _, [], hW', trodAll_mk1 (shut_bool Tryd.underlying4 _), (trodAll_cons_mk (Below.trod laidOut (by kernel_rfl) (of_decide_eq_true (by kernel_rfl)) k0 bel lt0) trodAll_mk0), rfl, bel.frame _, fun h => by cases h⟩

theorem over : Rows.panelCoversRow.holds Tryd.pinned (OpenSpec.ofChange Rows.panelCoversSpec) :=
  OpenClaim.holds_of_wide 8 Tryd.f8 rfl rfl rfl rfl rfl rfl rfl ⟨rfl, rfl, rfl, rfl, rfl⟩ rfl rfl rfl rfl rfl (by kernel_rfl) Tryd.func8 (by kernel_rfl)
    (of_decide_eq_true (by kernel_rfl)) (by unfold Func.isWrapper; first | (rw [if_pos (by decide +kernel)]; kernel_rfl) | (rw [if_neg (by decide +kernel)]; exact ⟨rfl, rfl⟩))
    (fun os started H enc _ => lifted os started H enc)

/-- The row's card, tied to the program's text. -/
theorem card : Rows.PanelCoversCardSaid :=
  Claim7.holds_tied_plain_at .later [] [.data] true Rows.panelCoversCard.stood.harness false
    over (fun _ h => by cases h) (by kernel_rfl) (fun _ h => by cases h) panelCovers_row_tie rfl ⟨rfl, rfl⟩ (by kernel_rfl) rfl
    (fun f fn hf hfn => by
      obtain rfl : f = 8 := Option.some.inj ((show Tryd.prog.funcNamed "abugida/abugidalaw33.PanelCovers" = some 8 by kernel_rfl).symm.trans hf) |>.symm
      obtain rfl : fn = Tryd.f8 := (Option.some.inj (Tryd.func8.symm.trans hfn)).symm
      exact ⟨by kernel_rfl, fun j t ht => by
        rw [Tryd.params8] at ht
        have hm : t ∈ [53] := by simpa using Array.mem_of_getElem? ht
        have hall : ([53].all fun u => !Tryd.prog.wantsStandIn u) = true := by kernel_rfl
        exact (show Tryd.prog.wantsStandIn t = false by simpa using List.all_eq_true.1 hall t hm)⟩)
    (by kernel_rfl)

end Go.Proofs.YtmiennkldkcnfaaDoor.panelCovers
namespace Go.Proofs.YtmiennkldkcnfaaDoor
theorem panelCovers_proved : Rows.PanelCoversCardSaid := panelCovers.card
#print axioms panelCovers_proved
end Go.Proofs.YtmiennkldkcnfaaDoor
