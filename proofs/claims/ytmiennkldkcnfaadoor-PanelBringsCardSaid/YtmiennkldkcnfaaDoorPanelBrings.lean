/- For every case PanelBrings returns true: what is planned brings a panel from one page to the next one, with no more updates than are permitted. No conditions. -/
import Derived.Test.YtmiennkldkcnfaaDoorPn40
import Derived.Test.YtmiennkldkcnfaaDoorPn36
import Derived.Test.YtmiennkldkcnfaaDoorPn32
import Derived.Test.YtmiennkldkcnfaaDoorPn33
import Derived.Test.YtmiennkldkcnfaaDoorPnLaid
namespace Go.Proofs.YtmiennkldkcnfaaDoor.panelBrings
open Go.ChangeShapes Go.WideShapes Go.ChangeAt Go.RowKit Go.Joins Go.Deep
set_option linter.unusedVariables false

set_option maxRecDepth 100000 in
set_option maxHeartbeats 8000000 in
theorem walk (a0 : Int) (b0 : Int) (c0 : Int) (p0 : Value) (q0 : Value) (l0 : List Nat) (m0 : List Nat) (g : Nat × Nat)  (w : World) (hl : Laid w g) (H0 : ((0 ≤ a0 ∧ a0 ≤ 255) ∧ (0 ≤ b0 ∧ b0 ≤ 255) ∧ (0 ≤ c0 ∧ c0 ≤ 255)) ∧ UsArg w p0 l0 ∧ UsArg w q0 m0) :
    Calls Tryd.prog 6 #[.agg #[.int .u8 a0, .int .u8 b0, p0, q0, .int .u8 c0]] w fun e w' => e = .returned (.bool true) ∧ Below w.heap.size w w' := by
  have HLD := Lib.hid hl
  clear hl
  obtain ⟨⟨hba, hbb, hbc⟩, hus, hus2⟩ := H0
  obtain ⟨pa, pc, rfl⟩ := hus.ua.shape
  obtain ⟨qa, qc, rfl⟩ := hus2.ua.shape
  have HU1 := Lib.hid hus
  have HU2 := Lib.hid hus2
  clear hus hus2
  obtain ⟨pw, hpw⟩ : ∃ pw : Nat, 1 + a0 % 64 = (pw : Int) := ⟨(1 + a0 % 64).toNat, by omega⟩
  obtain ⟨ph, hph⟩ : ∃ ph : Nat, 1 + b0 % 64 = (ph : Int) := ⟨(1 + b0 % 64).toNat, by omega⟩
  obtain ⟨mo, hmo⟩ : ∃ mo : Nat, 1 + c0 % 9 = (mo : Int) := ⟨(1 + c0 % 9).toNat, by omega⟩
  have HPW : Hid (1 ≤ pw ∧ pw ≤ 64 ∧ 1 ≤ ph ∧ ph ≤ 64 ∧ 1 ≤ mo ∧ mo ≤ 9) := Lib.hid (by omega)
  have HEQ := Lib.hid (And.intro (And.intro hba (And.intro hbb hbc)) (And.intro hpw (And.intro hph hmo)))
  clear hba hbb hbc hpw hph hmo
  obtain ⟨B, hB⟩ : ∃ B, w.heap.size = B := ⟨_, rfl⟩
  have hx1 := heap_alloc_new w (.cells #[.int .u8 a0, .int .u8 b0, .slice pa l0.length pc, .slice qa m0.length qc, .int .u8 c0] 53)
  have hb1 := balloc (Below.refl _ w) (.cells #[.int .u8 a0, .int .u8 b0, .slice pa l0.length pc, .slice qa m0.length qc, .int .u8 c0] 53)
  obtain ⟨w1, hw1⟩ : ∃ w1, w.alloc (.cells #[.int .u8 a0, .int .u8 b0, .slice pa l0.length pc, .slice qa m0.length qc, .int .u8 c0] 53) = w1 := ⟨_, rfl⟩
  rw [hw1, hB] at hx1
  rw [hw1] at hb1
  have HB1 := Lib.hid hb1
  have HX1 := Lib.hid hx1
  have HCX : Hid (∀ U, Below w1.heap.size w1 U → U.cell? ⟨B, 0, none⟩ = some (.int .u8 a0) ∧ U.cell? ⟨B, 1, none⟩ = some (.int .u8 b0) ∧ U.cell? ⟨B, 2, none⟩ = some (.slice pa l0.length pc) ∧ U.cell? ⟨B, 3, none⟩ = some (.slice qa m0.length qc) ∧ U.cell? ⟨B, 4, none⟩ = some (.int .u8 c0)) := Lib.hid fun U hU => by
    have h1 := (hU.block B (Array.getElem?_eq_some_iff.1 HX1.out).1).trans HX1.out
    exact ⟨nd_cell h1 rfl, nd_cell h1 rfl, nd_cell h1 rfl, nd_cell h1 rfl, nd_cell h1 rfl⟩
  clear hx1 hb1
  go_enter Tryd.func6, Tryd.ntmps6
  go_upto_region 1 with fail
  try rw [hw1]
  try rw [hB]
  clear hw1 hB
  have HC := Lib.hid (sanity_any _ g (HLD.out.mono HB1.out))
  go_wp2_with fail
  go_at_call 11
  refine HC.out.mono ?_
  rintro e w3 ⟨rfl, k3⟩
  clear HC
  have HB3 := Lib.hid (bnext HB1.out k3)
  have HC3 := Lib.hid k3
  clear k3
  
  obtain ⟨x0, x1, x2, x3, x4⟩ := HCX.out w3 HC3.out
  go_upto_region 2 with fail
  have HC := Lib.hid (sizes_any w3 a0 b0 c0 (.slice pa l0.length pc) (.slice qa m0.length qc) pw ph HEQ.out.1.1 HEQ.out.1.2.1 HEQ.out.2.1 HEQ.out.2.2.1)
  go_wp2_with fail
  go_at_call 27
  refine HC.out.mono ?_
  rintro e w4 ⟨rfl, k4⟩
  clear HC
  have HB4 := Lib.hid (bnext HB3.out k4)
  have HC4 := Lib.hid (bnext HC3.out k4)
  clear k4
  
  clear x0 x1 x2 x3 x4
  obtain ⟨x0, x1, x2, x3, x4⟩ := HCX.out w4 HC4.out
  go_upto_region 3 with fail
  have HC := Lib.hid (rows_any w4 a0 b0 c0 pa qa pc qc l0 m0 pw ph HEQ.out.1.1 HEQ.out.1.2.1 HEQ.out.2.1 HEQ.out.2.2.1 (HU1.out.keep HB4.out) (HU2.out.keep HB4.out))
  go_wp2_with fail
  go_at_call 28
  refine HC.out.mono ?_
  rintro e w5 ⟨r1, r2, rfl, ko1, ko2, k5⟩
  clear HC
  
  obtain ⟨ga, ca, rfl, hga⟩ := pg_of ko1 (by have := HPW.out; omega) mkRow_lt
  obtain ⟨gb, cb, rfl, hgb⟩ := pg_of ko2 (by have := HPW.out; omega) mkRow_lt
  obtain ⟨OL, hOL⟩ : ∃ OL, mkRow l0 pw ph = OL := ⟨_, rfl⟩
  obtain ⟨NX, hNX⟩ : ∃ NX, mkRow m0 pw ph = NX := ⟨_, rfl⟩
  rw [hOL] at hga
  rw [hNX] at hgb
  have HA := Lib.hid hga
  have HN := Lib.hid hgb
  have HB5 := Lib.hid (bnext HB4.out k5)
  have HC5 := Lib.hid (bnext HC4.out k5)
  clear k5 hga hgb hOL hNX ko1 ko2 x0 x1 x2 x3 x4
  obtain ⟨x0, x1, x2, x3, x4⟩ := HCX.out w5 HC5.out
  have e1 : IntKind.i64.wrap c0 = c0 := IntWalk.i64_in _ (by have := HEQ.out.1.2.2; omega)
  have e3 : c0.tmod 9 = c0 % 9 := Int.tmod_eq_emod_of_nonneg HEQ.out.1.2.2.1
  have e5 : IntKind.i64.wrap (mo : Int) = (mo : Int) := IntWalk.i64_in _ (by have := HPW.out; omega)
  have e6 := HEQ.out.2.2.2
  go_upto_region 5 with fail
  clear e1 e3 e6 x0 x1 x2 x3 x4
  have HC := Lib.hid (shows_any w5 pw ph _ ca OL (by have := HPW.out; omega) (by have := HPW.out; omega) (by have := HPW.out; omega) (by have := HPW.out; omega) HA.out.len HA.out.lt HA.out.ua (fun q hq => by have e : ga = q := Option.some.inj hq; rw [← e]; exact HA.out.hi))
  go_wp2_with fail
  go_at_call 29
  refine HC.out.mono ?_
  rintro e w6 ⟨b, gg, rfl, kp, kb1, kg1, k6⟩
  clear HC
  
  have hok : PnOk ⟨pw, OL, 1, false, 0⟩ := ⟨by have := HPW.out; dsimp only; omega, by have := HPW.out; dsimp only; omega, by have := HPW.out; have := HA.out.len; dsimp only; omega, by have := HPW.out; have := HA.out.len; dsimp only; omega, HA.out.lt, by dsimp only; omega, by dsimp only; omega⟩
  have HP6 := Lib.hid (And.intro kp hok)
  have HK6 := Lib.hid (And.intro kb1 kg1)
  have HB6 := Lib.hid (bnext HB5.out k6)
  have HA6 := Lib.hid (HA.out.keep k6)
  have HN6 := Lib.hid (HN.out.keep k6)
  clear kp kb1 kg1 k6 hok
  go_upto_region 6 with fail
  have HC := Lib.hid (pixels_any HP6.out.1 HP6.out.2)
  go_wp2_with fail
  go_at_call 16
  refine HC.out.mono ?_
  rintro e w7 ⟨v7, rfl, ko, k7⟩
  clear HC
  
  have hsm := same_any v7 _ OL OL w7 (own_ua ko) (HA6.out.keep k7).ua (by have := HPW.out; have := HA.out.len; omega) (by have := HPW.out; have := HA.out.len; omega)
  rw [decide_eq_true rfl] at hsm
  have HB7 := Lib.hid (bnext HB6.out k7)
  have HA7 := Lib.hid (HA6.out.keep k7)
  have HN7 := Lib.hid (HN6.out.keep k7)
  have HP7 := Lib.hid (And.intro (HP6.out.1.below k7) HP6.out.2)
  clear ko k7
  have HC := Lib.hid (hsm)
  go_wp2_with fail
  go_at_call 15
  refine HC.out.mono ?_
  rintro e w8 ⟨rfl, k8⟩
  clear HC
  clear hsm
  
  have HB8 := Lib.hid (bnext HB7.out k8)
  have HA8 := Lib.hid (HA7.out.keep k8)
  have HN8 := Lib.hid (HN7.out.keep k8)
  have HP8 := Lib.hid (And.intro (HP7.out.1.below k8) HP7.out.2)
  clear k8
  go_upto_region 8 with fail
  have HPF := Lib.hid (plan_facts mo (by have := HPW.out; omega) (HA.out.len.trans HN.out.len.symm) HA.out.lt HN.out.lt (by have := HPW.out; omega))
  have hpe : planP OL NX (pw : Int) (mo : Int) = PN.plan OL NX pw mo := by
    unfold planP
    rw [if_pos (by unfold planOk; have := HPW.out; have := HA.out.len; have := HN.out.len; omega), Int.toNat_natCast, Int.toNat_natCast]
  have hpl := plan_any w8 g (HLD.out.mono HB8.out) _ _ OL NX (pw : Int) (mo : Int) HA8.out.ua HN8.out.ua (by have := HPW.out; have := HA.out.len; omega) (by have := HPW.out; have := HN.out.len; omega) (by have := HPW.out; omega) (HA.out.lt64 (by have := HPW.out; omega)) (HN.out.lt64 (by have := HPW.out; omega))
  rw [hpe] at hpl
  have HPB := Lib.hid (plan_brings mo (by have := HPW.out; omega) (HA.out.len.trans HN.out.len.symm) HA.out.lt HN.out.lt (by have := HPW.out; omega))
  obtain ⟨PL, hPL⟩ : ∃ PL, PN.plan OL NX pw mo = PL := ⟨_, rfl⟩
  rw [hPL] at hpl HPF HPB
  clear hPL hpe
  have HC := Lib.hid (hpl)
  go_wp2_with fail
  go_at_call 22
  refine HC.out.mono ?_
  rintro e w9 ⟨vp, rfl, ko, k9⟩
  clear HC
  clear hpl
  
  obtain ⟨pa', pc', rfl⟩ := own_shape ko
  have HPL := Lib.hid ko
  have HPO : Hid (∀ q, (Value.slice pa' PL.length pc').ownBlock = some q → w8.heap.size ≤ q) := Lib.hid fun q hq => by
    rcases ko.2 with ⟨h1, h2⟩ | ⟨g', cap, cur, h1, h2, -⟩
    · rw [h1] at hq; cases hq
    · rw [h1] at hq
      have : g' = q := Option.some.inj hq
      omega
  have HB9 := Lib.hid (bnext HB8.out k9)
  have HN9 := Lib.hid (HN8.out.keep k9)
  have HP0 : Hid (PnAt w9 b gg ⟨pw, ovls OL NX (PL.take 0), 1 + 0, false, 0⟩ ∧ PnOk ⟨pw, ovls OL NX (PL.take 0), 1 + 0, false, 0⟩) := Lib.hid ⟨HP8.out.1.below k9, HP8.out.2⟩
  have HBG : Hid (b < w8.heap.size ∧ gg < w8.heap.size ∧ b < w9.heap.size ∧ gg < w9.heap.size) := Lib.hid (by
    have h1 := (Array.getElem?_eq_some_iff.1 HP8.out.1.hd).1
    have h2 := (Array.getElem?_eq_some_iff.1 HP8.out.1.row).1
    have h3 := k9.size
    omega)
  have HGB : Hid (gb < b ∧ gb < gg) := Lib.hid (by have h1 := HN.out.hi; have h2 := HK6.out; omega)
  have HWP : Hid (∀ c ∈ PL, wiP c pw OL.length) := Lib.hid fun c hc => (HPF.out.1 c hc).1
  have HNL : Hid (PL.length ≤ 9) := Lib.hid (by have := HPF.out.2.2.1; have := HPW.out; omega)
  have HOL := Lib.hid HA.out.len
  clear ko k9
  obtain ⟨NP, hNP⟩ : ∃ NP, PL.length = NP := ⟨_, rfl⟩
  have HNP := Lib.hid hNP
  have PLW : Hid (∀ k r, PL[k]? = some r → ovls OL NX (PL.take (k + 1)) = ovl (ovls OL NX (PL.take k)) NX r) := Lib.hid fun k r h => by
    rw [List.take_add_one, h]
    unfold ovls
    rw [List.foldl_append]
    rfl
  try rw [hNP] at HPL
  try rw [hNP] at HPO
  try rw [hNP] at HNL
  try rw [hNP]
  clear hNP
  go_upto_region 10 with fail
  go_loopw [48] (fun v48 wr => ∃ k : Nat, v48 = .int .i64 (k : Int) ∧ k ≤ NP ∧ Hid (PnAt wr b gg ⟨pw, ovls OL NX (PL.take k), 1 + k, false, 0⟩ ∧ PnOk ⟨pw, ovls OL NX (PL.take k), 1 + k, false, 0⟩) ∧ Hid (FrS (FP b gg) w9 wr)) (fun v _ => NP - (intOf v).toNat)
  case atStart => exact ⟨0, rfl, Nat.zero_le _, HP0, Lib.hid (FrS.refl _ _)⟩
  case round =>
    obtain ⟨k, rfl, hk, HPR, HFR⟩ := hrel
    by_cases hkN : k < NP
    · have hkz : (k : Int) < (NP : Int) := by omega
      have hk0 : (0 : Int) ≤ (k : Int) := by omega
      have HKN := Lib.hid (And.intro hkN HNL.out)
      have hN9 : k < 64 := by have := HNL.out; omega
      obtain ⟨r, hr⟩ : ∃ r, PL[k]? = some r := ⟨_, List.getElem?_eq_getElem (by rw [HNP.out]; exact hkN)⟩
      have HR := Lib.hid hr
      obtain ⟨pg, po, hpa, hpl, i0, i1, i2, i3⟩ := rc_at (own_srcN (HFR.out.own HPL.out (fun q hq e => by have h1 := HPO.out q hq; have h2 := HBG.out; rcases e with e | e <;> omega))) hr
      subst hpa
      have hwi := HWP.out r (List.mem_of_getElem? hr)
      have HRO := Lib.hid (show rcOk r from by unfold rcOk; unfold wiP at hwi; have := HPW.out; have := HA.out.len; omega)
      have HWI : Hid (wiP r pw (ovls OL NX (PL.take k)).length) := Lib.hid (by rw [ovls_len]; exact hwi)
      clear hwi hr hpl
      have hxn := heap_alloc_new wr (.cells #[.int .i64 0, .int .i64 0, .int .i64 0, .int .i64 0] 31)
      have hbn := balloc (Below.refl _ wr) (.cells #[.int .i64 0, .int .i64 0, .int .i64 0, .int .i64 0] 31)
      obtain ⟨X, hX⟩ : ∃ X, wr.heap.size = X := ⟨_, rfl⟩
      obtain ⟨wa, hwa⟩ : ∃ wa, wr.alloc (.cells #[.int .i64 0, .int .i64 0, .int .i64 0, .int .i64 0] 31) = wa := ⟨_, rfl⟩
      have HXo : Hid (X = wr.heap.size) := Lib.hid hX.symm
      rw [hX, hwa] at hxn
      rw [hwa] at hbn
      have y0 : wa.cell? ⟨X, 0, none⟩ = some (.int .i64 0) := nd_cell hxn rfl
      have y1 : wa.cell? ⟨X, 1, none⟩ = some (.int .i64 0) := nd_cell hxn rfl
      have y2 : wa.cell? ⟨X, 2, none⟩ = some (.int .i64 0) := nd_cell hxn rfl
      have y3 : wa.cell? ⟨X, 3, none⟩ = some (.int .i64 0) := nd_cell hxn rfl
      have z0 := nd_froz hxn 0
      have z1 := nd_froz hxn 1
      have z2 := nd_froz hxn 2
      have z3 := nd_froz hxn 3
      obtain ⟨wx, hwx, hxx, hfx⟩ := set4 hxn (.int .i64 r.x) (.int .i64 r.y) (.int .i64 r.w) (.int .i64 r.h)
      have HXX := Lib.hid hxx
      have HBX := Lib.hid (hfx.below wr hbn (fun b hb => by rw [hb, HXo.out]; exact Nat.le_refl _))
      clear hxx hfx hbn hxn
      go_upto_region 12 with fail
      try rw [hwx]
      clear y0 y1 y2 y3 z0 z1 z2 z3 hwx hX hwa
      clear i0 i1 i2 i3
      obtain ⟨wd, hwd⟩ : ∃ wd, wx.drew = wd := ⟨_, rfl⟩
      have HWD := Lib.hid hwd
      have HBD := Lib.hid (show Below wx.heap.size wx wd from by rw [← hwd]; exact Below.drew (Below.refl _ wx))
      clear hwd
      have HXD := Lib.hid ((HBD.out.block X (Array.getElem?_eq_some_iff.1 HXX.out).1).trans HXX.out)
      have HOK : Hid (PnOk ⟨pw, ovls OL NX (PL.take k), 1 + k, false, 0⟩) := Lib.hid HPR.out.2
      have HPD : Hid (PnAt wd b gg ⟨pw, ovls OL NX (PL.take k), 1 + k, false, 0⟩) := Lib.hid (HPR.out.1.below (bnext HBX.out HBD.out))
      have HNU : Hid (UA wd (.slice (some ⟨gb, 0, none⟩) ph cb) NX) := Lib.hid (((HN9.out.frame HFR.out (by have h1 := HBG.out; have h2 := HGB.out; intro e; rcases e with e | e <;> omega)).keep (bnext HBX.out HBD.out)).ua)
      have HSZ : Hid (w9.heap.size ≤ wd.heap.size) := Lib.hid (Nat.le_trans HFR.out.size (Nat.le_trans HBX.out.size HBD.out.size))
      have HKS : Hid (∀ U, FrS (FP b gg) wd U → U.cell? ⟨X, 0, none⟩ = some (.int .i64 r.x) ∧ U.cell? ⟨X, 1, none⟩ = some (.int .i64 r.y) ∧ U.cell? ⟨X, 2, none⟩ = some (.int .i64 r.w) ∧ U.cell? ⟨X, 3, none⟩ = some (.int .i64 r.h)) := Lib.hid fun U hU => by
        have h1 := hU.nd HXD.out (fun e => by have h3 := HBG.out; have h4 := HXo.out; have h5 := HFR.out.size; rcases e with e | e <;> omega)
        exact ⟨nd_cell h1 rfl, nd_cell h1 rfl, nd_cell h1 rfl, nd_cell h1 rfl⟩
      refine wp_region_held_drew (S := (fun U => U.cell? ⟨X, 0, none⟩ = some (.int .i64 r.x) ∧ U.cell? ⟨X, 1, none⟩ = some (.int .i64 r.y) ∧ U.cell? ⟨X, 2, none⟩ = some (.int .i64 r.w) ∧ U.cell? ⟨X, 3, none⟩ = some (.int .i64 r.h))) (by kernel_rfl) ?_ (fun hHeld => ?_)
      · (rw [HWD.out]; exact HKS.out _ (FrS.refl _ _))
      rw [HWD.out] at hHeld ⊢
      refine wpAnyH_take (i := 0) (oi := { dst := some 52, op := Op.move (Operand.tmp 9), type := 25, pos := "law.go:142", after := #[], guard := none }) (v := ?_) rfl (by kernel_rfl) (by kernel_rfl) (by kernel_rfl) (fun _ _ _ h => h) (Or.inl ⟨by rfl, ?_⟩) (by assumption) ?_
      rotate_left
      · ((intro w hSw; (try dsimp only at hSw); go_simp; (try rw [if_neg (by omega)])); try with_reducible rfl)
      (try simp only [Act.put, List.setIfInBounds_toArray, List.set_cons_zero, List.set_cons_succ])
      refine wpAnyH_take (i := 1) (oi := { dst := some 53, op := Op.load 31 (Operand.tmp 12), type := 31, pos := "law.go:142", after := #[], guard := none }) (v := ?_) rfl (by kernel_rfl) (by kernel_rfl) (by kernel_rfl) (fun _ _ _ h => h) (Or.inl ⟨by rfl, ?_⟩) (by assumption) ?_
      rotate_left
      · ((intro w hSw; (try dsimp only at hSw); go_simp; (try rw [if_neg (by omega)])); try with_reducible rfl)
      (try simp only [Act.put, List.setIfInBounds_toArray, List.set_cons_zero, List.set_cons_succ])
      refine wpAnyH_take (i := 2) (oi := { dst := some 54, op := Op.move (Operand.tmp 7), type := 32, pos := "law.go:142", after := #[], guard := none }) (v := ?_) rfl (by kernel_rfl) (by kernel_rfl) (by kernel_rfl) (fun _ _ _ h => h) (Or.inl ⟨by rfl, ?_⟩) (by assumption) ?_
      rotate_left
      · ((intro w hSw; (try dsimp only at hSw); go_simp; (try rw [if_neg (by omega)])); try with_reducible rfl)
      (try simp only [Act.put, List.setIfInBounds_toArray, List.set_cons_zero, List.set_cons_succ])
      refine wpAnyH_take (i := 3) (oi := { dst := some 55, op := Op.load 31 (Operand.tmp 12), type := 31, pos := "law.go:142", after := #[], guard := none }) (v := ?_) rfl (by kernel_rfl) (by kernel_rfl) (by kernel_rfl) (fun _ _ _ h => h) (Or.inl ⟨by rfl, ?_⟩) (by assumption) ?_
      rotate_left
      · ((intro w hSw; (try dsimp only at hSw); go_simp; (try rw [if_neg (by omega)])); try with_reducible rfl)
      (try simp only [Act.put, List.setIfInBounds_toArray, List.set_cons_zero, List.set_cons_succ])
      refine wpAnyH_ready (rs := [4]) (by kernel_rfl) (by simp) ?_
      refine AllReadyH.cons (o := { dst := some 56, op := Op.call { callee := Callee.value (Operand.func 25), args := #[Operand.tmp 54, Operand.tmp 55], argTypes := #[32, 31] }, type := 32, pos := "law.go:142", after := #[{ on := 2, ground := Ground.data }, { on := 3, ground := Ground.data }], guard := none }) rfl (fun K hK => ?_) ?_
      · (go_simp; go_at_call 25; refine (cut_any wd NX (.slice (some ⟨gb, 0, none⟩) ph cb) r HRO.out HNU.out (by have := HN.out.len; have := HPW.out; omega) (fun a' n' k' h => by injection h with _ h2 h3; rw [← h2, ← h3]; exact HN.out.cap) (HN.out.lt64 (by have := HPW.out; omega))).mono ?_; rintro u wq1 ⟨v1, rfl, ko1, kb1⟩; have HBq1 := Lib.hid kb1; have HKW := Lib.hid (on_step (HPD.out.below kb1) HOK.out rfl (by dsimp only; have := HKN.out; omega) HWI.out (by dsimp only; rw [ovls_len, HN.out.len, HOL.out]) ko1 (by have := HBG.out; have := HSZ.out; omega) (by have := HBG.out; have := HSZ.out; omega)); clear ko1 kb1; dsimp only)
        refine hK.out _ _ ?_ (fun hHeld => ?_)
        · exact HKS.out _ (FrS.of HBq1.out)
        clear hK K
        (try simp only [Act.put, List.setIfInBounds_toArray, List.set_cons_zero, List.set_cons_succ])
        refine wpAnyH_ready (rs := [5]) (by kernel_rfl) (by simp) ?_
        refine AllReadyH.cons (o := { dst := some 57, op := Op.call { callee := Callee.value (Operand.func 30), args := #[Operand.tmp 52, Operand.tmp 53, Operand.tmp 56], argTypes := #[25, 31, 32] }, type := 59, pos := "law.go:142", after := #[{ on := 0, ground := Ground.data }, { on := 1, ground := Ground.data }, { on := 4, ground := Ground.data }, { on := 4, ground := Ground.chain }], guard := none }) rfl (fun K hK => ?_) ?_
        · (go_simp; go_at_call 30; refine HKW.out.mono ?_; rintro u wq2 ⟨rfl, hp2, hf2⟩; have HP2 := Lib.hid hp2; have HFq2 := Lib.hid hf2; clear hp2 hf2; dsimp only)
          refine hK.out _ _ ?_ (fun hHeld => ?_)
          · exact HKS.out _ ((FrS.of HBq1.out).trans HFq2.out)
          clear hK K
          (try simp only [Act.put, List.setIfInBounds_toArray, List.set_cons_zero, List.set_cons_succ])
          refine wpAnyH_take (i := 6) (oi := { dst := some 58, op := Op.binOp BinOp.neq 59 (Operand.tmp 57) (Operand.const (Value.int IntKind.i64 0)) 59, type := 4, pos := "law.go:142", after := #[{ on := 5, ground := Ground.data }], guard := none }) (v := ?_) rfl (by kernel_rfl) (by kernel_rfl) (by kernel_rfl) (fun _ _ _ h => h) (Or.inl ⟨by rfl, ?_⟩) (by assumption) ?_
          rotate_left
          · ((intro w hSw; (try dsimp only at hSw); go_simp; (try rw [if_neg (by omega)])); try with_reducible rfl)
          (try simp only [Act.put, List.setIfInBounds_toArray, List.set_cons_zero, List.set_cons_succ])
          refine wpAnyH_done (by kernel_rfl) ?_ _
          clear hHeld
          go_simp
          have HFE : Hid (FrS (FP b gg) w9 wq2) := Lib.hid (HFR.out.trans ((FrS.of (bnext HBX.out (bnext HBD.out HBq1.out))).trans HFq2.out))
          clear HKW
          go_wp2
          go_roundw
          case rel => exact ⟨k + 1, by go_num, by omega, Lib.hid ⟨by rw [PLW.out k r HR.out]; have := HP2.out; rw [show 1 + (k + 1) = (1 + k) + 1 from rfl]; exact this, by rw [PLW.out k r HR.out]; exact ovl_ok HOK.out (by dsimp only; have := HKN.out; omega) rfl HWI.out (by dsimp only; rw [ovls_len, HN.out.len, HOL.out])⟩, HFE⟩
          case measure => simp [intOf]; omega
        exact AllReadyH.nil
      exact AllReadyH.nil
    · have hkz : ¬ (k : Int) < (NP : Int) := by omega
      obtain rfl : k = NP := by omega
      clear hkN hk
      have hta : PL.take k = PL := by rw [List.take_of_length_le (by rw [HNP.out]; exact Nat.le_refl _)]
      rw [hta, HPB.out] at HPR
      have hle : (k : Int) ≤ (mo : Int) := by have := HPF.out.2.2.1; rw [HNP.out] at this; omega
      obtain ⟨u1, hu1⟩ : ∃ u1 : Nat, 1 + k = u1 := ⟨_, rfl⟩
      rw [hu1] at HPR
      have hu2 : 1 + (k : Int) = (u1 : Int) := by omega
      have hu3 : IntKind.i64.wrap (u1 : Int) = (u1 : Int) := IntWalk.i64_in _ (by have := HPW.out; omega)
      have HBr := Lib.hid (HFR.out.below w HB9.out (fun q hq => by have h1 := HK6.out; have h2 := HB5.out.size; rcases hq with e | e <;> omega))
      have HNr := Lib.hid (HN9.out.frame HFR.out (by have h2 := HGB.out; intro e; rcases e with e | e <;> omega))
      clear hta hu1
      have HC := Lib.hid (updates_any HPR.out.1 HPR.out.2)
      go_wp2_with fail
      go_at_call 18
      refine HC.out.mono ?_
      rintro e wb ⟨rfl, he⟩
      have he' := he.symm
      subst he'
      clear HC
      have HC := Lib.hid (pixels_any HPR.out.1 HPR.out.2)
      go_wp2_with fail
      go_at_call 16
      refine HC.out.mono ?_
      rintro e wc ⟨vc, rfl, ko, kc⟩
      clear HC
      have hsm := same_any vc _ NX NX wc (own_ua ko) (HNr.out.keep kc).ua (by have := HPW.out; have := HN.out.len; omega) (by have := HPW.out; have := HN.out.len; omega)
      rw [decide_eq_true rfl] at hsm
      have HBc := Lib.hid (bnext HBr.out kc)
      have HC := Lib.hid hsm
      clear ko kc hsm
      go_wp2_with fail
      go_at_call 15
      refine HC.out.mono ?_
      rintro e we ⟨rfl, ke⟩
      have HBe := Lib.hid (bnext HBc.out ke)
      clear HC ke
      go_wp2
      go_ret
      exact ⟨rfl, HBe.out⟩

set_option maxRecDepth 100000 in
theorem lifted (os : Os) (started : os.Started) (H : Type) (enc : TypeId × Value → H) :
    ReturnsInHanded {} Tryd.checked os 6 .any (fun w args => (Rows.panelBringsSpec.pre enc Tryd.prog Tryd.f6 [] false w args ∧ laidMetH Tryd.prog laidL w) ∧ sizedMet enc Tryd.prog Tryd.f6 (OpenSpec.ofChange Rows.panelBringsSpec) false w args)
      (Rows.panelBringsSpec.post enc Tryd.prog Tryd.f6 false true false false) := by
  refine returnsInHanded_of_change_and (C := Tryd.checked) (X := fun w _ => laidMetH Tryd.prog laidL w) (fun _ _ _ hh h => h.of_heap hh) own started (by kernel_rfl) Tryd.func6
    (ChangeSpec.witness_shaped (enc := enc) (C := Tryd.checked) (os := os) (X := fun w _ => laidMetH Tryd.prog laidL w) false (World.doorLaid Tryd.prog 46 os) #[.agg #[.int .u8 0, .int .u8 0, .slice none 0 0, .slice none 0 0, .int .u8 0]] 8 rfl (World.shaped_of_RefB (by kernel_rfl) (by kernel_rfl)) (by kernel_rfl) (by kernel_rfl) (by kernel_rfl) (door_met os _)) ?_
  intro W base args ds gs before hval0 hW _ _ hL _
  have hval : ∀ (j : Nat) t v, Tryd.f6.params[j]? = some t → args[j]? = some v → Value.okWide Tryd.prog W .any base t v := hval0
  have hW' := hW
  obtain ⟨p, q, hA0, hV, rfl, hfz, hnd⟩ := hW
  have hA : DataW.TrodAll enc Tryd.prog W 0 (fun _ => true) true Tryd.f6.params.toList args.toList ds p := hA0
  rw [Tryd.params6] at hA hval
  obtain ⟨v0, vs0, d0, ds0, p0, q0, hargs, rfl, rfl, h0, r0⟩ := trodAll_cons hA
  obtain ⟨rfl, rfl, rfl⟩ := trodAll_nil r0
  obtain rfl : args = #[v0] := by cases args; simp_all
  obtain ⟨rfl, rfl⟩ := trodVars_none hV
  obtain ⟨g, hlaid⟩ := of_laid hL
  have k0 := h0
  have lt0 : ∀ x ∈ p0, x.block < W.heap.size := by obtain ⟨m, hm⟩ := k0; exact DataW.trod_lt m _ _ _ hm
  obtain ⟨a0, b0, c0, p0, q0, l0, m0, rfl, H0⟩ := open_case (hval 0 53 v0 rfl rfl) h0
  clear hA0 hval0
  refine (walk a0 b0 c0 p0 q0 l0 m0 g  W hlaid H0).mono fun e W' ⟨he, bel⟩ => ?_
  subst he
  exact ⟨_, rfl, _, _, _, [], _, [], hW', trodAll_mk1 (shut_bool Tryd.underlying4 _), (trodAll_cons_mk (Below.trod laidOut (by kernel_rfl) (of_decide_eq_true (by kernel_rfl)) k0 bel lt0) trodAll_mk0), rfl, bel.frame _, fun h => by cases h⟩

theorem over : Rows.panelBringsRow.holds Tryd.pinned (OpenSpec.ofChange Rows.panelBringsSpec) :=
  OpenClaim.holds_of_wide 6 Tryd.f6 rfl rfl rfl rfl rfl rfl rfl ⟨rfl, rfl, rfl, rfl, rfl⟩ rfl rfl rfl rfl rfl (by kernel_rfl) Tryd.func6 (by kernel_rfl)
    (of_decide_eq_true (by kernel_rfl)) (by unfold Func.isWrapper; first | (rw [if_pos (by decide +kernel)]; kernel_rfl) | (rw [if_neg (by decide +kernel)]; exact ⟨rfl, rfl⟩))
    (fun os started H enc _ => lifted os started H enc)

/-- The row's card, tied to the program's text. -/
theorem card : Rows.PanelBringsCardSaid :=
  Claim7.holds_tied_plain_at .later [] [.data] true Rows.panelBringsCard.stood.harness false
    over (fun _ h => by cases h) (by kernel_rfl) (fun _ h => by cases h) panelBrings_row_tie rfl ⟨rfl, rfl⟩ (by kernel_rfl) rfl
    (fun f fn hf hfn => by
      obtain rfl : f = 6 := Option.some.inj ((show Tryd.prog.funcNamed "abugida/abugidalaw33.PanelBrings" = some 6 by kernel_rfl).symm.trans hf) |>.symm
      obtain rfl : fn = Tryd.f6 := (Option.some.inj (Tryd.func6.symm.trans hfn)).symm
      exact ⟨by kernel_rfl, fun j t ht => by
        rw [Tryd.params6] at ht
        have hm : t ∈ [53] := by simpa using Array.mem_of_getElem? ht
        have hall : ([53].all fun u => !Tryd.prog.wantsStandIn u) = true := by kernel_rfl
        exact (show Tryd.prog.wantsStandIn t = false by simpa using List.all_eq_true.1 hall t hm)⟩)
    (by kernel_rfl)

end Go.Proofs.YtmiennkldkcnfaaDoor.panelBrings
namespace Go.Proofs.YtmiennkldkcnfaaDoor
theorem panelBrings_proved : Rows.PanelBringsCardSaid := panelBrings.card
#print axioms panelBrings_proved
end Go.Proofs.YtmiennkldkcnfaaDoor
