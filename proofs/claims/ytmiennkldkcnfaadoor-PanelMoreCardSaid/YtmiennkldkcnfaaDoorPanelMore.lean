/- For every case and pixel PanelMore returns true: with more rectangles, there is not more to be written; nothing is planned exactly if nothing differs; one pixel is a rectangle by itself. No conditions. -/
import Derived.Test.YtmiennkldkcnfaaDoorPn41
import Derived.Test.YtmiennkldkcnfaaDoorPn38
import Derived.Test.YtmiennkldkcnfaaDoorPn32
import Derived.Test.YtmiennkldkcnfaaDoorPn33
import Derived.Test.YtmiennkldkcnfaaDoorPnLaid
namespace Go.Proofs.YtmiennkldkcnfaaDoor.panelMore
open Go.ChangeShapes Go.WideShapes Go.ChangeAt Go.RowKit Go.Joins Go.Deep
set_option linter.unusedVariables false

set_option maxRecDepth 100000 in
set_option maxHeartbeats 8000000 in
theorem walk (a0 : Int) (b0 : Int) (c0 : Int) (p0 : Value) (q0 : Value) (l0 : List Nat) (m0 : List Nat) (a1 : Int) (b1 : Int) (g : Nat × Nat) (wa1 : (Lit.int .u8 a1).wf = true) (wb1 : (Lit.int .u8 b1).wf = true) (w : World) (hl : Laid w g) (H0 : ((0 ≤ a0 ∧ a0 ≤ 255) ∧ (0 ≤ b0 ∧ b0 ≤ 255) ∧ (0 ≤ c0 ∧ c0 ≤ 255)) ∧ UsArg w p0 l0 ∧ UsArg w q0 m0) :
    Calls Tryd.prog 9 #[.agg #[.int .u8 a0, .int .u8 b0, p0, q0, .int .u8 c0], .agg #[.int .u8 a1, .int .u8 b1]] w fun e w' => e = .returned (.bool true) ∧ Below w.heap.size w w' := by
  have hb1' := bdu8 wa1
  have hb2' := bdu8 wb1
  have HAB := Lib.hid (And.intro hb1' hb2')
  clear wa1 wb1 hb1' hb2'
  have HLD := Lib.hid hl
  clear hl
  obtain ⟨⟨hba, hbb, hbc⟩, hus, hus2⟩ := H0
  obtain ⟨pa, pc, rfl⟩ := hus.ua.shape
  obtain ⟨qa, qc, rfl⟩ := hus2.ua.shape
  have HU1 := Lib.hid hus
  have HU2 := Lib.hid hus2
  clear hus hus2
  obtain ⟨pw, hpw⟩ : ∃ pw : Nat, 1 + a0 % 64 = (pw : Int) := ⟨(1 + a0 % 64).toNat, by omega⟩
  obtain ⟨ph, hph⟩ : ∃ ph : Nat, 1 + b0 % 64 = (ph : Int) := ⟨(1 + b0 % 64).toNat, by omega⟩
  obtain ⟨mo, hmo⟩ : ∃ mo : Nat, 1 + c0 % 9 = (mo : Int) := ⟨(1 + c0 % 9).toNat, by omega⟩
  have HPW : Hid (1 ≤ pw ∧ pw ≤ 64 ∧ 1 ≤ ph ∧ ph ≤ 64 ∧ 1 ≤ mo ∧ mo ≤ 9) := Lib.hid (by omega)
  have HEQ := Lib.hid (And.intro (And.intro hba (And.intro hbb hbc)) (And.intro hpw (And.intro hph hmo)))
  clear hba hbb hbc hpw hph hmo
  obtain ⟨B, hB⟩ : ∃ B, w.heap.size = B := ⟨_, rfl⟩
  obtain ⟨w1, hw1, bx0, bx1, bel, bsz⟩ := two_blocks w (.cells #[.int .u8 a0, .int .u8 b0, .slice pa l0.length pc, .slice qa m0.length qc, .int .u8 c0] 53) (.cells #[.int .u8 a1, .int .u8 b1] 22) B hB
  have HB1 := Lib.hid bel
  have HX1 := Lib.hid (And.intro bx0 (And.intro bx1 bsz))
  have HCX : Hid (∀ U, Below w1.heap.size w1 U → U.cell? ⟨B, 0, none⟩ = some (.int .u8 a0) ∧ U.cell? ⟨B, 1, none⟩ = some (.int .u8 b0) ∧ U.cell? ⟨B, 2, none⟩ = some (.slice pa l0.length pc) ∧ U.cell? ⟨B, 3, none⟩ = some (.slice qa m0.length qc) ∧ U.cell? ⟨B, 4, none⟩ = some (.int .u8 c0)) := Lib.hid fun U hU => by
    have h1 := (hU.block B (by rw [HX1.out.2.2]; omega)).trans HX1.out.1
    exact ⟨nd_cell h1 rfl, nd_cell h1 rfl, nd_cell h1 rfl, nd_cell h1 rfl, nd_cell h1 rfl⟩
  have HCY : Hid (∀ U, Below w1.heap.size w1 U → U.cell? ⟨B + 1, 0, none⟩ = some (.int .u8 a1) ∧ U.cell? ⟨B + 1, 1, none⟩ = some (.int .u8 b1)) := Lib.hid fun U hU => by
    have h1 := (hU.block (B + 1) (by rw [HX1.out.2.2]; omega)).trans HX1.out.2.1
    exact ⟨nd_cell h1 rfl, nd_cell h1 rfl⟩
  clear bx0 bx1 bel bsz
  go_enter Tryd.func9, Tryd.ntmps9
  go_upto_region 1 with fail
  try rw [hw1]
  try rw [hB]
  clear hw1 hB
  have HC := Lib.hid (sanity_any _ g (HLD.out.mono HB1.out))
  go_wp2_with fail
  go_at_call 11
  refine HC.out.mono ?_
  rintro e w3 ⟨rfl, k3⟩
  clear HC
  have HB3 := Lib.hid (bnext HB1.out k3)
  have HC3 := Lib.hid k3
  clear k3
  
  obtain ⟨x0, x1, x2, x3, x4⟩ := HCX.out w3 HC3.out
  go_upto_region 2 with fail
  have HC := Lib.hid (sizes_any w3 a0 b0 c0 (.slice pa l0.length pc) (.slice qa m0.length qc) pw ph HEQ.out.1.1 HEQ.out.1.2.1 HEQ.out.2.1 HEQ.out.2.2.1)
  go_wp2_with fail
  go_at_call 27
  refine HC.out.mono ?_
  rintro e w4 ⟨rfl, k4⟩
  clear HC
  have HB4 := Lib.hid (bnext HB3.out k4)
  have HC4 := Lib.hid (bnext HC3.out k4)
  clear k4
  
  clear x0 x1 x2 x3 x4
  obtain ⟨x0, x1, x2, x3, x4⟩ := HCX.out w4 HC4.out
  go_upto_region 3 with fail
  have HC := Lib.hid (rows_any w4 a0 b0 c0 pa qa pc qc l0 m0 pw ph HEQ.out.1.1 HEQ.out.1.2.1 HEQ.out.2.1 HEQ.out.2.2.1 (HU1.out.keep HB4.out) (HU2.out.keep HB4.out))
  go_wp2_with fail
  go_at_call 28
  refine HC.out.mono ?_
  rintro e w5 ⟨r1, r2, rfl, ko1, ko2, k5⟩
  clear HC
  
  obtain ⟨ga, ca, rfl, hga⟩ := pg_of ko1 (by have := HPW.out; omega) mkRow_lt
  obtain ⟨gb, cb, rfl, hgb⟩ := pg_of ko2 (by have := HPW.out; omega) mkRow_lt
  obtain ⟨OL, hOL⟩ : ∃ OL, mkRow l0 pw ph = OL := ⟨_, rfl⟩
  obtain ⟨NX, hNX⟩ : ∃ NX, mkRow m0 pw ph = NX := ⟨_, rfl⟩
  rw [hOL] at hga
  rw [hNX] at hgb
  have HA := Lib.hid hga
  have HN := Lib.hid hgb
  have HB5 := Lib.hid (bnext HB4.out k5)
  have HC5 := Lib.hid (bnext HC4.out k5)
  clear k5 hga hgb hOL hNX ko1 ko2 x0 x1 x2 x3 x4
  obtain ⟨x0, x1, x2, x3, x4⟩ := HCX.out w5 HC5.out
  clear x0 x1 x2 x3 x4
  have HMF : Hid (∀ m : Nat, 1 ≤ m → PN.areas (PN.plan OL NX pw (m + 1)) ≤ PN.areas (PN.plan OL NX pw m)) := Lib.hid fun m hm => plan_more m (by have := HPW.out; omega) (HA.out.len.trans HN.out.len.symm) HA.out.lt HN.out.lt hm
  have HPR : Hid (∀ m : Nat, 1 ≤ m → ((∀ c ∈ PN.plan OL NX pw m, rb c) ∧ (PN.plan OL NX pw m).length ≤ m) ∧ (PN.areas (PN.plan OL NX pw m) = 0 ↔ OL = NX)) := Lib.hid fun m hm => ⟨⟨rect_area (by have := HPW.out; omega) (HA.out.len.trans HN.out.len.symm) (by have := HPW.out; have := HA.out.len; omega) HA.out.lt HN.out.lt hm, (plan_facts m (by have := HPW.out; omega) (HA.out.len.trans HN.out.len.symm) HA.out.lt HN.out.lt hm).2.2.1⟩, areas_same (by have := HPW.out; omega) (HA.out.len.trans HN.out.len.symm) (by have := HPW.out; have := HA.out.len; omega) HA.out.lt HN.out.lt hm⟩
  go_upto_region 6 with fail
  go_loopw [10, 11] (fun v10 v11 wr => ∃ (m : Nat) (bef : Int), v11 = .int .i64 (m : Int) ∧ v10 = .int .i64 bef ∧ 1 ≤ m ∧ m ≤ 6 ∧ (0 ≤ bef ∧ bef ≤ 1048576) ∧ Hid (PN.areas (PN.plan OL NX pw m) ≤ bef) ∧ Hid (Below w5.heap.size w5 wr)) (fun v10 v11 _ => 6 - (intOf v11).toNat)
  case atStart => exact ⟨1, 1048576, rfl, rfl, Nat.le_refl _, by omega, by omega, Lib.hid (by have h := HPR.out 1 (Nat.le_refl _); have h2 := areas_some h.1.1; have := h.1.2; omega), Lib.hid (Below.refl _ _)⟩
  case round =>
    obtain ⟨m, bef, rfl, rfl, hm1, hm6, hbf, HBF, HBR⟩ := hrel
    by_cases hmN : m ≤ 5
    · have hmz : (m : Int) ≤ 5 := by omega
      obtain ⟨wo, hwo⟩ : ∃ wo, wo = wr := ⟨_, rfl⟩
      subst hwo
      have HBo := Lib.hid (bnext HB5.out HBR.out)
      have HAo := Lib.hid (HA.out.keep HBR.out)
      have HNo := Lib.hid (HN.out.keep HBR.out)
      have HM := Lib.hid (And.intro hm1 (And.intro hmN hbf))
      have hpe : planP OL NX (pw : Int) (m : Int) = PN.plan OL NX pw m := by
        unfold planP
        rw [if_pos (by unfold planOk; have := HPW.out; have := HA.out.len; have := HN.out.len; omega), Int.toNat_natCast, Int.toNat_natCast]
      have hpl := plan_any wo g (HLD.out.mono HBo.out) _ _ OL NX (pw : Int) (m : Int) HAo.out.ua HNo.out.ua (by have := HPW.out; have := HA.out.len; omega) (by have := HPW.out; have := HN.out.len; omega) (by omega) (HA.out.lt64 (by have := HPW.out; omega)) (HN.out.lt64 (by have := HPW.out; omega))
      rw [hpe] at hpl
      have hpr := HPR.out m hm1
      obtain ⟨PL, hPL⟩ : ∃ PL, PN.plan OL NX pw m = PL := ⟨_, rfl⟩
      have HPE := Lib.hid hPL
      rw [hPL] at hpl hpr HBF
      have HPP := Lib.hid hpr
      clear hPL hpe hpr
      go_upto_region 9 with fail
      have HC := Lib.hid (hpl)
      go_wp2_with fail
      go_at_call 22
      refine HC.out.mono ?_
      rintro e w9 ⟨vp, rfl, ko, k9⟩
      clear HC
      clear hpl
      obtain ⟨pa', pc', rfl⟩ := own_shape ko
      have HPL := Lib.hid ko
      have HB9 := Lib.hid (bnext HBo.out k9)
      have HA9 := Lib.hid (HAo.out.keep k9)
      have HN9 := Lib.hid (HNo.out.keep k9)
      have HO9 := Lib.hid (bnext HBR.out k9)
      obtain ⟨NP, hNP⟩ : ∃ NP, PL.length = NP := ⟨_, rfl⟩
      have HNP := Lib.hid hNP
      rw [hNP] at HPL HPP
      try rw [hNP]
      clear hNP ko k9
      go_upto_region 10 with fail
      go_loopw [12, 39] (fun v12 v39 wr => ∃ (k : Nat) (A : Int), v39 = .int .i64 (k : Int) ∧ v12 = .int .i64 A ∧ k ≤ NP ∧ (0 ≤ A ∧ A ≤ 4096 * (k : Int)) ∧ Hid (A = PN.areas (PL.take k)) ∧ Hid (Below w9.heap.size w9 wr)) (fun v12 v39 _ => NP - (intOf v39).toNat)
      case atStart => exact ⟨0, 0, rfl, rfl, Nat.zero_le _, by omega, Lib.hid rfl, Lib.hid (Below.refl _ _)⟩
      case round =>
        obtain ⟨k, A, rfl, rfl, hk, hA, HAr, HBI⟩ := hrel
        by_cases hkN : k < NP
        · have hkz : (k : Int) < (NP : Int) := by omega
          have hk0 : (0 : Int) ≤ (k : Int) := by omega
          have hk9 : k < 64 := by have := HPP.out.1.2; omega
          obtain ⟨r, hr⟩ : ∃ r, PL[k]? = some r := ⟨_, List.getElem?_eq_getElem (by rw [HNP.out]; exact hkN)⟩
          obtain ⟨pg, po, hpa, hpl, i0, i1, i2, i3⟩ := rc_at (own_srcN (own_below HPL.out HBI.out)) hr
          subst hpa
          have hrb := PN.area_le (HPP.out.1.1 r (List.mem_of_getElem? hr))
          have hta : PN.areas (PL.take (k + 1)) = A + PN.area r := by
            rw [List.take_add_one, hr, PN.areas_app, HAr.out]
            show _ + PN.areas [r] = _
            rw [PN.areas_cons]
            show _ + (PN.area r + 0) = _
            rw [Int.add_zero]
          obtain ⟨q, hq⟩ : ∃ q, PN.area r = q := ⟨_, rfl⟩
          rw [hq] at hta hrb
          have q1 : r.w * r.h = q := hq
          have q2 : IntKind.i64.wrap q = q := IntWalk.i64_in _ (by omega)
          obtain ⟨s, hs⟩ : ∃ s, A + q = s := ⟨_, rfl⟩
          rw [hs] at hta
          have q3 : IntKind.i64.wrap s = s := IntWalk.i64_in _ (by omega)
          have HTA := Lib.hid hta
          have HS : Hid (0 ≤ s ∧ s ≤ 4096 * (k : Int) + 4096) := Lib.hid (by omega)
          clear hq hta hrb hr hpl hA
          have hxn := heap_alloc_new wr (.cells #[.int .i64 0, .int .i64 0, .int .i64 0, .int .i64 0] 31)
          have hbn := balloc (Below.refl _ wr) (.cells #[.int .i64 0, .int .i64 0, .int .i64 0, .int .i64 0] 31)
          obtain ⟨X, hX⟩ : ∃ X, wr.heap.size = X := ⟨_, rfl⟩
          obtain ⟨wa, hwa⟩ : ∃ wa, wr.alloc (.cells #[.int .i64 0, .int .i64 0, .int .i64 0, .int .i64 0] 31) = wa := ⟨_, rfl⟩
          have HXo : Hid (X = wr.heap.size) := Lib.hid hX.symm
          rw [hX, hwa] at hxn
          rw [hwa] at hbn
          have y0 : wa.cell? ⟨X, 0, none⟩ = some (.int .i64 0) := nd_cell hxn rfl
          have y1 : wa.cell? ⟨X, 1, none⟩ = some (.int .i64 0) := nd_cell hxn rfl
          have y2 : wa.cell? ⟨X, 2, none⟩ = some (.int .i64 0) := nd_cell hxn rfl
          have y3 : wa.cell? ⟨X, 3, none⟩ = some (.int .i64 0) := nd_cell hxn rfl
          have z0 := nd_froz hxn 0
          have z1 := nd_froz hxn 1
          have z2 := nd_froz hxn 2
          have z3 := nd_froz hxn 3
          obtain ⟨wx, hwx, hxx, hfx⟩ := set4 hxn (.int .i64 r.x) (.int .i64 r.y) (.int .i64 r.w) (.int .i64 r.h)
          have HXX := Lib.hid hxx
          have HBX := Lib.hid (hfx.below wr hbn (fun b hb => by rw [hb, HXo.out]; exact Nat.le_refl _))
          clear hxx hfx hbn hxn
          go_upto_region 12 with fail
          try rw [hwx]
          clear y0 y1 y2 y3 z0 z1 z2 z3 hwx hX hwa
          clear i0 i1 i2 i3
          have j2 : wx.cell? ⟨X, 2, none⟩ = some (.int .i64 r.w) := nd_cell HXX.out rfl
          have j3 : wx.cell? ⟨X, 3, none⟩ = some (.int .i64 r.h) := nd_cell HXX.out rfl
          go_upto_region 13 with fail
          clear q1 q2 q3 hs j2 j3
          go_wp2
          go_roundw
          case rel => exact ⟨k + 1, s, by go_num, rfl, by omega, by have := HS.out; omega, Lib.hid HTA.out.symm, Lib.hid (bnext HBI.out HBX.out)⟩
          case measure => simp [intOf]; omega
        · have hkz : ¬ (k : Int) < (NP : Int) := by omega
          obtain rfl : NP = k := by omega
          have hAe : A = PN.areas PL := by rw [HAr.out, List.take_of_length_le (by rw [HNP.out]; exact Nat.le_refl _)]
          have hab : ¬ bef < A := by rw [hAe]; have := HBF.out; omega
          have HAE := Lib.hid hAe
          have HBw := Lib.hid (bnext HO9.out HBI.out)
          have hsm := same_any _ _ OL NX wr (HA9.out.keep HBI.out).ua (HN9.out.keep HBI.out).ua (by have := HPW.out; have := HA.out.len; omega) (by have := HPW.out; have := HN.out.len; omega)
          have HA2 : Hid (0 ≤ A ∧ A ≤ 1048576) := Lib.hid (by have := HM.out; omega)
          clear hkN hk hA HAr hAe
          by_cases he : OL = NX
          · have hA0 : (A == 0) = true := by rw [beq_iff_eq, HAE.out]; exact HPP.out.2.2 he
            rw [decide_eq_true he] at hsm
            have HC := Lib.hid hsm
            clear hsm he
            go_wp2_with fail
            go_at_call 15
            refine HC.out.mono ?_
            rintro u we ⟨rfl, ke⟩
            have HBe := Lib.hid (bnext HBw.out ke)
            clear HC ke
            go_upto_region 7 with fail
            clear hA0 hab
            go_wp2
            go_roundw
            case rel => exact ⟨m + 1, A, by go_num, rfl, by omega, by have := HM.out; omega, HA2.out, Lib.hid (by have := HMF.out m HM.out.1; rw [HPE.out, ← HAE.out] at this; exact this), HBe⟩
            case measure => simp [intOf]; have := HM.out; omega
          · have hA0 : (A == 0) = false := by rw [beq_eq_false_iff_ne, HAE.out]; exact fun h => he (HPP.out.2.1 h)
            rw [decide_eq_false he] at hsm
            have HC := Lib.hid hsm
            clear hsm he
            go_wp2_with fail
            go_at_call 15
            refine HC.out.mono ?_
            rintro u we ⟨rfl, ke⟩
            have HBe := Lib.hid (bnext HBw.out ke)
            clear HC ke
            go_upto_region 7 with fail
            clear hA0 hab
            go_wp2
            go_roundw
            case rel => exact ⟨m + 1, A, by go_num, rfl, by omega, by have := HM.out; omega, HA2.out, Lib.hid (by have := HMF.out m HM.out.1; rw [HPE.out, ← HAE.out] at this; exact this), HBe⟩
            case measure => simp [intOf]; have := HM.out; omega
    · have hmz : ¬ (m : Int) ≤ 5 := by omega
      clear hmN hm1 hm6 hbf HBF
      obtain ⟨wl, hwl⟩ : ∃ wl, wl = wr := ⟨_, rfl⟩
      subst hwl
      have HBl := Lib.hid (bnext HB5.out HBR.out)
      have HAl := Lib.hid (HA.out.keep HBR.out)
      obtain ⟨wd, hwd⟩ : ∃ wd, wl.drew = wd := ⟨_, rfl⟩
      have HWD := Lib.hid hwd
      have HBD := Lib.hid (show Below wl.heap.size wl wd from by rw [← hwd]; exact Below.drew (Below.refl _ wl))
      clear hwd
      have HKS : Hid (∀ U, Below wd.heap.size wd U → U.cell? ⟨B + 1, 0, none⟩ = some (.int .u8 a1) ∧ U.cell? ⟨B + 1, 1, none⟩ = some (.int .u8 b1)) := Lib.hid fun U hU => HCY.out U (bnext HC5.out (bnext HBR.out (bnext HBD.out hU)))
      have HBd := Lib.hid (bnext HBl.out HBD.out)
      have HAd := Lib.hid (HAl.out.keep HBD.out)
      obtain ⟨i, hi⟩ : ∃ i : Nat, a1 % (pw : Int) = (i : Int) := ⟨(a1 % (pw : Int)).toNat, by have := Int.emod_nonneg a1 (show (pw : Int) ≠ 0 by have := HPW.out; omega); omega⟩
      obtain ⟨j, hj⟩ : ∃ j : Nat, b1 % (ph : Int) = (j : Int) := ⟨(b1 % (ph : Int)).toNat, by have := Int.emod_nonneg b1 (show (ph : Int) ≠ 0 by have := HPW.out; omega); omega⟩
      have HIJ : Hid (i < pw ∧ j < ph) := Lib.hid (by
        have h1 := Int.emod_lt_of_pos a1 (show (0 : Int) < pw by have := HPW.out; omega)
        have h2 := Int.emod_lt_of_pos b1 (show (0 : Int) < ph by have := HPW.out; omega)
        omega)
      have p1 : ¬ (pw : Int) = 0 := by have := HPW.out; omega
      have p2 : ¬ (ph : Int) = 0 := by have := HPW.out; omega
      have p3 : IntKind.i64.wrap a1 = a1 := IntWalk.i64_in _ (by have := HAB.out; omega)
      have p4 : IntKind.i64.wrap b1 = b1 := IntWalk.i64_in _ (by have := HAB.out; omega)
      have p5 : a1.tmod (pw : Int) = (i : Int) := by rw [← hi]; exact Int.tmod_eq_emod_of_nonneg (by have := HAB.out; omega)
      have p6 : b1.tmod (ph : Int) = (j : Int) := by rw [← hj]; exact Int.tmod_eq_emod_of_nonneg (by have := HAB.out; omega)
      have p7 : IntKind.i64.wrap (i : Int) = (i : Int) := IntWalk.i64_in _ (by have := HIJ.out; have := HPW.out; omega)
      have p8 : IntKind.i64.wrap (j : Int) = (j : Int) := IntWalk.i64_in _ (by have := HIJ.out; have := HPW.out; omega)
      clear hi hj
      go_upto_region 17 with fail
      refine wp_region_held_drew (S := (fun U => U.cell? ⟨B + 1, 0, none⟩ = some (.int .u8 a1) ∧ U.cell? ⟨B + 1, 1, none⟩ = some (.int .u8 b1))) (by kernel_rfl) ?_ (fun hHeld => ?_)
      · (rw [HWD.out]; exact HKS.out _ (Below.refl _ _))
      rw [HWD.out] at hHeld ⊢
      refine wpAnyH_take (i := 0) (oi := { dst := some 63, op := Op.indexAddr 22 (Operand.tmp 3) (Operand.const (Value.int IntKind.i64 0)), type := 0, pos := "law.go:234", after := #[], guard := none }) (v := ?_) rfl (by kernel_rfl) (by kernel_rfl) (by kernel_rfl) (fun _ _ _ h => h) (Or.inl ⟨by rfl, ?_⟩) (by assumption) ?_
      rotate_left
      · ((intro w hSw; (try dsimp only at hSw); go_simp; (try rw [if_neg (by omega)])); try with_reducible rfl)
      (try simp only [Act.put, List.setIfInBounds_toArray, List.set_cons_zero, List.set_cons_succ])
      refine wpAnyH_take (i := 1) (oi := { dst := some 64, op := Op.load 5 (Operand.tmp 63), type := 5, pos := "law.go:234", after := #[{ on := 0, ground := Ground.data }], guard := none }) (v := ?_) rfl (by kernel_rfl) (by kernel_rfl) (by kernel_rfl) (fun _ _ _ h => h) (Or.inl ⟨by rfl, ?_⟩) (by assumption) ?_
      rotate_left
      · ((intro w hSw; (try dsimp only at hSw); go_simp; (try rw [if_neg (by omega)])); try with_reducible rfl)
      (try simp only [Act.put, List.setIfInBounds_toArray, List.set_cons_zero, List.set_cons_succ])
      refine wpAnyH_take (i := 2) (oi := { dst := some 65, op := Op.convert 5 3 (Operand.tmp 64), type := 3, pos := "law.go:234", after := #[{ on := 1, ground := Ground.data }], guard := none }) (v := ?_) rfl (by kernel_rfl) (by kernel_rfl) (by kernel_rfl) (fun _ _ _ h => h) (Or.inl ⟨by rfl, ?_⟩) (by assumption) ?_
      rotate_left
      · ((intro w hSw; (try dsimp only at hSw); go_simp; (try rw [if_neg (by omega)])); try with_reducible rfl)
      (try simp only [Act.put, List.setIfInBounds_toArray, List.set_cons_zero, List.set_cons_succ])
      refine wpAnyH_take (i := 3) (oi := { dst := some 66, op := Op.move (Operand.tmp 6), type := 3, pos := "law.go:234", after := #[], guard := none }) (v := ?_) rfl (by kernel_rfl) (by kernel_rfl) (by kernel_rfl) (fun _ _ _ h => h) (Or.inl ⟨by rfl, ?_⟩) (by assumption) ?_
      rotate_left
      · ((intro w hSw; (try dsimp only at hSw); go_simp; (try rw [if_neg (by omega)])); try with_reducible rfl)
      (try simp only [Act.put, List.setIfInBounds_toArray, List.set_cons_zero, List.set_cons_succ])
      refine wpAnyH_take (i := 4) (oi := { dst := some 67, op := Op.binOp BinOp.rem 3 (Operand.tmp 65) (Operand.tmp 66) 3, type := 3, pos := "law.go:234", after := #[{ on := 2, ground := Ground.data }, { on := 3, ground := Ground.data }], guard := none }) (v := ?_) rfl (by kernel_rfl) (by kernel_rfl) (by kernel_rfl) (fun _ _ _ h => h) (Or.inl ⟨by rfl, ?_⟩) (by assumption) ?_
      rotate_left
      · ((intro w hSw; (try dsimp only at hSw); go_simp; (try rw [if_neg (by omega)])); try with_reducible rfl)
      (try simp only [Act.put, List.setIfInBounds_toArray, List.set_cons_zero, List.set_cons_succ])
      refine wpAnyH_take (i := 5) (oi := { dst := some 68, op := Op.indexAddr 22 (Operand.tmp 3) (Operand.const (Value.int IntKind.i64 1)), type := 0, pos := "law.go:234", after := #[{ on := 10, ground := Ground.gcOnly Departure.lateStores }], guard := none }) (v := ?_) rfl (by kernel_rfl) (by kernel_rfl) (by kernel_rfl) (fun _ _ _ h => h) (Or.inl ⟨by rfl, ?_⟩) (by assumption) ?_
      rotate_left
      · ((intro w hSw; (try dsimp only at hSw); go_simp; (try rw [if_neg (by omega)])); try with_reducible rfl)
      (try simp only [Act.put, List.setIfInBounds_toArray, List.set_cons_zero, List.set_cons_succ])
      refine wpAnyH_take (i := 6) (oi := { dst := some 69, op := Op.load 5 (Operand.tmp 68), type := 5, pos := "law.go:234", after := #[{ on := 5, ground := Ground.data }, { on := 10, ground := Ground.gcOnly Departure.lateStores }], guard := none }) (v := ?_) rfl (by kernel_rfl) (by kernel_rfl) (by kernel_rfl) (fun _ _ _ h => h) (Or.inl ⟨by rfl, ?_⟩) (by assumption) ?_
      rotate_left
      · ((intro w hSw; (try dsimp only at hSw); go_simp; (try rw [if_neg (by omega)])); try with_reducible rfl)
      (try simp only [Act.put, List.setIfInBounds_toArray, List.set_cons_zero, List.set_cons_succ])
      refine wpAnyH_take (i := 7) (oi := { dst := some 70, op := Op.convert 5 3 (Operand.tmp 69), type := 3, pos := "law.go:234", after := #[{ on := 6, ground := Ground.data }, { on := 10, ground := Ground.gcOnly Departure.lateStores }], guard := none }) (v := ?_) rfl (by kernel_rfl) (by kernel_rfl) (by kernel_rfl) (fun _ _ _ h => h) (Or.inl ⟨by rfl, ?_⟩) (by assumption) ?_
      rotate_left
      · ((intro w hSw; (try dsimp only at hSw); go_simp; (try rw [if_neg (by omega)])); try with_reducible rfl)
      (try simp only [Act.put, List.setIfInBounds_toArray, List.set_cons_zero, List.set_cons_succ])
      refine wpAnyH_take (i := 8) (oi := { dst := some 71, op := Op.move (Operand.tmp 7), type := 3, pos := "law.go:234", after := #[{ on := 10, ground := Ground.gcOnly Departure.lateStores }], guard := none }) (v := ?_) rfl (by kernel_rfl) (by kernel_rfl) (by kernel_rfl) (fun _ _ _ h => h) (Or.inl ⟨by rfl, ?_⟩) (by assumption) ?_
      rotate_left
      · ((intro w hSw; (try dsimp only at hSw); go_simp; (try rw [if_neg (by omega)])); try with_reducible rfl)
      (try simp only [Act.put, List.setIfInBounds_toArray, List.set_cons_zero, List.set_cons_succ])
      refine wpAnyH_take (i := 9) (oi := { dst := some 72, op := Op.binOp BinOp.rem 3 (Operand.tmp 70) (Operand.tmp 71) 3, type := 3, pos := "law.go:234", after := #[{ on := 7, ground := Ground.data }, { on := 8, ground := Ground.data }, { on := 10, ground := Ground.gcOnly Departure.lateStores }], guard := none }) (v := ?_) rfl (by kernel_rfl) (by kernel_rfl) (by kernel_rfl) (fun _ _ _ h => h) (Or.inl ⟨by rfl, ?_⟩) (by assumption) ?_
      rotate_left
      · ((intro w hSw; (try dsimp only at hSw); go_simp; (try rw [if_neg (by omega)])); try with_reducible rfl)
      (try simp only [Act.put, List.setIfInBounds_toArray, List.set_cons_zero, List.set_cons_succ])
      refine wpAnyH_take (i := 10) (oi := { dst := some 15, op := Op.assign (Operand.tmp 67), type := 3, pos := "law.go:234", after := #[{ on := 4, ground := Ground.data }, { on := 0, ground := Ground.phase }, { on := 1, ground := Ground.phase }, { on := 2, ground := Ground.phase }, { on := 3, ground := Ground.phase }, { on := 4, ground := Ground.phase }, { on := 5, ground := Ground.textOnly Departure.lateStores }, { on := 6, ground := Ground.textOnly Departure.lateStores }, { on := 7, ground := Ground.textOnly Departure.lateStores }, { on := 8, ground := Ground.textOnly Departure.lateStores }, { on := 9, ground := Ground.textOnly Departure.lateStores }], guard := none }) (v := ?_) rfl (by kernel_rfl) (by kernel_rfl) (by kernel_rfl) (fun _ _ _ h => h) (Or.inl ⟨by rfl, ?_⟩) (by assumption) ?_
      rotate_left
      · ((intro w hSw; (try dsimp only at hSw); go_simp; (try rw [if_neg (by omega)])); try with_reducible rfl)
      (try simp only [Act.put, List.setIfInBounds_toArray, List.set_cons_zero, List.set_cons_succ])
      refine wpAnyH_take (i := 11) (oi := { dst := some 16, op := Op.assign (Operand.tmp 72), type := 3, pos := "law.go:234", after := #[{ on := 9, ground := Ground.data }, { on := 10, ground := Ground.chain }, { on := 0, ground := Ground.phase }, { on := 1, ground := Ground.phase }, { on := 2, ground := Ground.phase }, { on := 3, ground := Ground.phase }, { on := 4, ground := Ground.phase }, { on := 5, ground := Ground.phase }, { on := 6, ground := Ground.phase }, { on := 7, ground := Ground.phase }, { on := 8, ground := Ground.phase }, { on := 9, ground := Ground.phase }, { on := 10, ground := Ground.phase }], guard := none }) (v := ?_) rfl (by kernel_rfl) (by kernel_rfl) (by kernel_rfl) (fun _ _ _ h => h) (Or.inl ⟨by rfl, ?_⟩) (by assumption) ?_
      rotate_left
      · ((intro w hSw; (try dsimp only at hSw); go_simp; (try rw [if_neg (by omega)])); try with_reducible rfl)
      (try simp only [Act.put, List.setIfInBounds_toArray, List.set_cons_zero, List.set_cons_succ])
      refine wpAnyH_done (by kernel_rfl) ?_ _
      skip
      
      clear hHeld p1 p2 p3 p4 p5 p6
      go_simp
      obtain ⟨i0, hi0, hz0, hz1, hz2⟩ := info_parts info_u64
      go_upto_region 18 with fail
      go_wp2_with (at_builtin; refine wpList_appN _ rfl _ _ 32 rfl wd.heap.size 63 i0 _ 1 8 Tryd.underlying32 hi0 hz0 hz1 hz2 rfl (by decide) _ 0 [] rfl (own_empty wd 63 1 wd.heap.size (Nat.le_refl _)) _ ph (OL.map U6) (by rfl) (own_srcN (HAd.out.keep (balloc (Below.refl _ _) _)).own) (u64_cells OL) (by unfold maxLen; have := HPW.out; omega) (by have := HPW.out; omega) (by simp) ?_; intro v1 wp hown hgrow hor)
      have hb : Below wd.heap.size wd wp := (balloc (Below.refl _ wd) (.cells #[] 63)).grown hgrow (by simp) (fun k e => by have : wd.heap.size = k := Option.some.inj e; omega)
      rw [Nat.zero_add, List.nil_append] at hown
      obtain ⟨q, c, rfl, hq1, hq2, hq3⟩ := own_q hown (by have := HPW.out; omega)
      clear hgrow hor
      have HOWN := Lib.hid hown
      have HBp := Lib.hid (bnext HBd.out hb)
      have HAp := Lib.hid (HAd.out.keep hb)
      have HQ := Lib.hid (And.intro hq1 (And.intro hq2 hq3))
      clear hown hb hq1 hq2 hq3
      go_upto_region 19 with fail
      obtain ⟨x, hx⟩ : ∃ x, OL[j]? = some x := ⟨_, List.getElem?_eq_getElem (by rw [HA.out.len]; exact HIJ.out.2)⟩
      have hgd : OL.getD j 0 = x := by rw [List.getD_eq_getElem?_getD, hx]; rfl
      have hxl := HA.out.lt64 (by have := HPW.out; omega) x (List.mem_of_getElem? hx)
      have hpx := plan_pixel (A := OL) (w := pw) (i := i) (k := j) (by have := HPW.out; omega) HA.out.lt HIJ.out.1 (by rw [HA.out.len]; exact HIJ.out.2)
      rw [hgd] at hpx
      have hsh : PN.shl 1 i = 2 ^ i := by
        unfold PN.shl
        rw [Nat.one_mul]
        exact Nat.mod_eq_of_lt (Nat.pow_lt_pow_right (a := 2) (n := 64) (by decide) (by have := HIJ.out; have := HPW.out; omega))
      have t2 := shl_one i
      have t3 := u64_xor_nat x (PN.shl 1 i) hxl (PN.shl_lt _ _)
      rw [← hsh] at hpx
      obtain ⟨s1, hs1⟩ : ∃ s1, PN.shl 1 i = s1 := ⟨_, rfl⟩
      rw [hs1] at t2 t3 hpx
      obtain ⟨o, ho⟩ : ∃ o, x ^^^ s1 = o := ⟨_, rfl⟩
      rw [ho] at t3 hpx
      have HPX := Lib.hid hpx
      have m64 : min i 64 = i := by have := HIJ.out; have := HPW.out; omega
      have j0 : (0 : Int) ≤ (j : Int) := by omega
      have j1 : (j : Int) < (ph : Int) := by have := HIJ.out; omega
      have i0' : (0 : Int) ≤ (i : Int) := by omega
      have hdr := Below.drew (Below.refl wp.heap.size wp)
      have HOD := Lib.hid (own_below HOWN.out hdr)
      have hk1 := ua_own HOD.out hx
      have hk2 := HOD.out.frozenAt j
      have HKD := Lib.hid (And.intro hk1 hk2)
      clear hk1 hk2 hx hgd hxl hpx hsh hs1 ho hdr
      refine wp_region_last #[{ dst := some 76, op := Op.move (Operand.tmp 17), type := 32, pos := "law.go:236", after := #[], guard := none }, { dst := some 77, op := Op.move (Operand.tmp 16), type := 3, pos := "law.go:236", after := #[], guard := none }, { dst := some 78, op := Op.move (Operand.tmp 17), type := 32, pos := "law.go:236", after := #[], guard := none }, { dst := some 79, op := Op.move (Operand.tmp 16), type := 3, pos := "law.go:236", after := #[], guard := none }, { dst := some 80, op := Op.indexAddr 32 (Operand.tmp 78) (Operand.tmp 79), type := 0, pos := "law.go:236", after := #[{ on := 2, ground := Ground.data }, { on := 3, ground := Ground.data }], guard := none }, { dst := some 81, op := Op.load 63 (Operand.tmp 80), type := 63, pos := "law.go:236", after := #[{ on := 4, ground := Ground.data }], guard := none }, { dst := some 82, op := Op.move (Operand.tmp 15), type := 3, pos := "law.go:236", after := #[], guard := none }, { dst := some 83, op := Op.binOp BinOp.shl 63 (Operand.const (Value.int IntKind.u64 1)) (Operand.tmp 82) 3, type := 63, pos := "law.go:236", after := #[{ on := 6, ground := Ground.data }], guard := none }, { dst := some 84, op := Op.binOp BinOp.xor 63 (Operand.tmp 81) (Operand.tmp 83) 63, type := 63, pos := "law.go:236", after := #[{ on := 5, ground := Ground.data }, { on := 7, ground := Ground.data }], guard := none }, { dst := some 85, op := Op.indexAddr 32 (Operand.tmp 76) (Operand.tmp 77), type := 0, pos := "law.go:236", after := #[{ on := 0, ground := Ground.data }, { on := 1, ground := Ground.data }, { on := 0, ground := Ground.phase }, { on := 1, ground := Ground.phase }, { on := 2, ground := Ground.phase }, { on := 3, ground := Ground.phase }, { on := 4, ground := Ground.phase }, { on := 5, ground := Ground.phase }, { on := 6, ground := Ground.phase }, { on := 7, ground := Ground.phase }, { on := 8, ground := Ground.phase }], guard := none }] { dst := none, op := Op.store 63 (Operand.tmp 85) (Operand.tmp 84), type := 0, pos := "law.go:236", after := #[{ on := 9, ground := Ground.data }, { on := 8, ground := Ground.data }, { on := 0, ground := Ground.phase }, { on := 1, ground := Ground.phase }, { on := 2, ground := Ground.phase }, { on := 3, ground := Ground.phase }, { on := 4, ground := Ground.phase }, { on := 5, ground := Ground.phase }, { on := 6, ground := Ground.phase }, { on := 7, ground := Ground.phase }, { on := 8, ground := Ground.phase }], guard := none } rfl (by kernel_rfl) (by kernel_rfl) ((fun w' => w'.cell? ⟨q, j, none⟩ = some (U6 x) ∧ w'.frozen? ⟨q, j, none⟩ = false)) ?_ (fun hHeld => ?_)
      · exact HKD.out
      refine wpAnyH_take (i := 0) (oi := { dst := some 76, op := Op.move (Operand.tmp 17), type := 32, pos := "law.go:236", after := #[], guard := none }) (v := ?_) rfl (by kernel_rfl) (by kernel_rfl) (by kernel_rfl) (fun _ _ _ h => h) (Or.inl ⟨by rfl, ?_⟩) (by assumption) ?_
      rotate_left
      · ((intro w hSw; (try dsimp only at hSw); go_simp; (try rw [if_neg (by omega)])); try with_reducible rfl)
      (try simp only [Act.put, List.setIfInBounds_toArray, List.set_cons_zero, List.set_cons_succ])
      refine wpAnyH_take (i := 1) (oi := { dst := some 77, op := Op.move (Operand.tmp 16), type := 3, pos := "law.go:236", after := #[], guard := none }) (v := ?_) rfl (by kernel_rfl) (by kernel_rfl) (by kernel_rfl) (fun _ _ _ h => h) (Or.inl ⟨by rfl, ?_⟩) (by assumption) ?_
      rotate_left
      · ((intro w hSw; (try dsimp only at hSw); go_simp; (try rw [if_neg (by omega)])); try with_reducible rfl)
      (try simp only [Act.put, List.setIfInBounds_toArray, List.set_cons_zero, List.set_cons_succ])
      refine wpAnyH_take (i := 2) (oi := { dst := some 78, op := Op.move (Operand.tmp 17), type := 32, pos := "law.go:236", after := #[], guard := none }) (v := ?_) rfl (by kernel_rfl) (by kernel_rfl) (by kernel_rfl) (fun _ _ _ h => h) (Or.inl ⟨by rfl, ?_⟩) (by assumption) ?_
      rotate_left
      · ((intro w hSw; (try dsimp only at hSw); go_simp; (try rw [if_neg (by omega)])); try with_reducible rfl)
      (try simp only [Act.put, List.setIfInBounds_toArray, List.set_cons_zero, List.set_cons_succ])
      refine wpAnyH_take (i := 3) (oi := { dst := some 79, op := Op.move (Operand.tmp 16), type := 3, pos := "law.go:236", after := #[], guard := none }) (v := ?_) rfl (by kernel_rfl) (by kernel_rfl) (by kernel_rfl) (fun _ _ _ h => h) (Or.inl ⟨by rfl, ?_⟩) (by assumption) ?_
      rotate_left
      · ((intro w hSw; (try dsimp only at hSw); go_simp; (try rw [if_neg (by omega)])); try with_reducible rfl)
      (try simp only [Act.put, List.setIfInBounds_toArray, List.set_cons_zero, List.set_cons_succ])
      refine wpAnyH_take (i := 4) (oi := { dst := some 80, op := Op.indexAddr 32 (Operand.tmp 78) (Operand.tmp 79), type := 0, pos := "law.go:236", after := #[{ on := 2, ground := Ground.data }, { on := 3, ground := Ground.data }], guard := none }) (v := ?_) rfl (by kernel_rfl) (by kernel_rfl) (by kernel_rfl) (fun _ _ _ h => h) (Or.inl ⟨by rfl, ?_⟩) (by assumption) ?_
      rotate_left
      · ((intro w hSw; (try dsimp only at hSw); go_simp; (try rw [if_neg (by omega)])); try with_reducible rfl)
      (try simp only [Act.put, List.setIfInBounds_toArray, List.set_cons_zero, List.set_cons_succ])
      refine wpAnyH_take (i := 5) (oi := { dst := some 81, op := Op.load 63 (Operand.tmp 80), type := 63, pos := "law.go:236", after := #[{ on := 4, ground := Ground.data }], guard := none }) (v := ?_) rfl (by kernel_rfl) (by kernel_rfl) (by kernel_rfl) (fun _ _ _ h => h) (Or.inl ⟨by rfl, ?_⟩) (by assumption) ?_
      rotate_left
      · ((intro w hSw; (try dsimp only at hSw); go_simp; (try rw [if_neg (by omega)])); try with_reducible rfl)
      (try simp only [Act.put, List.setIfInBounds_toArray, List.set_cons_zero, List.set_cons_succ])
      refine wpAnyH_take (i := 6) (oi := { dst := some 82, op := Op.move (Operand.tmp 15), type := 3, pos := "law.go:236", after := #[], guard := none }) (v := ?_) rfl (by kernel_rfl) (by kernel_rfl) (by kernel_rfl) (fun _ _ _ h => h) (Or.inl ⟨by rfl, ?_⟩) (by assumption) ?_
      rotate_left
      · ((intro w hSw; (try dsimp only at hSw); go_simp; (try rw [if_neg (by omega)])); try with_reducible rfl)
      (try simp only [Act.put, List.setIfInBounds_toArray, List.set_cons_zero, List.set_cons_succ])
      refine wpAnyH_take (i := 7) (oi := { dst := some 83, op := Op.binOp BinOp.shl 63 (Operand.const (Value.int IntKind.u64 1)) (Operand.tmp 82) 3, type := 63, pos := "law.go:236", after := #[{ on := 6, ground := Ground.data }], guard := none }) (v := ?_) rfl (by kernel_rfl) (by kernel_rfl) (by kernel_rfl) (fun _ _ _ h => h) (Or.inl ⟨by rfl, ?_⟩) (by assumption) ?_
      rotate_left
      · ((intro w hSw; (try dsimp only at hSw); go_simp; (try rw [if_neg (by omega)])); try with_reducible rfl)
      (try simp only [Act.put, List.setIfInBounds_toArray, List.set_cons_zero, List.set_cons_succ])
      refine wpAnyH_take (i := 8) (oi := { dst := some 84, op := Op.binOp BinOp.xor 63 (Operand.tmp 81) (Operand.tmp 83) 63, type := 63, pos := "law.go:236", after := #[{ on := 5, ground := Ground.data }, { on := 7, ground := Ground.data }], guard := none }) (v := ?_) rfl (by kernel_rfl) (by kernel_rfl) (by kernel_rfl) (fun _ _ _ h => h) (Or.inl ⟨by rfl, ?_⟩) (by assumption) ?_
      rotate_left
      · ((intro w hSw; (try dsimp only at hSw); go_simp; (try rw [if_neg (by omega)])); try with_reducible rfl)
      (try simp only [Act.put, List.setIfInBounds_toArray, List.set_cons_zero, List.set_cons_succ])
      refine wpAnyH_take (i := 9) (oi := { dst := some 85, op := Op.indexAddr 32 (Operand.tmp 76) (Operand.tmp 77), type := 0, pos := "law.go:236", after := #[{ on := 0, ground := Ground.data }, { on := 1, ground := Ground.data }, { on := 0, ground := Ground.phase }, { on := 1, ground := Ground.phase }, { on := 2, ground := Ground.phase }, { on := 3, ground := Ground.phase }, { on := 4, ground := Ground.phase }, { on := 5, ground := Ground.phase }, { on := 6, ground := Ground.phase }, { on := 7, ground := Ground.phase }, { on := 8, ground := Ground.phase }], guard := none }) (v := ?_) rfl (by kernel_rfl) (by kernel_rfl) (by kernel_rfl) (fun _ _ _ h => h) (Or.inl ⟨by rfl, ?_⟩) (by assumption) ?_
      rotate_left
      · ((intro w hSw; (try dsimp only at hSw); go_simp; (try rw [if_neg (by omega)])); try with_reducible rfl)
      (try simp only [Act.put, List.setIfInBounds_toArray, List.set_cons_zero, List.set_cons_succ])
      refine wpAnyH_done (by kernel_rfl) ?_ _
      show Oper.wp _ _ _ _ _ _
      clear hHeld
      have hc3 := HKD.out.2
      have hc4 := HKD.out.1
      go_simp
      clear t2 t3 m64 j0 j1 i0' hc3 hc4
      have hst0 := HOD.out.stored j (U6 o)
      have hset : (OL.map U6).set j (U6 o) = (OL.set j o).map U6 := by simp
      rw [hset] at hst0
      have hbs : Below w.heap.size w (wp.drew.setCell ⟨q, j, none⟩ (U6 o)) := bset (bnext HBp.out (Below.drew (Below.refl _ wp))) (p := ⟨q, j, none⟩) (by have h1 := HQ.out; have h2 := HBd.out.size; show _ ≤ q; omega) _
      have hfs := FrS.set (S := fun b => b = q) wp.drew (b := q) (i := j) rfl (U6 o)
      have has := (HAp.out.keep (Below.drew (Below.refl _ wp))).frame hfs (by have h1 := HQ.out; have h2 := HAd.out.hi; omega)
      have hst : (wp.setCell ⟨q, j, none⟩ (U6 o)).drew.ownsRow wd.heap.size 63 1 (.slice (some ⟨q, 0, none⟩) ph c) ph ((OL.set j o).map U6) := hst0.1
      have hbs' : Below w.heap.size w (wp.setCell ⟨q, j, none⟩ (U6 o)).drew := hbs
      have has' : Pg (wp.setCell ⟨q, j, none⟩ (U6 o)).drew w4.heap.size ga ca ph pw OL := has
      clear hst0 hbs has
      obtain ⟨ws, hws⟩ : ∃ ws, (wp.setCell ⟨q, j, none⟩ (U6 o)).drew = ws := ⟨_, rfl⟩
      rw [hws] at hst hbs' has'
      obtain ⟨OT, hOT⟩ : ∃ OT, OL.set j o = OT := ⟨_, rfl⟩
      have hOTl : OT.length = ph := by rw [← hOT, List.length_set]; exact HA.out.len
      rw [hOT] at HPX hst
      have HOT : Hid (UA ws (.slice (some ⟨q, 0, none⟩) ph c) OT) := Lib.hid (own_ua hst)
      have HBs := Lib.hid hbs'
      have HAs := Lib.hid has'
      have HOL2 := Lib.hid hOTl
      go_upto_region 20 with fail
      try rw [hws]
      clear hst hbs' has' hfs hws hOT hOTl hset
      have hpe : planP OL OT (pw : Int) 1 = [⟨i, j, 1, 1⟩] := by
        unfold planP
        rw [if_pos (by unfold planOk; have := HPW.out; have := HA.out.len; have := HOL2.out; omega), Int.toNat_natCast]
        exact HPX.out.2
      have hpl := plan_any ws g (HLD.out.mono HBs.out) _ _ OL OT (pw : Int) 1 HAs.out.ua HOT.out (by have := HPW.out; have := HA.out.len; omega) (by have := HPW.out; have := HOL2.out; omega) (by omega) (HA.out.lt64 (by have := HPW.out; omega)) (fun r hr => Nat.lt_of_lt_of_le (HPX.out.1 r hr) (Nat.pow_le_pow_right (n := 2) (j := 64) (by decide) (by have := HPW.out; omega)))
      rw [hpe] at hpl
      clear hpe
      have HC := Lib.hid hpl
      go_wp2_with fail
      go_at_call 22
      refine HC.out.mono ?_
      rintro e w9 ⟨vp, rfl, ko, k9⟩
      clear HC hpl
      have HB9 := Lib.hid (bnext HBs.out k9)
      have HP9 := Lib.hid (own_srcN ko)
      clear ko k9
      go_wp2_with fail
      go_at_call 33
      refine (rect_any _ (i : Int) (j : Int) 1 1).mono ?_
      rintro u wa ⟨rfl, ka⟩
      have hb1 := balloc (Below.refl _ wa) (.cells #[.int .i64 (i : Int), .int .i64 (j : Int), .int .i64 1, .int .i64 1] 31)
      have hsr := samer_any (wa.alloc (.cells #[.int .i64 (i : Int), .int .i64 (j : Int), .int .i64 1, .int .i64 1] 31)) [⟨i, j, 1, 1⟩] [⟨i, j, 1, 1⟩] vp (.slice (some ⟨wa.heap.size, 0, none⟩) 1 1) 1 1 rfl rfl ((HP9.out.keep ka).keep hb1) (srcN_new wa [.int .i64 (i : Int), .int .i64 (j : Int), .int .i64 1, .int .i64 1] 31 4 1 1 rfl) (by decide) (by decide)
      rw [decide_eq_true rfl] at hsr
      have HBa := Lib.hid (bnext (bnext HB9.out ka) hb1)
      have HC := Lib.hid hsr
      clear hsr hb1 ka
      go_wp2_with fail
      go_at_call 21
      refine HC.out.mono ?_
      rintro u we ⟨rfl, ke⟩
      have HBe := Lib.hid (bnext HBa.out ke)
      clear HC ke
      go_wp2
      go_ret
      exact ⟨rfl, HBe.out⟩

set_option maxRecDepth 100000 in
theorem lifted (os : Os) (started : os.Started) (H : Type) (enc : TypeId × Value → H) :
    ReturnsInHanded {} Tryd.checked os 9 .any (fun w args => (Rows.panelMoreSpec.pre enc Tryd.prog Tryd.f9 [] false w args ∧ laidMetH Tryd.prog laidL w) ∧ sizedMet enc Tryd.prog Tryd.f9 (OpenSpec.ofChange Rows.panelMoreSpec) false w args)
      (Rows.panelMoreSpec.post enc Tryd.prog Tryd.f9 false true false false) := by
  refine returnsInHanded_of_change_and (C := Tryd.checked) (X := fun w _ => laidMetH Tryd.prog laidL w) (fun _ _ _ hh h => h.of_heap hh) own started (by kernel_rfl) Tryd.func9
    (ChangeSpec.witness_shaped (enc := enc) (C := Tryd.checked) (os := os) (X := fun w _ => laidMetH Tryd.prog laidL w) false (World.doorLaid Tryd.prog 46 os) #[.agg #[.int .u8 0, .int .u8 0, .slice none 0 0, .slice none 0 0, .int .u8 0], .agg #[.int .u8 0, .int .u8 0]] 8 rfl (World.shaped_of_RefB (by kernel_rfl) (by kernel_rfl)) (by kernel_rfl) (by kernel_rfl) (by kernel_rfl) (door_met os _)) ?_
  intro W base args ds gs before hval0 hW _ _ hL _
  have hval : ∀ (j : Nat) t v, Tryd.f9.params[j]? = some t → args[j]? = some v → Value.okWide Tryd.prog W .any base t v := hval0
  have hW' := hW
  obtain ⟨p, q, hA0, hV, rfl, hfz, hnd⟩ := hW
  have hA : DataW.TrodAll enc Tryd.prog W 0 (fun _ => true) true Tryd.f9.params.toList args.toList ds p := hA0
  rw [Tryd.params9] at hA hval
  obtain ⟨v0, vs0, d0, ds0, p0, q0, hargs, rfl, rfl, h0, r0⟩ := trodAll_cons hA
  obtain ⟨v1, vs1, d1, ds1, p1, q1, rfl, rfl, rfl, h1, r1⟩ := trodAll_cons r0
  obtain ⟨rfl, rfl, rfl⟩ := trodAll_nil r1
  obtain rfl : args = #[v0, v1] := by cases args; simp_all
  obtain ⟨rfl, rfl⟩ := trodVars_none hV
  obtain ⟨g, hlaid⟩ := of_laid hL
  have k0 := h0
  have lt0 : ∀ x ∈ p0, x.block < W.heap.size := by obtain ⟨m, hm⟩ := k0; exact DataW.trod_lt m _ _ _ hm
  have k1 := h1
  have lt1 : ∀ x ∈ p1, x.block < W.heap.size := by obtain ⟨m, hm⟩ := k1; exact DataW.trod_lt m _ _ _ hm
  obtain ⟨a0, b0, c0, p0, q0, l0, m0, rfl, H0⟩ := open_case (hval 0 53 v0 rfl rfl) h0
  obtain ⟨a1, b1, rfl, wa1, wb1⟩ := open_arr2 Tryd.underlying22 Tryd.underlying5 (by kernel_rfl) (by kernel_rfl) (hval 1 22 v1 rfl rfl) h1
  clear hA0 hval0
  refine (walk a0 b0 c0 p0 q0 l0 m0 a1 b1 g wa1 wb1 W hlaid H0).mono fun e W' ⟨he, bel⟩ => ?_
  subst he
  exact ⟨_, rfl, _, _, _, [], _, [], hW', trodAll_mk1 (shut_bool Tryd.underlying4 _), (trodAll_cons_mk (Below.trod laidOut (by kernel_rfl) (of_decide_eq_true (by kernel_rfl)) k0 bel lt0) (trodAll_cons_mk (Below.trod laidOut (by kernel_rfl) (of_decide_eq_true (by kernel_rfl)) k1 bel lt1) trodAll_mk0)), rfl, bel.frame _, fun h => by cases h⟩

theorem over : Rows.panelMoreRow.holds Tryd.pinned (OpenSpec.ofChange Rows.panelMoreSpec) :=
  OpenClaim.holds_of_wide 9 Tryd.f9 rfl rfl rfl rfl rfl rfl rfl ⟨rfl, rfl, rfl, rfl, rfl⟩ rfl rfl rfl rfl rfl (by kernel_rfl) Tryd.func9 (by kernel_rfl)
    (of_decide_eq_true (by kernel_rfl)) (by unfold Func.isWrapper; first | (rw [if_pos (by decide +kernel)]; kernel_rfl) | (rw [if_neg (by decide +kernel)]; exact ⟨rfl, rfl⟩))
    (fun os started H enc _ => lifted os started H enc)

/-- The row's card, tied to the program's text. -/
theorem card : Rows.PanelMoreCardSaid :=
  Claim7.holds_tied_plain_at .later [] [.data] true Rows.panelMoreCard.stood.harness false
    over (fun _ h => by cases h) (by kernel_rfl) (fun _ h => by cases h) panelMore_row_tie rfl ⟨rfl, rfl⟩ (by kernel_rfl) rfl
    (fun f fn hf hfn => by
      obtain rfl : f = 9 := Option.some.inj ((show Tryd.prog.funcNamed "abugida/abugidalaw33.PanelMore" = some 9 by kernel_rfl).symm.trans hf) |>.symm
      obtain rfl : fn = Tryd.f9 := (Option.some.inj (Tryd.func9.symm.trans hfn)).symm
      exact ⟨by kernel_rfl, fun j t ht => by
        rw [Tryd.params9] at ht
        have hm : t ∈ [53, 22] := by simpa using Array.mem_of_getElem? ht
        have hall : ([53, 22].all fun u => !Tryd.prog.wantsStandIn u) = true := by kernel_rfl
        exact (show Tryd.prog.wantsStandIn t = false by simpa using List.all_eq_true.1 hall t hm)⟩)
    (by kernel_rfl)

end Go.Proofs.YtmiennkldkcnfaaDoor.panelMore
namespace Go.Proofs.YtmiennkldkcnfaaDoor
theorem panelMore_proved : Rows.PanelMoreCardSaid := panelMore.card
#print axioms panelMore_proved
end Go.Proofs.YtmiennkldkcnfaaDoor
