/- For every case OutlineDefault returns true: where all regions have the scalar 0, an outline has 64 times the numbers of its glyph. No conditions. -/
import Derived.Test.YtanppbdlcinpfaaOl47
namespace Go.Proofs.Ytanppbdlcinpfaa.outlineDefault
open Go.ChangeShapes Go.WideShapes Go.ChangeAt Go.RowKit Go.Joins Go.Deep
set_option linter.unusedVariables false

set_option maxRecDepth 100000 in
set_option maxHeartbeats 16000000 in
theorem walk (v0 : Value) (g0 : List Int) (s0 : List Int) (t0 : List Int) (a0 : Int) (b0 : Int) (c0 : Int) (x0 : Int) (y0 : Int)  (w : World) (H0 : CaArg w v0 g0 s0 t0 a0 b0 c0 x0 y0) :
    Calls Try.prog 7 #[v0] w fun e w' => e = .returned (.bool true) ∧ Below w.heap.size w w' := by
  have HCA0 := Lib.hid H0
  obtain ⟨ag, cg, ar, cr, aa, ca, rfl, -⟩ := id H0
  obtain ⟨ng, hng⟩ : ∃ z, g0.length = z := ⟨_, rfl⟩
  obtain ⟨nr, hnr⟩ : ∃ z, s0.length = z := ⟨_, rfl⟩
  obtain ⟨na, hna⟩ : ∃ z, t0.length = z := ⟨_, rfl⟩
  rw [hng, hnr, hna] at HCA0 ⊢
  clear H0 hng hnr hna
  obtain ⟨B, hB⟩ : ∃ B, w.heap.size = B := ⟨_, rfl⟩
  have hx1 := heap_alloc_new w (.cells #[.slice ag ng cg, .slice ar nr cr, .slice aa na ca, .int .i64 a0, .int .i64 b0, .int .i64 c0, .int .u8 x0, .int .u8 y0] 25)
  have hb1 := balloc (Below.refl _ w) (.cells #[.slice ag ng cg, .slice ar nr cr, .slice aa na ca, .int .i64 a0, .int .i64 b0, .int .i64 c0, .int .u8 x0, .int .u8 y0] 25)
  obtain ⟨w1, hw1⟩ : ∃ w1, w.alloc (.cells #[.slice ag ng cg, .slice ar nr cr, .slice aa na ca, .int .i64 a0, .int .i64 b0, .int .i64 c0, .int .u8 x0, .int .u8 y0] 25) = w1 := ⟨_, rfl⟩
  rw [hw1, hB] at hx1
  rw [hw1] at hb1
  have HB1 := Lib.hid hb1
  have HXC := Lib.hid hx1
  have HKC : Hid (∀ U, Below w1.heap.size w1 U → U.cell? ⟨B, 0, none⟩ = some (.slice ag ng cg) ∧ U.cell? ⟨B, 1, none⟩ = some (.slice ar nr cr) ∧ U.cell? ⟨B, 2, none⟩ = some (.slice aa na ca) ∧ U.cell? ⟨B, 3, none⟩ = some (.int .i64 a0) ∧ U.cell? ⟨B, 4, none⟩ = some (.int .i64 b0) ∧ U.cell? ⟨B, 5, none⟩ = some (.int .i64 c0) ∧ U.cell? ⟨B, 6, none⟩ = some (.int .u8 x0) ∧ U.cell? ⟨B, 7, none⟩ = some (.int .u8 y0)) := Lib.hid fun U hU => by
    have h := (hU.block B (Array.getElem?_eq_some_iff.1 HXC.out).1).trans HXC.out
    exact ⟨nd_cell h rfl, nd_cell h rfl, nd_cell h rfl, nd_cell h rfl, nd_cell h rfl, nd_cell h rfl, nd_cell h rfl, nd_cell h rfl⟩
  clear hx1 hb1
  go_enter Try.func7, Try.ntmps7
  go_upto_region 1 with fail
  try rw [hB]
  try rw [hw1]
  clear hB hw1
  go_wp2_with fail
  go_at_call 10
  refine (sane_any _).mono ?_
  rintro e w2 ⟨rfl, k2⟩
  have HB2 := Lib.hid k2
  clear k2
  have HMD := Lib.hid (made_any w2 _ _ _ _ _ _ _ _ _ (HCA0.out.keep (bnext HB1.out HB2.out)))
  obtain ⟨o0, o1, o2, o3, o4, o5, o6, o7⟩ := HKC.out w2 HB2.out
  go_wp2_with fail
  go_at_call 11
  refine HMD.out.mono ?_
  rintro e w3 ⟨u, ur, ua, G, R, n, many, L, rfl, hgk, hmk, hrg, hrl, hrr, hat, hn1, hn3, hm3, k3⟩
  obtain ⟨C, A, ⟨hc, hx, hy⟩, ad, DS, PR⟩ := G
  obtain ⟨vc, va, vd, rfl, hck, hac, hds, hpr⟩ := id hgk
  obtain ⟨c1, k1, rfl⟩ := hck.cs.shape
  obtain ⟨c2, k2, rfl⟩ := hac.shape
  obtain ⟨c3, k3', rfl⟩ := hds.shape
  dsimp only at hpr hck hac hds hgk ⊢
  subst hpr
  obtain ⟨n1, hn1'⟩ : ∃ z, C.length = z := ⟨_, rfl⟩
  obtain ⟨n2, hn2'⟩ : ∃ z, A.length = z := ⟨_, rfl⟩
  obtain ⟨n3, hn3'⟩ : ∃ z, DS.length = z := ⟨_, rfl⟩
  rw [hn1', hn2', hn3'] at hgk ⊢
  rw [hn1'] at hck
  rw [hn2'] at hac
  rw [hn3'] at hds
  have HPA := Lib.hid (And.intro hck.cs (And.intro hac hds))
  clear hck hac hds hn1' hn2' hn3'
  obtain ⟨ra, rk, rfl, -⟩ := id hrg
  obtain ⟨ta, tk, rfl, -⟩ := id hat
  rw [hrl] at hrg ⊢
  rw [AX.mkAt_len] at hat ⊢
  have HGK := Lib.hid hgk
  have HMK := Lib.hid hmk
  have HRG := Lib.hid (And.intro hrg (And.intro hrl hrr))
  have HAT := Lib.hid hat
  have HB3 := Lib.hid k3
  clear HMD hgk hmk hrg hrl hrr hat k3 o0 o1 o2 o3 o4 o5 o6 o7
  have hxn := heap_alloc_new w3 (.cells #[.slice none 0 0, .slice none 0 0, .int .i64 0, .int .i64 0, .int .i64 0, .int .i64 0, .slice none 0 0, .slice none 0 0] 34)
  have hbn := balloc (Below.refl _ w3) (.cells #[.slice none 0 0, .slice none 0 0, .int .i64 0, .int .i64 0, .int .i64 0, .int .i64 0, .slice none 0 0, .slice none 0 0] 34)
  obtain ⟨X, hX⟩ : ∃ X, w3.heap.size = X := ⟨_, rfl⟩
  obtain ⟨wa, hwa⟩ : ∃ wa, w3.alloc (.cells #[.slice none 0 0, .slice none 0 0, .int .i64 0, .int .i64 0, .int .i64 0, .int .i64 0, .slice none 0 0, .slice none 0 0] 34) = wa := ⟨_, rfl⟩
  have HXo : Hid (X = w3.heap.size) := Lib.hid hX.symm
  rw [hX, hwa] at hxn
  rw [hwa] at hbn
  have bc0 : wa.cell? ⟨X, 0, none⟩ = some (.slice none 0 0) := nd_cell hxn rfl
  have bc1 : wa.cell? ⟨X, 1, none⟩ = some (.slice none 0 0) := nd_cell hxn rfl
  have bc2 : wa.cell? ⟨X, 2, none⟩ = some (.int .i64 0) := nd_cell hxn rfl
  have bc3 : wa.cell? ⟨X, 3, none⟩ = some (.int .i64 0) := nd_cell hxn rfl
  have bc4 : wa.cell? ⟨X, 4, none⟩ = some (.int .i64 0) := nd_cell hxn rfl
  have bc5 : wa.cell? ⟨X, 5, none⟩ = some (.int .i64 0) := nd_cell hxn rfl
  have bc6 : wa.cell? ⟨X, 6, none⟩ = some (.slice none 0 0) := nd_cell hxn rfl
  have bc7 : wa.cell? ⟨X, 7, none⟩ = some (.slice none 0 0) := nd_cell hxn rfl
  have bf0 := nd_froz hxn 0
  have bf1 := nd_froz hxn 1
  have bf2 := nd_froz hxn 2
  have bf3 := nd_froz hxn 3
  have bf4 := nd_froz hxn 4
  have bf5 := nd_froz hxn 5
  have bf6 := nd_froz hxn 6
  have bf7 := nd_froz hxn 7
  obtain ⟨w4, hwx, hxx, hfx⟩ := sto8 hxn (.slice c1 n1 k1) (.slice c2 n2 k2) (.int .i64 hc) (.int .i64 hx) (.int .i64 hy) (.int .i64 ad) (.slice c3 n3 k3') (.slice none 0 0)
  have HXX := Lib.hid hxx
  have HBX := Lib.hid (hfx.below w3 hbn (fun b hb => by rw [hb, HXo.out]; exact Nat.le_refl _))
  clear hxx hfx hbn hxn
  go_upto_region 3 with fail
  try rw [hwx]
  clear bc0 bf0 bc1 bf1 bc2 bf2 bc3 bf3 bc4 bf4 bc5 bf5 bc6 bf6 bc7 bf7 hwx hX hwa
  have HB4 := HBX
  have HXL : Hid (w3.heap.size ≤ X) := Lib.hid (by rw [HXo.out]; exact Nat.le_refl _)
  have HRI : Hid (∀ (i : Nat) (r : List AX.Tn), R[i]? = some r → ∃ g o pa pk, ra = some ⟨g, o, none⟩ ∧ ∀ U, Below w3.heap.size w3 U → U.cell? ⟨g, o + i, none⟩ = some (.slice pa r.length pk) ∧ TnAt U (.slice pa r.length pk) r) := Lib.hid fun i r hi => by
    obtain ⟨a', c', e1, h⟩ := HRG.out.1
    injection e1 with e1 _ _
    subst e1
    rcases h with h | ⟨g, o, rfl, hg, hc⟩
    · rw [h] at hi; simp at hi
    · obtain ⟨pa, pk, h1, h2⟩ := hc i r hi
      exact ⟨g, o, pa, pk, rfl, fun U hU => ⟨(hU.cell (p := ⟨g, o + i, none⟩) hg).trans h1, h2.keep hU⟩⟩
  obtain ⟨AT, hAT⟩ : ∃ a, AX.mkAt L n = a := ⟨_, rfl⟩
  have HATE := Lib.hid hAT
  rw [hAT] at HAT
  have HATL : Hid (AT.length = n) := Lib.hid (by rw [← hAT, AX.mkAt_len])
  clear hAT
  go_wp2_with fail
  go_loopw [24] (fun v24 wr => ∃ (i : Nat) (q : Value), v24 = .int .i64 (i : Int) ∧ i ≤ many ∧ Hid (wr.heap[X]? = some (.cells #[.slice c1 n1 k1, .slice c2 n2 k2, .int .i64 hc, .int .i64 hx, .int .i64 hy, .int .i64 ad, q, .slice none 0 0] 34 (0, 0))) ∧ Hid (q = .slice none 0 0 ∨ (q = .slice c3 n3 k3' ∧ ∀ (j : Nat) (r : List AX.Tn), j < i → R[j]? = some r → (AX.scalar r AT).1 = 0)) ∧ Hid (FrS (fun b => b = X) w4 wr)) (fun v24 _ => many - (intOf v24).toNat)
  case atStart => exact ⟨0, _, rfl, Nat.zero_le _, HXX, Lib.hid (.inr ⟨rfl, fun j r h => by omega⟩), Lib.hid (FrS.refl _ _)⟩
  case round =>
    obtain ⟨i, q, rfl, hi, HXQ, HQ, HFR⟩ := hrel
    have HBR : Hid (Below w3.heap.size w3 wr) := Lib.hid (HFR.out.bel HB4.out (fun b hb => by have := HXL.out; omega))
    by_cases him : i < many
    · have hii : (i : Int) < (many : Int) := by omega
      have hi0 : (0 : Int) ≤ (i : Int) := by omega
      obtain ⟨r, hr⟩ : ∃ r, R[i]? = some r := ⟨_, List.getElem?_eq_getElem (by rw [HRG.out.2.1]; exact him)⟩
      obtain ⟨g, o, pa, pk, rfl, hcl⟩ := HRI.out i r hr
      have HRR := Lib.hid hr
      have hrl := (HRG.out.2.2 r (List.mem_of_getElem? hr)).2
      rw [hrl] at hcl
      have HCL := Lib.hid hcl
      have hcell := (hcl wr HBR.out).1
      have HB5 := Lib.hid (balloc (Below.refl _ wr) (.cells #[.slice pa n pk] 63))
      clear hr hrl hcl
      go_upto_region 6 with fail
      clear hcell
      obtain ⟨⟨s1, s2⟩, hs⟩ : ∃ z, AX.scalar r AT = z := ⟨_, rfl⟩
      have hsc := scalar_any r AT (.slice pa n pk) (.slice ta n tk) (wr.alloc (.cells #[.slice pa n pk] 63)) (by have := (HRG.out.2.2 r (List.mem_of_getElem? HRR.out)).2; omega) (by rw [HATL.out]; omega) ((HCL.out _ (bnext HBR.out HB5.out)).2) (HAT.out.keep (bnext HBR.out HB5.out))
      rw [hs] at hsc
      have HSC := Lib.hid hsc
      have HSE := Lib.hid hs
      clear hsc hs
      go_wp2_with fail
      go_at_call 22
      refine HSC.out.mono ?_
      rintro e w5 ⟨rfl, k5⟩
      have HB6 := Lib.hid (bnext HB5.out k5)
      clear HSC k5
      have hxn := heap_alloc_new w5 (.cells #[.int .i64 0, .int .i64 0] 65)
      have hbn := balloc (Below.refl _ w5) (.cells #[.int .i64 0, .int .i64 0] 65)
      obtain ⟨SX, hX⟩ : ∃ SX, w5.heap.size = SX := ⟨_, rfl⟩
      obtain ⟨was, hwa⟩ : ∃ was, w5.alloc (.cells #[.int .i64 0, .int .i64 0] 65) = was := ⟨_, rfl⟩
      have HXos : Hid (SX = w5.heap.size) := Lib.hid hX.symm
      rw [hX, hwa] at hxn
      rw [hwa] at hbn
      have bc0 : was.cell? ⟨SX, 0, none⟩ = some (.int .i64 0) := nd_cell hxn rfl
      have bc1 : was.cell? ⟨SX, 1, none⟩ = some (.int .i64 0) := nd_cell hxn rfl
      have bf0 := nd_froz hxn 0
      have bf1 := nd_froz hxn 1
      obtain ⟨w6, hwx, hxx, hfx⟩ := sto2 hxn (.int .i64 s1) (.int .i64 s2)
      have HXXs := Lib.hid hxx
      have HBXs := Lib.hid (hfx.below w5 hbn (fun b hb => by rw [hb, HXos.out]; exact Nat.le_refl _))
      clear hxx hfx hbn hxn
      go_upto_region 7 with fail
      try rw [hwx]
      clear bc0 bf0 bc1 bf1 hwx hX hwa
      have HB7 := Lib.hid (bnext HB6.out HBXs.out)
      have hs0 : w6.cell? ⟨SX, 0, none⟩ = some (.int .i64 s1) := nd_cell HXXs.out rfl
      have HXQ6 : Hid (w6.heap[X]? = some (.cells #[.slice c1 n1 k1, .slice c2 n2 k2, .int .i64 hc, .int .i64 hx, .int .i64 hy, .int .i64 ad, q, .slice none 0 0] 34 (0, 0))) := Lib.hid ((HB7.out.block X (Array.getElem?_eq_some_iff.1 HXQ.out).1).trans HXQ.out)
      have HFR6 : Hid (FrS (fun b => b = X) w4 w6) := Lib.hid (HFR.out.then HB7.out)
      by_cases hz : s1 = 0
      · have hzb : (s1 != 0) = false := by simp [hz]
        have HQ2 : Hid (q = .slice none 0 0 ∨ (q = .slice c3 n3 k3' ∧ ∀ (j : Nat) (r : List AX.Tn), j < i + 1 → R[j]? = some r → (AX.scalar r AT).1 = 0)) := Lib.hid (by
          rcases HQ.out with h | ⟨h, h2⟩
          · exact .inl h
          · refine .inr ⟨h, fun j r' hj hr' => ?_⟩
            by_cases e : j = i
            · subst e
              rw [HRR.out] at hr'
              rw [← Option.some.inj hr', HSE.out]
              exact hz
            · exact h2 j r' (by omega) hr')
        clear hz
        go_wp2
        go_roundw
        case rel => exact ⟨i + 1, q, by go_num, by omega, HXQ6, HQ2, HFR6⟩
        case measure => simp [intOf]; omega
      · have hzb : (s1 != 0) = true := by simp [hz]
        have x6 : w6.cell? ⟨X, 6, none⟩ = some q := nd_cell HXQ6.out rfl
        have f6 := nd_froz HXQ6.out 6
        have HXQ7 : Hid ((w6.setCell ⟨X, 6, none⟩ (.slice none 0 0)).heap[X]? = some (.cells #[.slice c1 n1 k1, .slice c2 n2 k2, .int .i64 hc, .int .i64 hx, .int .i64 hy, .int .i64 ad, .slice none 0 0, .slice none 0 0] 34 (0, 0))) := Lib.hid (heap_setCell_same w6 X 6 _ _ (.slice none 0 0) HXQ6.out)
        clear hz
        go_wp2
        go_roundw
        case rel => exact ⟨i + 1, .slice none 0 0, by go_num, by omega, HXQ7, Lib.hid (.inl rfl), Lib.hid (HFR6.out.put (.inl rfl) _)⟩
        case measure => simp [intOf]; omega
    · have hii : ¬ (i : Int) < (many : Int) := by omega
      have HG2 : Hid (∃ DQ : List Dl, (∃ n4 c4 k4, q = .slice c4 n4 k4) ∧ (∀ U, Below wr.heap.size wr U → DsAt U q DQ) ∧ MkOk ⟨C, A, ⟨hc, hx, hy⟩, ad, DQ, []⟩ many ∧ ∀ d ∈ DQ, (AX.scalar (R.getD d.r.toNat []) AT).1 = 0) := Lib.hid (by
        rcases HQ.out with h | ⟨h, h2⟩
        · exact ⟨[], ⟨0, none, 0, h⟩, fun U hU => by rw [h]; exact ⟨[], rfl, SrcN.nil 3 U, fun i d hd => by simp at hd⟩, HMK.out.none, fun d hd => by simp at hd⟩
        · refine ⟨DS, ⟨n3, c3, k3', h⟩, fun U hU => by rw [h]; exact HPA.out.2.2.keep (bnext HBR.out hU), HMK.out, fun d hd => ?_⟩
          obtain ⟨-, h3, h4⟩ := HMK.out.mv d hd
          have h5 : d.r.toNat < R.length := by rw [HRG.out.2.1]; omega
          rw [List.getD_eq_getElem?_getD, List.getElem?_eq_getElem h5]
          exact h2 _ _ (by have := HRG.out.2.1; omega) (List.getElem?_eq_getElem h5))
      obtain ⟨DQ, ⟨n4, c4, k4, rfl⟩, hds, hmk, hz⟩ := HG2.out
      have HDS := Lib.hid hds
      have HMQ := Lib.hid hmk
      have HZQ := Lib.hid hz
      obtain ⟨D, hD⟩ : ∃ D, OL.draw ⟨C, A, ⟨hc, hx, hy⟩, ad, DQ, []⟩ R AT = D := ⟨_, rfl⟩
      have HDN : Hid (OL.nl D = (OL.nl ⟨C, A, ⟨hc, hx, hy⟩, ad⟩).map (64 * ·)) := Lib.hid (by
        rw [← hD, ← HATE.out]
        refine draw_zero hmk HRG.out.2.1 HRG.out.2.2 hn3 L (fun d hd => ?_)
        rw [HATE.out]
        exact hz d hd)
      have HDK : Hid (CsOk D.cs ∧ D.an.length ≤ 1000) := Lib.hid (by rw [← hD]; exact draw_ok hmk R _)
      have hat := at_any wr (.agg #[.slice c1 n1 k1, .slice c2 n2 k2, .int .i64 hc, .int .i64 hx, .int .i64 hy, .int .i64 ad, .slice c4 n4 k4, .slice none 0 0]) (.slice ra many rk) (.slice ta n tk) ⟨C, A, ⟨hc, hx, hy⟩, ad, DQ, []⟩ R AT ⟨_, _, _, _, rfl, HPA.out.1.keep HBR.out, HPA.out.2.1.keep HBR.out, hds wr (Below.refl _ _), SrcN.nil 2 _⟩ hmk.ok (HRG.out.1.keep HBR.out) (HAT.out.keep HBR.out) (by rw [HRG.out.2.1]; omega) (fun r hr => by rw [(HRG.out.2.2 r hr).2]; omega) (by rw [HATL.out]; omega)
      rw [show OL.at ⟨C, A, ⟨hc, hx, hy⟩, ad, DQ, []⟩ R AT = (D, 0) by rw [← HATE.out, hmk.at_ok HRG.out.2.1 HRG.out.2.2 hn3 L, HATE.out, hD]] at hat
      have HCT := Lib.hid hat
      have HKG : Hid (∀ U, Below wr.heap.size wr U → U.cell? ⟨X, 0, none⟩ = some (.slice c1 n1 k1) ∧ U.cell? ⟨X, 1, none⟩ = some (.slice c2 n2 k2) ∧ U.cell? ⟨X, 2, none⟩ = some (.int .i64 hc) ∧ U.cell? ⟨X, 3, none⟩ = some (.int .i64 hx) ∧ U.cell? ⟨X, 4, none⟩ = some (.int .i64 hy) ∧ U.cell? ⟨X, 5, none⟩ = some (.int .i64 ad) ∧ U.cell? ⟨X, 6, none⟩ = some (.slice c4 n4 k4) ∧ U.cell? ⟨X, 7, none⟩ = some (.slice none 0 0)) := Lib.hid fun U hU => by
        have h := (hU.block X (Array.getElem?_eq_some_iff.1 HXQ.out).1).trans HXQ.out
        exact ⟨nd_cell h rfl, nd_cell h rfl, nd_cell h rfl, nd_cell h rfl, nd_cell h rfl, nd_cell h rfl, nd_cell h rfl, nd_cell h rfl⟩
      obtain ⟨o0, o1, o2, o3, o4, o5, o6, o7⟩ := HKG.out wr (Below.refl _ _)
      clear hat hD hds hmk hz him
      go_upto_region 10 with fail
      clear hii
      go_wp2_with fail
      go_at_call 13
      refine HCT.out.mono ?_
      rintro e w5 ⟨dv, rfl, hdr, k5⟩
      have HB5 := Lib.hid k5
      clear HCT k5 o0 o1 o2 o3 o4 o5 o6 o7
      obtain ⟨dcs, dan, ⟨e1, e2, e3⟩, e4⟩ := D
      obtain ⟨vc, vA, rfl, h1, h2⟩ := id hdr
      have HDR := Lib.hid hdr
      obtain ⟨d1, j1, rfl⟩ := h1.shape
      obtain ⟨d2, j2, rfl⟩ := h2.shape
      dsimp only at HDR ⊢
      obtain ⟨m1, hm1⟩ : ∃ z, dcs.length = z := ⟨_, rfl⟩
      obtain ⟨m2, hm2⟩ : ∃ z, dan.length = z := ⟨_, rfl⟩
      rw [hm1, hm2] at HDR ⊢
      clear hdr h1 h2 hm1 hm2
      have hxn := heap_alloc_new w5 (.cells #[.slice none 0 0, .slice none 0 0, .int .i64 0, .int .i64 0, .int .i64 0, .int .i64 0] 41)
      have hbn := balloc (Below.refl _ w5) (.cells #[.slice none 0 0, .slice none 0 0, .int .i64 0, .int .i64 0, .int .i64 0, .int .i64 0] 41)
      obtain ⟨Y, hX⟩ : ∃ Y, w5.heap.size = Y := ⟨_, rfl⟩
      obtain ⟨way, hwa⟩ : ∃ way, w5.alloc (.cells #[.slice none 0 0, .slice none 0 0, .int .i64 0, .int .i64 0, .int .i64 0, .int .i64 0] 41) = way := ⟨_, rfl⟩
      have HXoy : Hid (Y = w5.heap.size) := Lib.hid hX.symm
      rw [hX, hwa] at hxn
      rw [hwa] at hbn
      have bc0 : way.cell? ⟨Y, 0, none⟩ = some (.slice none 0 0) := nd_cell hxn rfl
      have bc1 : way.cell? ⟨Y, 1, none⟩ = some (.slice none 0 0) := nd_cell hxn rfl
      have bc2 : way.cell? ⟨Y, 2, none⟩ = some (.int .i64 0) := nd_cell hxn rfl
      have bc3 : way.cell? ⟨Y, 3, none⟩ = some (.int .i64 0) := nd_cell hxn rfl
      have bc4 : way.cell? ⟨Y, 4, none⟩ = some (.int .i64 0) := nd_cell hxn rfl
      have bc5 : way.cell? ⟨Y, 5, none⟩ = some (.int .i64 0) := nd_cell hxn rfl
      have bf0 := nd_froz hxn 0
      have bf1 := nd_froz hxn 1
      have bf2 := nd_froz hxn 2
      have bf3 := nd_froz hxn 3
      have bf4 := nd_froz hxn 4
      have bf5 := nd_froz hxn 5
      obtain ⟨w6, hwx, hxx, hfx⟩ := sto6 hxn (.slice d1 m1 j1) (.slice d2 m2 j2) (.int .i64 e1) (.int .i64 e2) (.int .i64 e3) (.int .i64 e4)
      have HXXy := Lib.hid hxx
      have HBXy := Lib.hid (hfx.below w5 hbn (fun b hb => by rw [hb, HXoy.out]; exact Nat.le_refl _))
      clear hxx hfx hbn hxn
      go_upto_region 11 with fail
      try rw [hwx]
      clear bc0 bf0 bc1 bf1 bc2 bf2 bc3 bf3 bc4 bf4 bc5 bf5 hwx hX hwa
      have HN1 := Lib.hid (rnumbers_any w6 _ _ (HDR.out.keep HBXy.out) HDK.out.1 HDK.out.2)
      have y0 : w6.cell? ⟨Y, 0, none⟩ = some (.slice d1 m1 j1) := nd_cell HXXy.out rfl
      have y1 : w6.cell? ⟨Y, 1, none⟩ = some (.slice d2 m2 j2) := nd_cell HXXy.out rfl
      have y2 : w6.cell? ⟨Y, 2, none⟩ = some (.int .i64 e1) := nd_cell HXXy.out rfl
      have y3 : w6.cell? ⟨Y, 3, none⟩ = some (.int .i64 e2) := nd_cell HXXy.out rfl
      have y4 : w6.cell? ⟨Y, 4, none⟩ = some (.int .i64 e3) := nd_cell HXXy.out rfl
      have y5 : w6.cell? ⟨Y, 5, none⟩ = some (.int .i64 e4) := nd_cell HXXy.out rfl
      go_wp2_with fail
      go_at_call 23
      refine HN1.out.mono ?_
      rintro e w7 ⟨u7, rfl, hu7, k7⟩
      obtain ⟨ga, gc, rfl⟩ := own_shape hu7
      have HB7 := Lib.hid (bnext HB5.out (bnext HBXy.out k7))
      have HU7 := Lib.hid hu7
      clear HN1 k7 hu7 y0 y1 y2 y3 y4 y5
      have HN2 := Lib.hid (rnumbers_any w7 (.agg #[.slice c1 n1 k1, .slice c2 n2 k2, .int .i64 hc, .int .i64 hx, .int .i64 hy, .int .i64 ad]) ⟨C, A, ⟨hc, hx, hy⟩, ad⟩ ⟨_, _, rfl, HPA.out.1.keep (bnext HBR.out HB7.out), HPA.out.2.1.keep (bnext HBR.out HB7.out)⟩ HMK.out.ok.cs HMK.out.ok.an)
      obtain ⟨o0, o1, o2, o3, o4, o5, o6, o7⟩ := HKG.out w7 HB7.out
      go_wp2_with fail
      go_at_call 23
      refine HN2.out.mono ?_
      rintro e w9 ⟨u9', rfl, hu9, k9⟩
      obtain ⟨gb, gd, rfl⟩ := own_shape hu9
      have HBZ := Lib.hid (bnext HB1.out (bnext HB2.out (bnext HB3.out (bnext HBR.out (bnext HB7.out k9)))))
      obtain ⟨NA, hNA⟩ : ∃ N, OL.nl ⟨C, A, ⟨hc, hx, hy⟩, ad⟩ = N := ⟨_, rfl⟩
      have hNB := HDN.out
      rw [hNA] at hNB hu9 ⊢
      have HNB : Hid (OL.nl ⟨dcs, dan, ⟨e1, e2, e3⟩, e4⟩ = NA.map (64 * ·) ∧ 0 < NA.length ∧ ∀ z ∈ NA, -128 ≤ z ∧ z ≤ 128) := Lib.hid ⟨hNB, by rw [← hNA, OL.nl_len]; omega, by rw [← hNA]; exact HMK.out.plain⟩
      have hl9 : (OL.nl ⟨dcs, dan, ⟨e1, e2, e3⟩, e4⟩).length = NA.length := by rw [HNB.out.1, List.length_map]
      obtain ⟨la, hla⟩ : ∃ l, NA.length = l := ⟨_, rfl⟩
      have HLA := Lib.hid (And.intro hla (show 0 < la by rw [← hla]; exact HNB.out.2.1))
      have HRA : Hid (∀ U, Below w9.heap.size w9 U → ∀ (i : Nat) (z : Int), NA[i]? = some z → ∃ g o, ga = some ⟨g, o, none⟩ ∧ U.cell? ⟨g, o + i, none⟩ = some (.int .i64 (64 * z))) := Lib.hid fun U hU i z hz => src_int (L := OL.nl ⟨dcs, dan, ⟨e1, e2, e3⟩, e4⟩) ((own_srcN HU7.out).keep (bnext k9 hU)) (by rw [HNB.out.1, List.getElem?_map, hz]; rfl)
      have HRB : Hid (∀ U, Below w9.heap.size w9 U → ∀ (i : Nat) (z : Int), NA[i]? = some z → ∃ g o, gb = some ⟨g, o, none⟩ ∧ U.cell? ⟨g, o + i, none⟩ = some (.int .i64 z)) := Lib.hid fun U hU i z hz => src_int ((own_srcN hu9).keep hU) hz
      have hla9 : la ≤ 9223372036854775807 := by
        have := own_cap2 hu9
        rcases hu9.2 with ⟨e, -⟩ | ⟨_, cap, _, e, _, _, _, hm, _⟩
        · injection e with _ e2 _
          omega
        · injection e with _ _ e3
          unfold maxLen at hm
          omega
      rw [hl9, hla]
      clear HN2 k9 hu9 o0 o1 o2 o3 o4 o5 o6 o7 hNA hNB hla hl9
      go_upto_region 15 with fail
      go_wp2_with fail
      go_loopw [66] (fun v66 wr => ∃ k : Nat, v66 = .int .i64 (k : Int) ∧ k ≤ la ∧ Hid (Below w9.heap.size w9 wr)) (fun v66 _ => la - (intOf v66).toNat)
      case atStart => exact ⟨0, rfl, Nat.zero_le _, Lib.hid (Below.refl _ _)⟩
      case round =>
        obtain ⟨k, rfl, hk, HBK⟩ := hrel
        by_cases hkl : k < la
        · have hkk : (k : Int) < (la : Int) := by omega
          have hk0 : (0 : Int) ≤ (k : Int) := by omega
          obtain ⟨x, hx⟩ : ∃ x, NA[k]? = some x := ⟨_, List.getElem?_eq_getElem (by rw [HLA.out.1]; exact hkl)⟩
          have hxb := HNB.out.2.2 x (List.mem_of_getElem? hx)
          obtain ⟨gA, oA, rfl, hca⟩ := HRA.out wr HBK.out k x hx
          obtain ⟨gB, oB, rfl, hcb⟩ := HRB.out wr HBK.out k x hx
          obtain ⟨p, hp⟩ : ∃ p, 64 * x = p := ⟨_, rfl⟩
          have hwp : IntKind.i64.wrap p = p := IntWalk.i64_in _ (by omega)
          have hpp : (p != p) = false := by simp
          rw [hp] at hca
          clear hx hxb
          go_wp2_with fail
          go_quiet (fail)
          go_wp2_with fail
          go_roundw
          case rel => exact ⟨k + 1, by go_num, by omega, Lib.hid (below_drewN HBK.out _)⟩
          case measure => simp [intOf]; omega
        · have hkk : ¬ (k : Int) < (la : Int) := by omega
          have HBZZ := Lib.hid (bnext HBZ.out HBK.out)
          clear hkl
          go_wp2
          go_ret
          exact ⟨by first | rfl | simp, HBZZ.out⟩

set_option maxRecDepth 100000 in
theorem lifted (os : Os) (started : os.Started) (H : Type) (enc : TypeId × Value → H) :
    ReturnsInHanded {} Try.checked os 7 .any (Rows.outlineDefaultSpec.pre6 enc Try.prog Try.f7 Rows.outlineDefaultRow.domain false) (Rows.outlineDefaultSpec.post enc Try.prog Try.f7 false true false false) := by
  refine returnsInHanded_of_change (C := Try.checked) own started (by kernel_rfl) Try.func7
    (ChangeSpec.witness6 (enc := enc) (C := Try.checked) false ⟨#[], #[.agg #[.slice none 0 0, .slice none 0 0, .slice none 0 0, .int .i64 0, .int .i64 0, .int .i64 0, .int .u8 0, .int .u8 0]], []⟩ 8 (by kernel_rfl) (by kernel_rfl) (by kernel_rfl) (by kernel_rfl)) ?_
  intro W base args ds gs before hval0 hW hcnd _
  have hval : ∀ (j : Nat) t v, Try.f7.params[j]? = some t → args[j]? = some v → Value.okWide Try.prog W .any base t v := hval0
  have hW' := hW
  obtain ⟨p, q, hA0, hV, rfl, hfz, hnd⟩ := hW
  have hA : DataW.TrodAll enc Try.prog W 0 (fun _ => true) true Try.f7.params.toList args.toList ds p := hA0
  rw [Try.params7] at hA hval
  obtain ⟨v0, vs0, d0, ds0, p0, q0, hargs, rfl, rfl, h0, r0⟩ := trodAll_cons hA
  obtain ⟨rfl, rfl, rfl⟩ := trodAll_nil r0
  obtain rfl : args = #[v0] := by cases args; simp_all
  obtain ⟨rfl, rfl⟩ := trodVars_none hV
  have k0 := h0
  have lt0 : ∀ x ∈ p0, x.block < W.heap.size := by obtain ⟨m, hm⟩ := k0; exact DataW.trod_lt m _ _ _ hm
  obtain ⟨g0, s0, t0, a0, b0, c0, x0, y0, H0⟩ := open_case (hval 0 25 v0 rfl rfl) h0
  clear hA0 hval0
  refine (walk v0 g0 s0 t0 a0 b0 c0 x0 y0  W H0).mono fun e W' ⟨he, bel⟩ => ?_
  subst he
  exact ⟨_, rfl, _, _, _, [], _, [], hW', trodAll_mk1 (shut_bool Try.underlying4 _), (trodAll_cons_mk (Below.trod laidOut (by kernel_rfl) (of_decide_eq_true (by kernel_rfl)) k0 bel lt0) trodAll_mk0), rfl, bel.frame _, fun h => by cases h⟩

theorem over : Rows.outlineDefaultRow.holds Try.pinned (OpenSpec.ofChange Rows.outlineDefaultSpec) :=
  OpenClaim.holds_of_wide 7 Try.f7 rfl rfl rfl rfl rfl rfl rfl ⟨rfl, rfl, rfl, rfl, rfl⟩ rfl rfl rfl rfl rfl (by kernel_rfl) Try.func7 (by kernel_rfl)
    (of_decide_eq_true (by kernel_rfl)) (by unfold Func.isWrapper; first | (rw [if_pos (by decide +kernel)]; kernel_rfl) | (rw [if_neg (by decide +kernel)]; exact ⟨rfl, rfl⟩))
    (fun os started H enc _ => lifted os started H enc)

end Go.Proofs.Ytanppbdlcinpfaa.outlineDefault
namespace Go.Proofs.Ytanppbdlcinpfaa
theorem outlineDefault_proved : Rows.OutlineDefaultSaid := outlineDefault.over
#print axioms outlineDefault_proved
end Go.Proofs.Ytanppbdlcinpfaa
