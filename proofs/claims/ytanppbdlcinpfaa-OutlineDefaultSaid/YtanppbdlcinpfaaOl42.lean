/- The examples of the chapter. No conditions. -/
import Derived.Test.YtanppbdlcinpfaaOl41
import Derived.Test.YtanppbdlcinpfaaOl21
import Derived.Test.YtanppbdlcinpfaaOl26
import Derived.Test.YtanppbdlcinpfaaOl30
import Derived.Test.YtanppbdlcinpfaaOl5
import Derived.Test.YtanppbdlcinpfaaOl3
set_option linter.unusedSimpArgs false
set_option linter.unusedVariables false
namespace Go.Proofs.Ytanppbdlcinpfaa
set_option maxRecDepth 100000
set_option linter.unusedVariables false
open Go.RowKit Go.Deep
theorem scale_any (W : World) (v : Value) (d : Dr) (size : Int) (hv : DrAt W v d) (hok : CsOk d.cs) (hla : d.an.length ≤ 1000) :
    Calls Try.prog 18 #[v, .int .i64 size] W fun e W' => ∃ v', e = .returned v' ∧ (∀ U, FrS (fun b => b < W.heap.size) W' U → DrAt U v' (OL.scale d size)) ∧ Below W.heap.size W W' :=
  callsIn_wide.1 (scale_in 3 (Nat.le_refl 3) W v d size hv hok hla)
set_option maxHeartbeats 16000000 in
theorem sane_any (W : World) : Calls Try.prog 10 #[] W fun e W' => e = .returned (.bool true) ∧ Below W.heap.size W W' := by
  go_enter Try.func10, Try.ntmps10
  have HEX := Lib.hid (example_c W)
  go_wp2_with fail
  go_at_call 26
  refine HEX.out.mono ?_
  rintro e w1 ⟨ca, ck, aa, ak, da, dk, pa, pk, ra, rk, rfl, hgl, hrg, hb1⟩
  clear HEX
  have HB1 := Lib.hid hb1
  have HGL := Lib.hid hgl
  have HRG := Lib.hid hrg
  clear hgl hrg hb1
  have hxn := heap_alloc_new w1 (.cells #[.slice none 0 0, .slice none 0 0, .int .i64 0, .int .i64 0, .int .i64 0, .int .i64 0, .slice none 0 0, .slice none 0 0] 34)
  have hbn := balloc (Below.refl _ w1) (.cells #[.slice none 0 0, .slice none 0 0, .int .i64 0, .int .i64 0, .int .i64 0, .int .i64 0, .slice none 0 0, .slice none 0 0] 34)
  obtain ⟨X, hX⟩ : ∃ X, w1.heap.size = X := ⟨_, rfl⟩
  obtain ⟨wa, hwa⟩ : ∃ wa, w1.alloc (.cells #[.slice none 0 0, .slice none 0 0, .int .i64 0, .int .i64 0, .int .i64 0, .int .i64 0, .slice none 0 0, .slice none 0 0] 34) = wa := ⟨_, rfl⟩
  have HXo : Hid (X = w1.heap.size) := Lib.hid hX.symm
  rw [hX, hwa] at hxn
  rw [hwa] at hbn
  have bc0 : wa.cell? ⟨X, 0, none⟩ = some (.slice none 0 0) := nd_cell hxn rfl
  have bc1 : wa.cell? ⟨X, 1, none⟩ = some (.slice none 0 0) := nd_cell hxn rfl
  have bc2 : wa.cell? ⟨X, 2, none⟩ = some (.int .i64 0) := nd_cell hxn rfl
  have bc3 : wa.cell? ⟨X, 3, none⟩ = some (.int .i64 0) := nd_cell hxn rfl
  have bc4 : wa.cell? ⟨X, 4, none⟩ = some (.int .i64 0) := nd_cell hxn rfl
  have bc5 : wa.cell? ⟨X, 5, none⟩ = some (.int .i64 0) := nd_cell hxn rfl
  have bc6 : wa.cell? ⟨X, 6, none⟩ = some (.slice none 0 0) := nd_cell hxn rfl
  have bc7 : wa.cell? ⟨X, 7, none⟩ = some (.slice none 0 0) := nd_cell hxn rfl
  have bf0 := nd_froz hxn 0
  have bf1 := nd_froz hxn 1
  have bf2 := nd_froz hxn 2
  have bf3 := nd_froz hxn 3
  have bf4 := nd_froz hxn 4
  have bf5 := nd_froz hxn 5
  have bf6 := nd_froz hxn 6
  have bf7 := nd_froz hxn 7
  obtain ⟨w2, hwx, hxx, hfx⟩ := sto8 hxn (.slice ca 1 ck) (.slice aa 1 ak) (.int .i64 0) (.int .i64 0) (.int .i64 0) (.int .i64 12) (.slice da 1 dk) (.slice pa 0 pk)
  have HXX := Lib.hid hxx
  have HBX := Lib.hid (hfx.below w1 hbn (fun b hb => by rw [hb, HXo.out]; exact Nat.le_refl _))
  clear hxx hfx hbn hxn
  go_upto_region 2 with fail
  try rw [hwx]
  clear bc0 bf0 bc1 bf1 bc2 bf2 bc3 bf3 bc4 bf4 bc5 bf5 bc6 bf6 bc7 bf7 hwx hX hwa
  have HX12 := HBX
  have HKX : Hid (∀ U, Below w2.heap.size w2 U → U.cell? ⟨X, 0, none⟩ = some (.slice ca 1 ck) ∧ U.cell? ⟨X, 1, none⟩ = some (.slice aa 1 ak) ∧ U.cell? ⟨X, 2, none⟩ = some (.int .i64 0) ∧ U.cell? ⟨X, 3, none⟩ = some (.int .i64 0) ∧ U.cell? ⟨X, 4, none⟩ = some (.int .i64 0) ∧ U.cell? ⟨X, 5, none⟩ = some (.int .i64 12) ∧ U.cell? ⟨X, 6, none⟩ = some (.slice da 1 dk) ∧ U.cell? ⟨X, 7, none⟩ = some (.slice pa 0 pk)) := Lib.hid fun U hU => by
    have h := (hU.block X (Array.getElem?_eq_some_iff.1 HXX.out).1).trans HXX.out
    exact ⟨nd_cell h rfl, nd_cell h rfl, nd_cell h rfl, nd_cell h rfl, nd_cell h rfl, nd_cell h rfl, nd_cell h rfl, nd_cell h rfl⟩
  have HBw2 : Hid (Below w2.heap.size w2 w2) := Lib.hid (Below.refl _ _)
  have HC := Lib.hid (points_any w2 _ exG (HGL.out.keep HX12.out) exG_ok)
  obtain ⟨g0, g1, g2, g3, g4, g5, g6, g7⟩ := HKX.out w2 HBw2.out
  go_wp2_with fail
  go_at_call 27
  refine HC.out.mono ?_
  rintro e w3 ⟨rfl, k9⟩
  have HBw3 := Lib.hid (bnext HBw2.out k9)
  clear HC k9 g0 g1 g2 g3 g4 g5 g6 g7
  have hq1 : ((OL.points exG : Int) == 5) = true := by decide +kernel
  have HC := Lib.hid (check_any w3 _ exG 1 (HGL.out.keep (bnext HX12.out HBw3.out)) exG_ok)
  obtain ⟨g0, g1, g2, g3, g4, g5, g6, g7⟩ := HKX.out w3 HBw3.out
  go_wp2_with fail
  go_at_call 28
  refine HC.out.mono ?_
  rintro e w4 ⟨rfl, k9⟩
  have HBw4 := Lib.hid (bnext HBw3.out k9)
  clear HC k9 g0 g1 g2 g3 g4 g5 g6 g7
  clear hq1
  have hq2 : (OL.check exG 1 == 0) = true := by decide +kernel
  have HC := Lib.hid (check_any w4 _ exG 0 (HGL.out.keep (bnext HX12.out HBw4.out)) exG_ok)
  obtain ⟨g0, g1, g2, g3, g4, g5, g6, g7⟩ := HKX.out w4 HBw4.out
  go_wp2_with fail
  go_at_call 28
  refine HC.out.mono ?_
  rintro e w5 ⟨rfl, k9⟩
  have HBw5 := Lib.hid (bnext HBw4.out k9)
  clear HC k9 g0 g1 g2 g3 g4 g5 g6 g7
  clear hq2
  have hq3 : (OL.check exG 0 == 13) = true := by decide +kernel
  have HC := Lib.hid (has_any w5 0 640 320 768 (by decide +kernel))
  go_wp2_with fail
  go_at_call 29
  refine HC.out.mono ?_
  rintro e w6 ⟨rfl, k9⟩
  have HBw6 := Lib.hid (bnext HBw5.out k9)
  clear HC k9
  clear hq3
  have HC := Lib.hid (has_any w6 64 1152 448 1024 (by decide +kernel))
  go_wp2_with fail
  go_at_call 29
  refine HC.out.mono ?_
  rintro e w7 ⟨rfl, k9⟩
  have HBw7 := Lib.hid (bnext HBw6.out k9)
  clear HC k9
  have HC := Lib.hid (has_any w7 32 896 384 896 (by decide +kernel))
  go_wp2_with fail
  go_at_call 29
  refine HC.out.mono ?_
  rintro e w8 ⟨rfl, k9⟩
  have HBw8 := Lib.hid (bnext HBw7.out k9)
  clear HC k9
  obtain ⟨g0, g1, g2, g3, g4, g5, g6, g7⟩ := HKX.out w8 HBw8.out
  have hat := at_any w8 (.agg #[.slice ca 1 ck, .slice aa 1 ak, .int .i64 0, .int .i64 0, .int .i64 0, .int .i64 12, .slice da 1 dk, .slice pa 0 pk]) (.slice ra 1 rk) (.slice none 0 0) exG exR [] (HGL.out.keep (bnext HX12.out HBw8.out)) exG_ok (HRG.out.keep (bnext HX12.out HBw8.out)) (⟨_, _, rfl, .inl rfl⟩) (by decide) exR_len (by simp)
  rw [show OL.at exG exR [] = (OL.zd, 11) by decide +kernel] at hat
  have HAT := Lib.hid hat
  clear hat
  go_wp2_with fail
  go_at_call 13
  refine HAT.out.mono ?_
  rintro e w9 ⟨dv, rfl, hdr, k9⟩
  have HBw9 := Lib.hid (bnext HBw8.out k9)
  clear HAT k9 g0 g1 g2 g3 g4 g5 g6 g7
  obtain ⟨vc, vA, rfl, h1, h2⟩ := id hdr
  have HDRa := Lib.hid hdr
  clear hdr
  obtain ⟨c1, k1, rfl⟩ := h1.shape
  obtain ⟨c2, k2, rfl⟩ := h2.shape
  clear h1 h2
  dsimp only [OL.zd, List.length_nil] at HDRa ⊢
  have hxn := heap_alloc_new w9 (.cells #[.slice none 0 0, .slice none 0 0, .int .i64 0, .int .i64 0, .int .i64 0, .int .i64 0] 41)
  have hbn := balloc (Below.refl _ w9) (.cells #[.slice none 0 0, .slice none 0 0, .int .i64 0, .int .i64 0, .int .i64 0, .int .i64 0] 41)
  obtain ⟨Y1, hX⟩ : ∃ Y1, w9.heap.size = Y1 := ⟨_, rfl⟩
  obtain ⟨waa, hwa⟩ : ∃ waa, w9.alloc (.cells #[.slice none 0 0, .slice none 0 0, .int .i64 0, .int .i64 0, .int .i64 0, .int .i64 0] 41) = waa := ⟨_, rfl⟩
  have HXoa : Hid (Y1 = w9.heap.size) := Lib.hid hX.symm
  rw [hX, hwa] at hxn
  rw [hwa] at hbn
  have bc0 : waa.cell? ⟨Y1, 0, none⟩ = some (.slice none 0 0) := nd_cell hxn rfl
  have bc1 : waa.cell? ⟨Y1, 1, none⟩ = some (.slice none 0 0) := nd_cell hxn rfl
  have bc2 : waa.cell? ⟨Y1, 2, none⟩ = some (.int .i64 0) := nd_cell hxn rfl
  have bc3 : waa.cell? ⟨Y1, 3, none⟩ = some (.int .i64 0) := nd_cell hxn rfl
  have bc4 : waa.cell? ⟨Y1, 4, none⟩ = some (.int .i64 0) := nd_cell hxn rfl
  have bc5 : waa.cell? ⟨Y1, 5, none⟩ = some (.int .i64 0) := nd_cell hxn rfl
  have bf0 := nd_froz hxn 0
  have bf1 := nd_froz hxn 1
  have bf2 := nd_froz hxn 2
  have bf3 := nd_froz hxn 3
  have bf4 := nd_froz hxn 4
  have bf5 := nd_froz hxn 5
  obtain ⟨w10, hwx, hxx, hfx⟩ := sto6 hxn (.slice c1 0 k1) (.slice c2 0 k2) (.int .i64 0) (.int .i64 0) (.int .i64 0) (.int .i64 0)
  have HXXa := Lib.hid hxx
  have HBXa := Lib.hid (hfx.below w9 hbn (fun b hb => by rw [hb, HXoa.out]; exact Nat.le_refl _))
  clear hxx hfx hbn hxn
  go_upto_region 4 with fail
  try rw [hwx]
  clear bc0 bf0 bc1 bf1 bc2 bf2 bc3 bf3 bc4 bf4 bc5 bf5 hwx hX hwa
  have HBw10 := Lib.hid (bnext HBw9.out HBXa.out)
  clear HXXa HBXa HXoa HDRa
  have HL : Hid (InAt (w10.alloc (.cells #[.int .i64 65] 3)) (.slice (some ⟨w10.heap.size, 0, none⟩) 1 1) [65]) := Lib.hid (in_one w10 65)
  have HBL := Lib.hid (balloc (Below.refl _ w10) (.cells #[.int .i64 65] 3))
  obtain ⟨wl, hwl⟩ : ∃ w, w10.alloc (.cells #[.int .i64 65] 3) = w := ⟨_, rfl⟩
  rw [hwl] at HL HBL
  obtain ⟨Q, hQ⟩ : ∃ q, w10.heap.size = q := ⟨_, rfl⟩
  rw [hQ] at HL
  have HBl := Lib.hid (bnext HBw10.out HBL.out)
  obtain ⟨g0, g1, g2, g3, g4, g5, g6, g7⟩ := HKX.out w10 HBw10.out
  have hat := at_any wl (.agg #[.slice ca 1 ck, .slice aa 1 ak, .int .i64 0, .int .i64 0, .int .i64 0, .int .i64 12, .slice da 1 dk, .slice pa 0 pk]) (.slice ra 1 rk) (.slice (some ⟨Q, 0, none⟩) 1 1) exG exR [65] (HGL.out.keep (bnext HX12.out HBl.out)) exG_ok (HRG.out.keep (bnext HX12.out HBl.out)) (HL.out) (by decide) exR_len (by simp)
  rw [show OL.at exG exR [65] = (OL.zd, 10) by decide +kernel] at hat
  have HAT := Lib.hid hat
  clear hat
  go_wp2_with fail
  go_at_call 13
  refine HAT.out.mono ?_
  rintro e w11 ⟨dv, rfl, hdr, k9⟩
  have HBw11 := Lib.hid (bnext HBl.out k9)
  clear HAT k9 g0 g1 g2 g3 g4 g5 g6 g7 hQ hwl HL HBL HBl
  obtain ⟨vc, vA, rfl, h1, h2⟩ := id hdr
  have HDRb := Lib.hid hdr
  clear hdr
  obtain ⟨c1, k1, rfl⟩ := h1.shape
  obtain ⟨c2, k2, rfl⟩ := h2.shape
  clear h1 h2
  dsimp only [OL.zd, List.length_nil] at HDRb ⊢
  have hxn := heap_alloc_new w11 (.cells #[.slice none 0 0, .slice none 0 0, .int .i64 0, .int .i64 0, .int .i64 0, .int .i64 0] 41)
  have hbn := balloc (Below.refl _ w11) (.cells #[.slice none 0 0, .slice none 0 0, .int .i64 0, .int .i64 0, .int .i64 0, .int .i64 0] 41)
  obtain ⟨Y2, hX⟩ : ∃ Y2, w11.heap.size = Y2 := ⟨_, rfl⟩
  obtain ⟨wab, hwa⟩ : ∃ wab, w11.alloc (.cells #[.slice none 0 0, .slice none 0 0, .int .i64 0, .int .i64 0, .int .i64 0, .int .i64 0] 41) = wab := ⟨_, rfl⟩
  have HXob : Hid (Y2 = w11.heap.size) := Lib.hid hX.symm
  rw [hX, hwa] at hxn
  rw [hwa] at hbn
  have bc0 : wab.cell? ⟨Y2, 0, none⟩ = some (.slice none 0 0) := nd_cell hxn rfl
  have bc1 : wab.cell? ⟨Y2, 1, none⟩ = some (.slice none 0 0) := nd_cell hxn rfl
  have bc2 : wab.cell? ⟨Y2, 2, none⟩ = some (.int .i64 0) := nd_cell hxn rfl
  have bc3 : wab.cell? ⟨Y2, 3, none⟩ = some (.int .i64 0) := nd_cell hxn rfl
  have bc4 : wab.cell? ⟨Y2, 4, none⟩ = some (.int .i64 0) := nd_cell hxn rfl
  have bc5 : wab.cell? ⟨Y2, 5, none⟩ = some (.int .i64 0) := nd_cell hxn rfl
  have bf0 := nd_froz hxn 0
  have bf1 := nd_froz hxn 1
  have bf2 := nd_froz hxn 2
  have bf3 := nd_froz hxn 3
  have bf4 := nd_froz hxn 4
  have bf5 := nd_froz hxn 5
  obtain ⟨w12, hwx, hxx, hfx⟩ := sto6 hxn (.slice c1 0 k1) (.slice c2 0 k2) (.int .i64 0) (.int .i64 0) (.int .i64 0) (.int .i64 0)
  have HXXb := Lib.hid hxx
  have HBXb := Lib.hid (hfx.below w11 hbn (fun b hb => by rw [hb, HXob.out]; exact Nat.le_refl _))
  clear hxx hfx hbn hxn
  go_upto_region 5 with fail
  try rw [hwx]
  clear bc0 bf0 bc1 bf1 bc2 bf2 bc3 bf3 bc4 bf4 bc5 bf5 hwx hX hwa
  have HBw12 := Lib.hid (bnext HBw11.out HBXb.out)
  clear HXXb HBXb HXob HDRb
  have HL : Hid (InAt (w12.alloc (.cells #[.int .i64 32] 3)) (.slice (some ⟨w12.heap.size, 0, none⟩) 1 1) [32]) := Lib.hid (in_one w12 32)
  have HBL := Lib.hid (balloc (Below.refl _ w12) (.cells #[.int .i64 32] 3))
  obtain ⟨wl, hwl⟩ : ∃ w, w12.alloc (.cells #[.int .i64 32] 3) = w := ⟨_, rfl⟩
  rw [hwl] at HL HBL
  obtain ⟨Q, hQ⟩ : ∃ q, w12.heap.size = q := ⟨_, rfl⟩
  rw [hQ] at HL
  have HBl := Lib.hid (bnext HBw12.out HBL.out)
  obtain ⟨g0, g1, g2, g3, g4, g5, g6, g7⟩ := HKX.out w12 HBw12.out
  have hat := at_any wl (.agg #[.slice ca 1 ck, .slice aa 1 ak, .int .i64 0, .int .i64 0, .int .i64 0, .int .i64 12, .slice da 1 dk, .slice pa 0 pk]) (.slice ra 1 rk) (.slice (some ⟨Q, 0, none⟩) 1 1) exG exR [32] (HGL.out.keep (bnext HX12.out HBl.out)) exG_ok (HRG.out.keep (bnext HX12.out HBl.out)) (HL.out) (by decide) exR_len (by simp)
  rw [show OL.at exG exR [32] = (exD 896 384 896, 0) by decide +kernel] at hat
  have HAT := Lib.hid hat
  clear hat
  go_wp2_with fail
  go_at_call 13
  refine HAT.out.mono ?_
  rintro e w13 ⟨dv, rfl, hdr, k9⟩
  have HBw13 := Lib.hid (bnext HBl.out k9)
  clear HAT k9 g0 g1 g2 g3 g4 g5 g6 g7 hQ hwl HL HBL HBl
  obtain ⟨vc, vA, rfl, h1, h2⟩ := id hdr
  have HDRc := Lib.hid hdr
  clear hdr
  obtain ⟨c1, k1, rfl⟩ := h1.shape
  obtain ⟨c2, k2, rfl⟩ := h2.shape
  clear h1 h2
  dsimp only [exD, List.length_cons, List.length_nil] at HDRc ⊢
  have hxn := heap_alloc_new w13 (.cells #[.slice none 0 0, .slice none 0 0, .int .i64 0, .int .i64 0, .int .i64 0, .int .i64 0] 41)
  have hbn := balloc (Below.refl _ w13) (.cells #[.slice none 0 0, .slice none 0 0, .int .i64 0, .int .i64 0, .int .i64 0, .int .i64 0] 41)
  obtain ⟨Y, hX⟩ : ∃ Y, w13.heap.size = Y := ⟨_, rfl⟩
  obtain ⟨wac, hwa⟩ : ∃ wac, w13.alloc (.cells #[.slice none 0 0, .slice none 0 0, .int .i64 0, .int .i64 0, .int .i64 0, .int .i64 0] 41) = wac := ⟨_, rfl⟩
  have HXoc : Hid (Y = w13.heap.size) := Lib.hid hX.symm
  rw [hX, hwa] at hxn
  rw [hwa] at hbn
  have bc0 : wac.cell? ⟨Y, 0, none⟩ = some (.slice none 0 0) := nd_cell hxn rfl
  have bc1 : wac.cell? ⟨Y, 1, none⟩ = some (.slice none 0 0) := nd_cell hxn rfl
  have bc2 : wac.cell? ⟨Y, 2, none⟩ = some (.int .i64 0) := nd_cell hxn rfl
  have bc3 : wac.cell? ⟨Y, 3, none⟩ = some (.int .i64 0) := nd_cell hxn rfl
  have bc4 : wac.cell? ⟨Y, 4, none⟩ = some (.int .i64 0) := nd_cell hxn rfl
  have bc5 : wac.cell? ⟨Y, 5, none⟩ = some (.int .i64 0) := nd_cell hxn rfl
  have bf0 := nd_froz hxn 0
  have bf1 := nd_froz hxn 1
  have bf2 := nd_froz hxn 2
  have bf3 := nd_froz hxn 3
  have bf4 := nd_froz hxn 4
  have bf5 := nd_froz hxn 5
  obtain ⟨w14, hwx, hxx, hfx⟩ := sto6 hxn (.slice c1 1 k1) (.slice c2 1 k2) (.int .i64 0) (.int .i64 0) (.int .i64 0) (.int .i64 896)
  have HXXc := Lib.hid hxx
  have HBXc := Lib.hid (hfx.below w13 hbn (fun b hb => by rw [hb, HXoc.out]; exact Nat.le_refl _))
  clear hxx hfx hbn hxn
  go_upto_region 6 with fail
  try rw [hwx]
  clear bc0 bf0 bc1 bf1 bc2 bf2 bc3 bf3 bc4 bf4 bc5 bf5 hwx hX hwa
  have HBw14 := Lib.hid (bnext HBw13.out HBXc.out)
  have HDR : Hid (∀ U, Below w14.heap.size w14 U → DrAt U (.agg #[.slice c1 1 k1, .slice c2 1 k2, .int .i64 0, .int .i64 0, .int .i64 0, .int .i64 896]) (exD 896 384 896)) := Lib.hid fun U hU => HDRc.out.keep (bnext HBXc.out hU)
  have HKY : Hid (∀ U, Below w14.heap.size w14 U → U.cell? ⟨Y, 0, none⟩ = some (.slice c1 1 k1) ∧ U.cell? ⟨Y, 1, none⟩ = some (.slice c2 1 k2) ∧ U.cell? ⟨Y, 2, none⟩ = some (.int .i64 0) ∧ U.cell? ⟨Y, 3, none⟩ = some (.int .i64 0) ∧ U.cell? ⟨Y, 4, none⟩ = some (.int .i64 0) ∧ U.cell? ⟨Y, 5, none⟩ = some (.int .i64 896)) := Lib.hid fun U hU => by
    have h := (hU.block Y (Array.getElem?_eq_some_iff.1 HXXc.out).1).trans HXXc.out
    exact ⟨nd_cell h rfl, nd_cell h rfl, nd_cell h rfl, nd_cell h rfl, nd_cell h rfl, nd_cell h rfl⟩
  clear HBXc HXoc HDRc
  have hsc := scale_any w14 _ _ 8 (HDR.out w14 (Below.refl _ _)) ⟨by decide, by decide⟩ (by decide)
  rw [show OL.scale (exD 896 384 896) 8 = ⟨[[⟨0, 0, true⟩, ⟨112, 0, true⟩, ⟨80, 160, true⟩]], [⟨1, 48, 160⟩], ⟨0, 0, 0⟩, 112⟩ by decide +kernel] at hsc
  have HC := Lib.hid hsc
  clear hsc
  obtain ⟨d0, d1, d2, d3, d4, d5⟩ := HKY.out w14 (Below.refl _ _)
  go_wp2_with fail
  go_at_call 18
  refine HC.out.mono ?_
  rintro e w15 ⟨dv, rfl, hdr, k9⟩
  have HBw15 := Lib.hid (bnext HBw14.out k9)
  have HK15 := Lib.hid k9
  clear HC k9 d0 d1 d2 d3 d4 d5
  have hdr := hdr w15 (FrS.refl _ _)
  obtain ⟨vc, vA, rfl, h1, h2⟩ := hdr
  dsimp only at h1 h2 ⊢
  obtain ⟨f1, l1, rfl⟩ := h1.shape
  obtain ⟨f2, l2, rfl⟩ := h2.shape
  obtain ⟨b1, o1, p1, pk1, rfl, hb1, e1, hp1⟩ := h1.cell (i := 0) rfl
  obtain ⟨b2, o2, rfl, hb2, a0, a1, a2⟩ := h2.cell (i := 0) rfl
  obtain ⟨b3, o3, rfl, hb3, t0, t1, t2⟩ := hp1.cell (i := 1) rfl
  simp only [Nat.zero_mul, Nat.one_mul, Nat.add_zero] at e1 a0 a1 a2 t0 t1 t2
  dsimp only [List.length_cons, List.length_nil] at e1 ⊢
  clear h1 h2 hp1 hb1 hb2 hb3
  have hxn := heap_alloc_new w15 (.cells #[.slice none 0 0, .slice none 0 0, .int .i64 0, .int .i64 0, .int .i64 0, .int .i64 0] 41)
  have hbn := balloc (Below.refl _ w15) (.cells #[.slice none 0 0, .slice none 0 0, .int .i64 0, .int .i64 0, .int .i64 0, .int .i64 0] 41)
  obtain ⟨S, hX⟩ : ∃ S, w15.heap.size = S := ⟨_, rfl⟩
  obtain ⟨was, hwa⟩ : ∃ was, w15.alloc (.cells #[.slice none 0 0, .slice none 0 0, .int .i64 0, .int .i64 0, .int .i64 0, .int .i64 0] 41) = was := ⟨_, rfl⟩
  have HXos : Hid (S = w15.heap.size) := Lib.hid hX.symm
  rw [hX, hwa] at hxn
  rw [hwa] at hbn
  have bc0 : was.cell? ⟨S, 0, none⟩ = some (.slice none 0 0) := nd_cell hxn rfl
  have bc1 : was.cell? ⟨S, 1, none⟩ = some (.slice none 0 0) := nd_cell hxn rfl
  have bc2 : was.cell? ⟨S, 2, none⟩ = some (.int .i64 0) := nd_cell hxn rfl
  have bc3 : was.cell? ⟨S, 3, none⟩ = some (.int .i64 0) := nd_cell hxn rfl
  have bc4 : was.cell? ⟨S, 4, none⟩ = some (.int .i64 0) := nd_cell hxn rfl
  have bc5 : was.cell? ⟨S, 5, none⟩ = some (.int .i64 0) := nd_cell hxn rfl
  have bf0 := nd_froz hxn 0
  have bf1 := nd_froz hxn 1
  have bf2 := nd_froz hxn 2
  have bf3 := nd_froz hxn 3
  have bf4 := nd_froz hxn 4
  have bf5 := nd_froz hxn 5
  obtain ⟨w16, hwx, hxx, hfx⟩ := sto6 hxn (.slice (some ⟨b1, o1, none⟩) 1 l1) (.slice (some ⟨b2, o2, none⟩) 1 l2) (.int .i64 0) (.int .i64 0) (.int .i64 0) (.int .i64 112)
  have HXXs := Lib.hid hxx
  have HBXs := Lib.hid (hfx.below w15 hbn (fun b hb => by rw [hb, HXos.out]; exact Nat.le_refl _))
  clear hxx hfx hbn hxn
  go_upto_region 7 with fail
  try rw [hwx]
  clear bc0 bf0 bc1 bf1 bc2 bf2 bc3 bf3 bc4 bf4 bc5 bf5 hwx hX hwa
  have HBw16 := Lib.hid (bnext HBw15.out HBXs.out)
  replace e1 := (HBXs.out.cell (World.block_lt_of_cell? w15 _ e1)).trans e1
  replace a0 := (HBXs.out.cell (World.block_lt_of_cell? w15 _ a0)).trans a0
  replace a1 := (HBXs.out.cell (World.block_lt_of_cell? w15 _ a1)).trans a1
  replace a2 := (HBXs.out.cell (World.block_lt_of_cell? w15 _ a2)).trans a2
  replace t0 := (HBXs.out.cell (World.block_lt_of_cell? w15 _ t0)).trans t0
  replace t1 := (HBXs.out.cell (World.block_lt_of_cell? w15 _ t1)).trans t1
  replace t2 := (HBXs.out.cell (World.block_lt_of_cell? w15 _ t2)).trans t2
  have s0 : w16.cell? ⟨S, 0, none⟩ = some (.slice (some ⟨b1, o1, none⟩) 1 l1) := nd_cell HXXs.out rfl
  have s1 : w16.cell? ⟨S, 1, none⟩ = some (.slice (some ⟨b2, o2, none⟩) 1 l2) := nd_cell HXXs.out rfl
  have s2 : w16.cell? ⟨S, 2, none⟩ = some (.int .i64 0) := nd_cell HXXs.out rfl
  have s3 : w16.cell? ⟨S, 3, none⟩ = some (.int .i64 0) := nd_cell HXXs.out rfl
  have s4 : w16.cell? ⟨S, 4, none⟩ = some (.int .i64 0) := nd_cell HXXs.out rfl
  have s5 : w16.cell? ⟨S, 5, none⟩ = some (.int .i64 112) := nd_cell HXXs.out rfl
  have q1 : ∀ V : World, (binOp .eql 81 (.agg #[.int .i64 112, .int .i64 0, .bool true]) (.agg #[.int .i64 112, .int .i64 0, .bool true])).run Try.prog V = .ok (.bool true) V := fun V => (eq_pt V ⟨112, 0, true⟩ ⟨112, 0, true⟩).trans (by rw [decide_eq_true rfl])
  have q2 : ∀ V : World, (binOp .eql 30 (.agg #[.int .i64 1, .int .i64 48, .int .i64 160]) (.agg #[.int .i64 1, .int .i64 48, .int .i64 160])).run Try.prog V = .ok (.bool true) V := fun V => (eq_ac V ⟨1, 48, 160⟩ ⟨1, 48, 160⟩).trans (by rw [decide_eq_true rfl])
  have HK16 : Hid (Below w14.heap.size w14 w16) := Lib.hid (bnext HK15.out HBXs.out)
  go_upto_region 10 with fail
  clear q1 q2 e1 a0 a1 a2 t0 t1 t2 s0 s1 s2 s3 s4 s5
  have hsc := scale_any w16 _ _ 3 (HDR.out w16 HK16.out) ⟨by decide, by decide⟩ (by decide)
  rw [show OL.scale (exD 896 384 896) 3 = OL.zd by decide +kernel] at hsc
  have HC := Lib.hid hsc
  clear hsc
  obtain ⟨d0, d1, d2, d3, d4, d5⟩ := HKY.out w16 HK16.out
  go_wp2_with fail
  go_at_call 18
  refine HC.out.mono ?_
  rintro e w17 ⟨dv, rfl, hdr, k9⟩
  have HBw17 := Lib.hid (bnext HBw16.out k9)
  clear HC k9 d0 d1 d2 d3 d4 d5
  have hdr := hdr w17 (FrS.refl _ _)
  obtain ⟨vc, vA, rfl, h1, h2⟩ := id hdr
  obtain ⟨f1, l1, rfl⟩ := h1.shape
  obtain ⟨f2, l2, rfl⟩ := h2.shape
  clear h1 h2
  have hsm := rsamedr_any w17 _ _ OL.zd OL.zd hdr (zd_at w17) ⟨by decide, by decide⟩ ⟨by decide, by decide⟩ (by decide) (by decide)
  rw [decide_eq_true rfl] at hsm
  have HC := Lib.hid hsm
  clear hsm hdr
  dsimp only [OL.zd, List.length_nil] at HC ⊢
  go_wp2_with fail
  go_at_call 15
  refine HC.out.mono ?_
  rintro e w18 ⟨rfl, k9⟩
  have HBw18 := Lib.hid (bnext HBw17.out k9)
  clear HC k9
  have hsg := same_any w18 _ _ exG exG (HGL.out.keep (bnext HX12.out HBw18.out)) (HGL.out.keep (bnext HX12.out HBw18.out)) exG_ok exG_ok
  rw [show OL.same exG exG = true by decide +kernel] at hsg
  have HC := Lib.hid hsg
  clear hsg
  obtain ⟨g0, g1, g2, g3, g4, g5, g6, g7⟩ := HKX.out w18 HBw18.out
  go_wp2_with fail
  go_at_call 20
  refine HC.out.mono ?_
  rintro e w19 ⟨rfl, k9⟩
  have HBw19 := Lib.hid (bnext HBw18.out k9)
  clear HC k9 g0 g1 g2 g3 g4 g5 g6 g7
  have hsg := same_any w19 _ (.agg #[.slice none 0 0, .slice none 0 0, .int .i64 0, .int .i64 0, .int .i64 0, .int .i64 0, .slice none 0 0, .slice none 0 0]) exG ⟨[], [], ⟨0, 0, 0⟩, 0, [], []⟩ (HGL.out.keep (bnext HX12.out HBw19.out)) ⟨_, _, _, _, rfl, ⟨[], SrcN.nil 1 _, fun i c h => by simp at h⟩, SrcN.nil 3 _, ⟨[], rfl, SrcN.nil 3 _, fun i c h => by simp at h⟩, SrcN.nil 2 _⟩ exG_ok ⟨⟨by decide, by decide⟩, by decide, by decide, by decide, by decide⟩
  rw [show OL.same exG ⟨[], [], ⟨0, 0, 0⟩, 0, [], []⟩ = false by decide +kernel] at hsg
  have HC := Lib.hid hsg
  clear hsg
  obtain ⟨g0, g1, g2, g3, g4, g5, g6, g7⟩ := HKX.out w19 HBw19.out
  go_wp2_with fail
  go_at_call 20
  refine HC.out.mono ?_
  rintro e w20 ⟨rfl, k9⟩
  have HBZ := Lib.hid (bnext HB1.out (bnext HX12.out (bnext HBw19.out k9)))
  clear HC k9 g0 g1 g2 g3 g4 g5 g6 g7
  go_wp2
  go_ret
  exact ⟨by first | rfl | simp, HBZ.out⟩
end Go.Proofs.Ytanppbdlcinpfaa
