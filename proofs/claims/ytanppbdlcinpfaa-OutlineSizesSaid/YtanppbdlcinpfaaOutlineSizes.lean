/- For every case and size OutlineSizes returns true: a scaled number differs from the number times size / 64 by at most one half, and scaling keeps the order of numbers. No conditions. -/
import Derived.Test.YtanppbdlcinpfaaOl46
set_option linter.unusedSimpArgs false
set_option linter.unusedVariables false
namespace Go.Proofs.Ytanppbdlcinpfaa.outlineSizes
open Go.ChangeShapes Go.WideShapes Go.ChangeAt Go.RowKit Go.Joins Go.Deep
set_option linter.unusedVariables false

set_option maxRecDepth 100000 in
set_option maxHeartbeats 16000000 in
theorem walk (v0 : Value) (g0 : List Int) (s0 : List Int) (t0 : List Int) (a0 : Int) (b0 : Int) (c0 : Int) (x0 : Int) (y0 : Int) (a1 : Int) (wa1 : (Lit.int .u8 a1).wf = true) (w : World) (H0 : CaArg w v0 g0 s0 t0 a0 b0 c0 x0 y0) :
    Calls Try.prog 9 #[v0, .int .u8 a1] w fun e w' => e = .returned (.bool true) ∧ Below w.heap.size w w' := by
  have HCA0 := Lib.hid H0
  obtain ⟨ag, cg, ar, cr, aa, ca, rfl, -⟩ := id H0
  obtain ⟨ng, hng⟩ : ∃ z, g0.length = z := ⟨_, rfl⟩
  obtain ⟨nr, hnr⟩ : ∃ z, s0.length = z := ⟨_, rfl⟩
  obtain ⟨na, hna⟩ : ∃ z, t0.length = z := ⟨_, rfl⟩
  rw [hng, hnr, hna] at HCA0 ⊢
  clear H0 hng hnr hna
  obtain ⟨B, hB⟩ : ∃ B, w.heap.size = B := ⟨_, rfl⟩
  have hx1 := heap_alloc_new w (.cells #[.slice ag ng cg, .slice ar nr cr, .slice aa na ca, .int .i64 a0, .int .i64 b0, .int .i64 c0, .int .u8 x0, .int .u8 y0] 25)
  have hb1 := balloc (Below.refl _ w) (.cells #[.slice ag ng cg, .slice ar nr cr, .slice aa na ca, .int .i64 a0, .int .i64 b0, .int .i64 c0, .int .u8 x0, .int .u8 y0] 25)
  obtain ⟨w1, hw1⟩ : ∃ w1, w.alloc (.cells #[.slice ag ng cg, .slice ar nr cr, .slice aa na ca, .int .i64 a0, .int .i64 b0, .int .i64 c0, .int .u8 x0, .int .u8 y0] 25) = w1 := ⟨_, rfl⟩
  rw [hw1, hB] at hx1
  rw [hw1] at hb1
  have HB1 := Lib.hid hb1
  have HXC := Lib.hid hx1
  have HKC : Hid (∀ U, Below w1.heap.size w1 U → U.cell? ⟨B, 0, none⟩ = some (.slice ag ng cg) ∧ U.cell? ⟨B, 1, none⟩ = some (.slice ar nr cr) ∧ U.cell? ⟨B, 2, none⟩ = some (.slice aa na ca) ∧ U.cell? ⟨B, 3, none⟩ = some (.int .i64 a0) ∧ U.cell? ⟨B, 4, none⟩ = some (.int .i64 b0) ∧ U.cell? ⟨B, 5, none⟩ = some (.int .i64 c0) ∧ U.cell? ⟨B, 6, none⟩ = some (.int .u8 x0) ∧ U.cell? ⟨B, 7, none⟩ = some (.int .u8 y0)) := Lib.hid fun U hU => by
    have h := (hU.block B (Array.getElem?_eq_some_iff.1 HXC.out).1).trans HXC.out
    exact ⟨nd_cell h rfl, nd_cell h rfl, nd_cell h rfl, nd_cell h rfl, nd_cell h rfl, nd_cell h rfl, nd_cell h rfl, nd_cell h rfl⟩
  clear hx1 hb1
  go_enter Try.func9, Try.ntmps9
  go_upto_region 1 with fail
  try rw [hB]
  try rw [hw1]
  clear hB hw1
  go_wp2_with fail
  go_at_call 10
  refine (sane_any _).mono ?_
  rintro e w2 ⟨rfl, k2⟩
  have HB2 := Lib.hid k2
  clear k2
  have HMD := Lib.hid (made_any w2 _ _ _ _ _ _ _ _ _ (HCA0.out.keep (bnext HB1.out HB2.out)))
  obtain ⟨o0, o1, o2, o3, o4, o5, o6, o7⟩ := HKC.out w2 HB2.out
  go_wp2_with fail
  go_at_call 11
  refine HMD.out.mono ?_
  rintro e w3 ⟨u, ur, ua, G, R, n, many, L, rfl, hgk, hmk, hrg, hrl, hrr, hat, hn1, hn3, hm3, k3⟩
  obtain ⟨n1, n2, n3, c1, k1, c2, k2, c3, k3', hc, hx, hy, ad, hE⟩ := gk_shape hgk
  subst hE
  obtain ⟨ra, rk, rfl, -⟩ := id hrg
  obtain ⟨ta, tk, rfl, -⟩ := id hat
  rw [hrl] at hrg ⊢
  rw [AX.mkAt_len] at hat ⊢
  have HGK := Lib.hid hgk
  have HMK := Lib.hid hmk
  have HRG := Lib.hid (And.intro hrg (And.intro hrl hrr))
  have HAT := Lib.hid hat
  have HB3 := Lib.hid k3
  clear HMD hgk hmk hrg hrl hrr hat k3 o0 o1 o2 o3 o4 o5 o6 o7
  have hxn := heap_alloc_new w3 (.cells #[.slice none 0 0, .slice none 0 0, .int .i64 0, .int .i64 0, .int .i64 0, .int .i64 0, .slice none 0 0, .slice none 0 0] 34)
  have hbn := balloc (Below.refl _ w3) (.cells #[.slice none 0 0, .slice none 0 0, .int .i64 0, .int .i64 0, .int .i64 0, .int .i64 0, .slice none 0 0, .slice none 0 0] 34)
  obtain ⟨X, hX⟩ : ∃ X, w3.heap.size = X := ⟨_, rfl⟩
  obtain ⟨wa, hwa⟩ : ∃ wa, w3.alloc (.cells #[.slice none 0 0, .slice none 0 0, .int .i64 0, .int .i64 0, .int .i64 0, .int .i64 0, .slice none 0 0, .slice none 0 0] 34) = wa := ⟨_, rfl⟩
  have HXo : Hid (X = w3.heap.size) := Lib.hid hX.symm
  rw [hX, hwa] at hxn
  rw [hwa] at hbn
  have bc0 : wa.cell? ⟨X, 0, none⟩ = some (.slice none 0 0) := nd_cell hxn rfl
  have bc1 : wa.cell? ⟨X, 1, none⟩ = some (.slice none 0 0) := nd_cell hxn rfl
  have bc2 : wa.cell? ⟨X, 2, none⟩ = some (.int .i64 0) := nd_cell hxn rfl
  have bc3 : wa.cell? ⟨X, 3, none⟩ = some (.int .i64 0) := nd_cell hxn rfl
  have bc4 : wa.cell? ⟨X, 4, none⟩ = some (.int .i64 0) := nd_cell hxn rfl
  have bc5 : wa.cell? ⟨X, 5, none⟩ = some (.int .i64 0) := nd_cell hxn rfl
  have bc6 : wa.cell? ⟨X, 6, none⟩ = some (.slice none 0 0) := nd_cell hxn rfl
  have bc7 : wa.cell? ⟨X, 7, none⟩ = some (.slice none 0 0) := nd_cell hxn rfl
  have bf0 := nd_froz hxn 0
  have bf1 := nd_froz hxn 1
  have bf2 := nd_froz hxn 2
  have bf3 := nd_froz hxn 3
  have bf4 := nd_froz hxn 4
  have bf5 := nd_froz hxn 5
  have bf6 := nd_froz hxn 6
  have bf7 := nd_froz hxn 7
  obtain ⟨w4, hwx, hxx, hfx⟩ := sto8 hxn (.slice c1 n1 k1) (.slice c2 n2 k2) (.int .i64 hc) (.int .i64 hx) (.int .i64 hy) (.int .i64 ad) (.slice c3 n3 k3') (.slice none 0 0)
  have HXX := Lib.hid hxx
  have HBX := Lib.hid (hfx.below w3 hbn (fun b hb => by rw [hb, HXo.out]; exact Nat.le_refl _))
  clear hxx hfx hbn hxn
  go_upto_region 3 with fail
  try rw [hwx]
  clear bc0 bf0 bc1 bf1 bc2 bf2 bc3 bf3 bc4 bf4 bc5 bf5 bc6 bf6 bc7 bf7 hwx hX hwa
  have HKG : Hid (∀ U, Below w4.heap.size w4 U → U.cell? ⟨X, 0, none⟩ = some (.slice c1 n1 k1) ∧ U.cell? ⟨X, 1, none⟩ = some (.slice c2 n2 k2) ∧ U.cell? ⟨X, 2, none⟩ = some (.int .i64 hc) ∧ U.cell? ⟨X, 3, none⟩ = some (.int .i64 hx) ∧ U.cell? ⟨X, 4, none⟩ = some (.int .i64 hy) ∧ U.cell? ⟨X, 5, none⟩ = some (.int .i64 ad) ∧ U.cell? ⟨X, 6, none⟩ = some (.slice c3 n3 k3') ∧ U.cell? ⟨X, 7, none⟩ = some (.slice none 0 0)) := Lib.hid fun U hU => by
    have h := (hU.block X (Array.getElem?_eq_some_iff.1 HXX.out).1).trans HXX.out
    exact ⟨nd_cell h rfl, nd_cell h rfl, nd_cell h rfl, nd_cell h rfl, nd_cell h rfl, nd_cell h rfl, nd_cell h rfl, nd_cell h rfl⟩
  have HB4 := HBX
  obtain ⟨D, hD⟩ : ∃ D, OL.draw G R (AX.mkAt L n) = D := ⟨_, rfl⟩
  have HDS : Hid (∀ z ∈ OL.nl D, -20000 ≤ z ∧ z ≤ 20000) := Lib.hid (by rw [← hD]; exact HMK.out.small R _)
  have HDK : Hid (CsOk D.cs ∧ D.an.length ≤ 1000) := Lib.hid (by rw [← hD]; exact draw_ok HMK.out R _)
  have hat := at_any w4 _ (.slice ra many rk) (.slice ta n tk) G R (AX.mkAt L n) (HGK.out.gl.keep HB4.out) HMK.out.ok (HRG.out.1.keep HB4.out) (HAT.out.keep HB4.out) (by rw [HRG.out.2.1]; omega) (fun r hr => by rw [(HRG.out.2.2 r hr).2]; omega) (by rw [AX.mkAt_len]; omega)
  rw [HMK.out.at_ok HRG.out.2.1 HRG.out.2.2 hn3 L, hD] at hat
  have HCT := Lib.hid hat
  clear hat hD
  obtain ⟨o0, o1, o2, o3, o4, o5, o6, o7⟩ := HKG.out w4 (Below.refl _ _)
  go_wp2_with fail
  go_at_call 13
  refine HCT.out.mono ?_
  rintro e w5 ⟨dv, rfl, hdr, k5⟩
  have HB5 := Lib.hid k5
  clear HCT k5 o0 o1 o2 o3 o4 o5 o6 o7
  obtain ⟨dcs, dan, ⟨e1, e2, e3⟩, e4⟩ := D
  obtain ⟨vc, vA, rfl, h1, h2⟩ := id hdr
  have HDR := Lib.hid hdr
  obtain ⟨d1, j1, rfl⟩ := h1.shape
  obtain ⟨d2, j2, rfl⟩ := h2.shape
  dsimp only at HDR ⊢
  obtain ⟨m1, hm1⟩ : ∃ z, dcs.length = z := ⟨_, rfl⟩
  obtain ⟨m2, hm2⟩ : ∃ z, dan.length = z := ⟨_, rfl⟩
  rw [hm1, hm2] at HDR ⊢
  clear hdr h1 h2 hm1 hm2
  have hxn := heap_alloc_new w5 (.cells #[.slice none 0 0, .slice none 0 0, .int .i64 0, .int .i64 0, .int .i64 0, .int .i64 0] 41)
  have hbn := balloc (Below.refl _ w5) (.cells #[.slice none 0 0, .slice none 0 0, .int .i64 0, .int .i64 0, .int .i64 0, .int .i64 0] 41)
  obtain ⟨Y, hX⟩ : ∃ Y, w5.heap.size = Y := ⟨_, rfl⟩
  obtain ⟨way, hwa⟩ : ∃ way, w5.alloc (.cells #[.slice none 0 0, .slice none 0 0, .int .i64 0, .int .i64 0, .int .i64 0, .int .i64 0] 41) = way := ⟨_, rfl⟩
  have HXoy : Hid (Y = w5.heap.size) := Lib.hid hX.symm
  rw [hX, hwa] at hxn
  rw [hwa] at hbn
  have bc0 : way.cell? ⟨Y, 0, none⟩ = some (.slice none 0 0) := nd_cell hxn rfl
  have bc1 : way.cell? ⟨Y, 1, none⟩ = some (.slice none 0 0) := nd_cell hxn rfl
  have bc2 : way.cell? ⟨Y, 2, none⟩ = some (.int .i64 0) := nd_cell hxn rfl
  have bc3 : way.cell? ⟨Y, 3, none⟩ = some (.int .i64 0) := nd_cell hxn rfl
  have bc4 : way.cell? ⟨Y, 4, none⟩ = some (.int .i64 0) := nd_cell hxn rfl
  have bc5 : way.cell? ⟨Y, 5, none⟩ = some (.int .i64 0) := nd_cell hxn rfl
  have bf0 := nd_froz hxn 0
  have bf1 := nd_froz hxn 1
  have bf2 := nd_froz hxn 2
  have bf3 := nd_froz hxn 3
  have bf4 := nd_froz hxn 4
  have bf5 := nd_froz hxn 5
  obtain ⟨w6, hwx, hxx, hfx⟩ := sto6 hxn (.slice d1 m1 j1) (.slice d2 m2 j2) (.int .i64 e1) (.int .i64 e2) (.int .i64 e3) (.int .i64 e4)
  have HXXy := Lib.hid hxx
  have HBXy := Lib.hid (hfx.below w5 hbn (fun b hb => by rw [hb, HXoy.out]; exact Nat.le_refl _))
  clear hxx hfx hbn hxn
  go_upto_region 4 with fail
  try rw [hwx]
  clear bc0 bf0 bc1 bf1 bc2 bf2 bc3 bf3 bc4 bf4 bc5 bf5 hwx hX hwa
  have HKY : Hid (∀ U, Below w6.heap.size w6 U → U.cell? ⟨Y, 0, none⟩ = some (.slice d1 m1 j1) ∧ U.cell? ⟨Y, 1, none⟩ = some (.slice d2 m2 j2) ∧ U.cell? ⟨Y, 2, none⟩ = some (.int .i64 e1) ∧ U.cell? ⟨Y, 3, none⟩ = some (.int .i64 e2) ∧ U.cell? ⟨Y, 4, none⟩ = some (.int .i64 e3) ∧ U.cell? ⟨Y, 5, none⟩ = some (.int .i64 e4)) := Lib.hid fun U hU => by
    have h := (hU.block Y (Array.getElem?_eq_some_iff.1 HXXy.out).1).trans HXXy.out
    exact ⟨nd_cell h rfl, nd_cell h rfl, nd_cell h rfl, nd_cell h rfl, nd_cell h rfl, nd_cell h rfl⟩
  have ha1 := bd8 wa1
  obtain ⟨s29, hs29⟩ : ∃ z, a1 % 29 = z := ⟨_, rfl⟩
  have hst : a1.tmod 29 = s29 := (Int.tmod_eq_emod_of_nonneg ha1.1).trans hs29
  have hwa : IntKind.i64.wrap a1 = a1 := IntWalk.i64_in _ (by omega)
  have hws : IntKind.i64.wrap s29 = s29 := IntWalk.i64_in _ (by omega)
  obtain ⟨sz, hsz⟩ : ∃ z, 4 + s29 = z := ⟨_, rfl⟩
  have hwz : IntKind.i64.wrap sz = sz := IntWalk.i64_in _ (by omega)
  have HSZ : Hid (4 ≤ sz ∧ sz ≤ 32) := Lib.hid (by omega)
  go_upto_region 5 with fail
  try rw [hsz]
  clear hst hwa hws hwz ha1 hs29 hsz
  have HN1 : Hid (∀ U, Below w6.heap.size w6 U → Calls Try.prog 23 #[.agg #[.slice d1 m1 j1, .slice d2 m2 j2, .int .i64 e1, .int .i64 e2, .int .i64 e3, .int .i64 e4]] U fun e w' => ∃ u, e = .returned u ∧ w'.ownsRow U.heap.size 3 1 u (OL.nl ⟨dcs, dan, ⟨e1, e2, e3⟩, e4⟩).length ((OL.nl ⟨dcs, dan, ⟨e1, e2, e3⟩, e4⟩).map (Value.int .i64)) ∧ Below U.heap.size U w') := Lib.hid fun U hU => rnumbers_any U _ _ (HDR.out.keep (bnext HBXy.out hU)) HDK.out.1 HDK.out.2
  have HN2 : Hid (∀ U, Below w6.heap.size w6 U → Calls Try.prog 18 #[.agg #[.slice d1 m1 j1, .slice d2 m2 j2, .int .i64 e1, .int .i64 e2, .int .i64 e3, .int .i64 e4], .int .i64 sz] U fun e W' => ∃ v', e = .returned v' ∧ (∀ V, FrS (fun b => b < U.heap.size) W' V → DrAt V v' (OL.scale ⟨dcs, dan, ⟨e1, e2, e3⟩, e4⟩ sz)) ∧ Below U.heap.size U W') := Lib.hid fun U hU => scale_any U _ _ sz (HDR.out.keep (bnext HBXy.out hU)) HDK.out.1 HDK.out.2
  obtain ⟨NA, hNA⟩ : ∃ N, OL.nl ⟨dcs, dan, ⟨e1, e2, e3⟩, e4⟩ = N := ⟨_, rfl⟩
  obtain ⟨D2, hD2⟩ : ∃ N, OL.scale ⟨dcs, dan, ⟨e1, e2, e3⟩, e4⟩ sz = N := ⟨_, rfl⟩
  have HD2 : Hid (CsOk D2.cs ∧ D2.an.length ≤ 1000) := Lib.hid (by rw [← hD2]; exact scale_ok HDK.out.1 HDK.out.2 sz)
  have HNB : Hid (OL.nl D2 = NA.map (sz1 sz) ∧ 0 < NA.length ∧ ∀ z ∈ NA, -20000 ≤ z ∧ z ≤ 20000) := Lib.hid ⟨by rw [← hD2, ← hNA]; exact scale_nl HSZ.out HDS.out, by rw [← hNA, OL.nl_len]; omega, by rw [← hNA]; exact HDS.out⟩
  rw [hNA] at HN1
  rw [hD2] at HN2
  clear hNA hD2 HDS
  refine wp_region_held_drew (S := (fun U => U.cell? ⟨Y, 0, none⟩ = some (.slice d1 m1 j1) ∧ U.cell? ⟨Y, 1, none⟩ = some (.slice d2 m2 j2) ∧ U.cell? ⟨Y, 2, none⟩ = some (.int .i64 e1) ∧ U.cell? ⟨Y, 3, none⟩ = some (.int .i64 e2) ∧ U.cell? ⟨Y, 4, none⟩ = some (.int .i64 e3) ∧ U.cell? ⟨Y, 5, none⟩ = some (.int .i64 e4))) (by kernel_rfl) ?_ (fun hHeld => ?_)
  · exact HKY.out _ (Below.drew (Below.refl _ w6))
  refine wpAnyH_take (i := 0) (oi := { dst := some 34, op := Op.load 41 (Operand.tmp 9), type := 41, pos := "law.go:223", after := #[], guard := none }) (v := ?_) rfl (by kernel_rfl) (by kernel_rfl) (by kernel_rfl) (fun _ _ _ h => h) (Or.inl ⟨by rfl, ?_⟩) (by assumption) ?_
  rotate_left
  · ((intro w hSw; (try dsimp only at hSw); go_simp; (try rw [if_neg (by omega)])); try with_reducible rfl)
  (try simp only [Act.put, List.setIfInBounds_toArray, List.set_cons_zero, List.set_cons_succ])
  refine wpAnyH_take (i := 2) (oi := { dst := some 36, op := Op.load 41 (Operand.tmp 9), type := 41, pos := "law.go:223", after := #[], guard := none }) (v := ?_) rfl (by kernel_rfl) (by kernel_rfl) (by kernel_rfl) (fun _ _ _ h => h) (Or.inl ⟨by rfl, ?_⟩) (by assumption) ?_
  rotate_left
  · ((intro w hSw; (try dsimp only at hSw); go_simp; (try rw [if_neg (by omega)])); try with_reducible rfl)
  (try simp only [Act.put, List.setIfInBounds_toArray, List.set_cons_zero, List.set_cons_succ])
  refine wpAnyH_take (i := 3) (oi := { dst := some 37, op := Op.move (Operand.tmp 11), type := 3, pos := "law.go:223", after := #[], guard := none }) (v := ?_) rfl (by kernel_rfl) (by kernel_rfl) (by kernel_rfl) (fun _ _ _ h => h) (Or.inl ⟨by rfl, ?_⟩) (by assumption) ?_
  rotate_left
  · ((intro w hSw; (try dsimp only at hSw); go_simp; (try rw [if_neg (by omega)])); try with_reducible rfl)
  (try simp only [Act.put, List.setIfInBounds_toArray, List.set_cons_zero, List.set_cons_succ])
  refine wpAnyH_ready (rs := [1]) (by kernel_rfl) (by simp) ?_
  refine AllReadyH.cons (o := { dst := some 35, op := Op.call { callee := Callee.value (Operand.func 23), args := #[Operand.tmp 34], argTypes := #[41] }, type := 22, pos := "law.go:223", after := #[{ on := 0, ground := Ground.data }], guard := none }) rfl (fun K hK => ?_) ?_
  · (go_simp; go_at_call 23; refine (HN1.out _ (Below.drew (Below.refl _ w6))).mono ?_; rintro e w7 ⟨u7, rfl, hu7, k7⟩; obtain ⟨ga, gc, rfl⟩ := own_shape hu7; have hb7 := bnext (Below.drew (Below.refl _ w6)) k7; dsimp only)
    refine hK.out _ _ ?_ (fun hHeld => ?_)
    · exact HKY.out _ hb7
    clear hK K
    (try simp only [Act.put, List.setIfInBounds_toArray, List.set_cons_zero, List.set_cons_succ])
    refine wpAnyH_ready (rs := [4]) (by kernel_rfl) (by simp) ?_
    refine AllReadyH.cons (o := { dst := some 38, op := Op.call { callee := Callee.value (Operand.func 18), args := #[Operand.tmp 36, Operand.tmp 37], argTypes := #[41, 3] }, type := 41, pos := "law.go:223", after := #[{ on := 2, ground := Ground.data }, { on := 3, ground := Ground.data }, { on := 1, ground := Ground.chain }], guard := none }) rfl (fun K hK => ?_) ?_
    · (go_simp; go_at_call 18; refine (HN2.out _ hb7).mono ?_; rintro e w8 ⟨u8', rfl, hu8, k8⟩; have hb8 := bnext hb7 k8; have HN3 := Lib.hid (rnumbers_any w8 u8' D2 (hu8 w8 (FrS.refl _ _)) HD2.out.1 HD2.out.2); dsimp only)
      refine hK.out _ _ ?_ (fun hHeld => ?_)
      · exact HKY.out _ hb8
      clear hK K
      (try simp only [Act.put, List.setIfInBounds_toArray, List.set_cons_zero, List.set_cons_succ])
      refine wpAnyH_ready (rs := [5]) (by kernel_rfl) (by simp) ?_
      refine AllReadyH.cons (o := { dst := some 39, op := Op.call { callee := Callee.value (Operand.func 23), args := #[Operand.tmp 38], argTypes := #[41] }, type := 22, pos := "law.go:223", after := #[{ on := 4, ground := Ground.data }, { on := 4, ground := Ground.chain }], guard := none }) rfl (fun K hK => ?_) ?_
      · (go_simp; go_at_call 23; refine HN3.out.mono ?_; rintro e w9 ⟨u9', rfl, hu9, k9⟩; obtain ⟨gb, gd, rfl⟩ := own_shape hu9; have hb9 := bnext hb8 k9; dsimp only)
        refine hK.out _ _ ?_ (fun hHeld => ?_)
        · exact HKY.out _ hb9
        clear hK K
        (try simp only [Act.put, List.setIfInBounds_toArray, List.set_cons_zero, List.set_cons_succ])
        refine wpAnyH_take (i := 6) (oi := { dst := some 12, op := Op.assign (Operand.tmp 35), type := 22, pos := "law.go:223", after := #[{ on := 1, ground := Ground.data }, { on := 5, ground := Ground.chain }, { on := 0, ground := Ground.phase }, { on := 1, ground := Ground.phase }, { on := 2, ground := Ground.textOnly Departure.lateStores }, { on := 3, ground := Ground.textOnly Departure.lateStores }, { on := 4, ground := Ground.textOnly Departure.lateStoresUnsure }, { on := 5, ground := Ground.textOnly Departure.lateStoresUnsure }], guard := none }) (v := ?_) rfl (by kernel_rfl) (by kernel_rfl) (by kernel_rfl) (fun _ _ _ h => h) (Or.inl ⟨by rfl, ?_⟩) (by assumption) ?_
        rotate_left
        · ((intro w hSw; (try dsimp only at hSw); go_simp; (try rw [if_neg (by omega)])); try with_reducible rfl)
        (try simp only [Act.put, List.setIfInBounds_toArray, List.set_cons_zero, List.set_cons_succ])
        refine wpAnyH_take (i := 7) (oi := { dst := some 13, op := Op.assign (Operand.tmp 39), type := 22, pos := "law.go:223", after := #[{ on := 5, ground := Ground.data }, { on := 6, ground := Ground.chain }, { on := 0, ground := Ground.phase }, { on := 1, ground := Ground.phase }, { on := 2, ground := Ground.phase }, { on := 3, ground := Ground.phase }, { on := 4, ground := Ground.phase }, { on := 5, ground := Ground.phase }, { on := 6, ground := Ground.phase }], guard := none }) (v := ?_) rfl (by kernel_rfl) (by kernel_rfl) (by kernel_rfl) (fun _ _ _ h => h) (Or.inl ⟨by rfl, ?_⟩) (by assumption) ?_
        rotate_left
        · ((intro w hSw; (try dsimp only at hSw); go_simp; (try rw [if_neg (by omega)])); try with_reducible rfl)
        (try simp only [Act.put, List.setIfInBounds_toArray, List.set_cons_zero, List.set_cons_succ])
        refine wpAnyH_done (by kernel_rfl) ?_ _
        clear hHeld
        have HBZ := Lib.hid (bnext HB1.out (bnext HB2.out (bnext HB3.out (bnext HB4.out (bnext HB5.out (bnext HBXy.out hb9))))))
        have hl9 : (OL.nl D2).length = NA.length := by rw [HNB.out.1, List.length_map]
        obtain ⟨la, hla⟩ : ∃ l, NA.length = l := ⟨_, rfl⟩
        have HLA := Lib.hid (And.intro hla (show 0 < la by rw [← hla]; exact HNB.out.2.1))
        have HRA : Hid (∀ U, Below w9.heap.size w9 U → ∀ (i : Nat) (z : Int), NA[i]? = some z → ∃ g o, ga = some ⟨g, o, none⟩ ∧ U.cell? ⟨g, o + i, none⟩ = some (.int .i64 z)) := Lib.hid fun U hU i z hz => src_int ((own_srcN hu7).keep (bnext k8 (bnext k9 hU))) hz
        have HRB : Hid (∀ U, Below w9.heap.size w9 U → ∀ (i : Nat) (z : Int), NA[i]? = some z → ∃ g o, gb = some ⟨g, o, none⟩ ∧ U.cell? ⟨g, o + i, none⟩ = some (.int .i64 (sz1 sz z))) := Lib.hid fun U hU i z hz => src_int (L := OL.nl D2) ((own_srcN hu9).keep hU) (by rw [HNB.out.1, List.getElem?_map, hz]; rfl)
        have hla9 : la ≤ 9223372036854775807 := by
          have h := (hu7.2)
          have := own_cap2 hu7
          rcases h with ⟨e, -⟩ | ⟨_, cap, _, e, _, _, _, hm, _⟩
          · injection e with _ e2 _
            omega
          · injection e with _ _ e3
            unfold maxLen at hm
            omega
        rw [hl9, hla]
        clear hb7 hb8 hb9 hu7 hu8 hu9 k7 k8 k9 hla hl9
        go_simp
        go_upto_region 8 with fail
        go_wp2_with fail
        go_loopw [51] (fun v51 wr => ∃ k : Nat, v51 = .int .i64 (k : Int) ∧ k ≤ la ∧ Hid (Below w9.heap.size w9 wr)) (fun v51 _ => la - (intOf v51).toNat)
        case atStart => exact ⟨0, rfl, Nat.zero_le _, Lib.hid (Below.refl _ _)⟩
        case round =>
          obtain ⟨k, rfl, hk, HBK⟩ := hrel
          by_cases hkl : k < la
          · have hkk : (k : Int) < (la : Int) := by omega
            have hk0 : (0 : Int) ≤ (k : Int) := by omega
            obtain ⟨x, hx⟩ : ∃ x, NA[k]? = some x := ⟨_, List.getElem?_eq_getElem (by rw [HLA.out.1]; exact hkl)⟩
            have hxb := HNB.out.2.2 x (List.mem_of_getElem? hx)
            have hyb := sz1_bd HSZ.out hxb
            have hnear := sz1_near (n := sz) (x := x)
            obtain ⟨gA, oA, rfl, hca⟩ := HRA.out wr HBK.out k x hx
            obtain ⟨gB, oB, rfl, hcb⟩ := HRB.out wr HBK.out k x hx
            obtain ⟨y, hy⟩ : ∃ y, sz1 sz x = y := ⟨_, rfl⟩
            rw [hy] at hcb hyb hnear
            obtain ⟨p, hp⟩ : ∃ p, sz * x = p := ⟨_, rfl⟩
            rw [hp] at hnear
            have hpb : -1300000 ≤ p ∧ p ≤ 1300000 := by omega
            obtain ⟨q, hq⟩ : ∃ q, 2 * (64 * y - p) = q := ⟨_, rfl⟩
            have hqb : -64 ≤ q ∧ q ≤ 64 := by rw [← hq]; exact hnear
            have w1' : IntKind.i64.wrap (64 * y) = 64 * y := IntWalk.i64_in _ (by omega)
            have w2' : IntKind.i64.wrap p = p := IntWalk.i64_in _ (by omega)
            have w3' : IntKind.i64.wrap (64 * y - p) = 64 * y - p := IntWalk.i64_in _ (by omega)
            have w4' : IntKind.i64.wrap q = q := IntWalk.i64_in _ (by omega)
            have HXY := Lib.hid (And.intro hx (And.intro hy (And.intro hxb hyb)))
            have HQB := Lib.hid hqb
            have HKS : Hid (∀ U, Below wr.heap.size wr U → (fun U => U.cell? ⟨gA, oA + k, none⟩ = some (.int .i64 x) ∧ U.cell? ⟨gB, oB + k, none⟩ = some (.int .i64 y)) U) := Lib.hid fun U hU => ⟨(hU.cell (World.block_lt_of_cell? wr _ hca)).trans hca, (hU.cell (World.block_lt_of_cell? wr _ hcb)).trans hcb⟩
            clear hx hy hxb hyb hnear hpb hqb
            have g1 : decide ((64 : Int) < q) = false := decide_eq_false (by have := HQB.out; omega)
            have g2 : decide (q < -64) = false := decide_eq_false (by have := HQB.out; omega)
            by_cases hk1 : k = 0
            · have g3 : decide ((0 : Int) < (k : Int)) = false := decide_eq_false (by omega)
              have g3n : decide (0 < k) = false := decide_eq_false (by omega)
              clear hk1
              go_wp2_with fail
              go_quiet (fail)
              go_wp2_with fail
              go_quiet (fail)
              go_wp2_with fail
              go_roundw
              case rel => exact ⟨k + 1, by go_num, by omega, Lib.hid (below_drewN HBK.out _)⟩
              case measure => simp [intOf]; omega
            · have g3 : decide ((0 : Int) < (k : Int)) = true := decide_eq_true (by omega)
              have g3n : decide (0 < k) = true := decide_eq_true (by omega)
              obtain ⟨j, hj⟩ : ∃ j, k = j + 1 := ⟨k - 1, by omega⟩
              have hki : (k : Int) - 1 = (j : Int) := by omega
              have hwk : IntKind.i64.wrap (j : Int) = (j : Int) := IntWalk.i64_in _ (by omega)
              have hjl : (j : Int) < (la : Int) := by omega
              have hj0 : (0 : Int) ≤ (j : Int) := by omega
              obtain ⟨x1, hx1⟩ : ∃ x, NA[j]? = some x := ⟨_, List.getElem?_eq_getElem (by rw [HLA.out.1]; omega)⟩
              obtain ⟨gA', oA', e1', hca1⟩ := HRA.out wr HBK.out j x1 hx1
              obtain ⟨gB', oB', e2', hcb1⟩ := HRB.out wr HBK.out j x1 hx1
              injection e1' with e1'
              injection e1' with e3' e4'
              subst e3' e4'
              injection e2' with e2'
              injection e2' with e5' e6'
              subst e5' e6'
              obtain ⟨y1, hy1⟩ : ∃ y, sz1 sz x1 = y := ⟨_, rfl⟩
              rw [hy1] at hcb1
              have HJ := Lib.hid hj
              by_cases hle : x1 ≤ x
              · have g4 : decide (x1 ≤ x) = true := decide_eq_true hle
                have g5 : decide (y < y1) = false := decide_eq_false (by have := sz1_mono (n := sz) (by have := HSZ.out; omega) hle; rw [hy1, HXY.out.2.1] at this; omega)
                clear hle hx1 hy1 hj hk1
                go_wp2_with fail
                go_quiet (fail)
                go_wp2_with fail
                go_quiet (fail)
                go_wp2_with fail
                go_roundw
                case rel => exact ⟨k + 1, by go_num, by omega, Lib.hid (below_drewN HBK.out _)⟩
                case measure => simp [intOf]; omega
              · have g4 : decide (x1 ≤ x) = false := decide_eq_false hle
                clear hle hx1 hy1 hj hk1
                go_wp2_with fail
                go_quiet (fail)
                go_wp2_with fail
                go_quiet (fail)
                go_wp2_with fail
                go_roundw
                case rel => exact ⟨k + 1, by go_num, by omega, Lib.hid (below_drewN HBK.out _)⟩
                case measure => simp [intOf]; omega
          · have hkk : ¬ (k : Int) < (la : Int) := by omega
            have HBZZ := Lib.hid (bnext HBZ.out HBK.out)
            clear hkl
            go_wp2
            go_ret
            exact ⟨by first | rfl | simp, HBZZ.out⟩
        
      exact AllReadyH.nil
    exact AllReadyH.nil
  exact AllReadyH.nil

set_option maxRecDepth 100000 in
theorem lifted (os : Os) (started : os.Started) (H : Type) (enc : TypeId × Value → H) :
    ReturnsInHanded {} Try.checked os 9 .any (Rows.outlineSizesSpec.pre6 enc Try.prog Try.f9 Rows.outlineSizesRow.domain false) (Rows.outlineSizesSpec.post enc Try.prog Try.f9 false true false false) := by
  refine returnsInHanded_of_change (C := Try.checked) own started (by kernel_rfl) Try.func9
    (ChangeSpec.witness6 (enc := enc) (C := Try.checked) false ⟨#[], #[.agg #[.slice none 0 0, .slice none 0 0, .slice none 0 0, .int .i64 0, .int .i64 0, .int .i64 0, .int .u8 0, .int .u8 0], .int .u8 0], []⟩ 8 (by kernel_rfl) (by kernel_rfl) (by kernel_rfl) (by kernel_rfl)) ?_
  intro W base args ds gs before hval0 hW hcnd _
  have hval : ∀ (j : Nat) t v, Try.f9.params[j]? = some t → args[j]? = some v → Value.okWide Try.prog W .any base t v := hval0
  have hW' := hW
  obtain ⟨p, q, hA0, hV, rfl, hfz, hnd⟩ := hW
  have hA : DataW.TrodAll enc Try.prog W 0 (fun _ => true) true Try.f9.params.toList args.toList ds p := hA0
  rw [Try.params9] at hA hval
  obtain ⟨v0, vs0, d0, ds0, p0, q0, hargs, rfl, rfl, h0, r0⟩ := trodAll_cons hA
  obtain ⟨v1, vs1, d1, ds1, p1, q1, rfl, rfl, rfl, h1, r1⟩ := trodAll_cons r0
  obtain ⟨rfl, rfl, rfl⟩ := trodAll_nil r1
  obtain rfl : args = #[v0, v1] := by cases args; simp_all
  obtain ⟨rfl, rfl⟩ := trodVars_none hV
  have k0 := h0
  have lt0 : ∀ x ∈ p0, x.block < W.heap.size := by obtain ⟨m, hm⟩ := k0; exact DataW.trod_lt m _ _ _ hm
  have k1 := h1
  have lt1 : ∀ x ∈ p1, x.block < W.heap.size := by obtain ⟨m, hm⟩ := k1; exact DataW.trod_lt m _ _ _ hm
  obtain ⟨g0, s0, t0, a0, b0, c0, x0, y0, H0⟩ := open_case (hval 0 25 v0 rfl rfl) h0
  obtain ⟨a1, rfl, rfl, rfl, wa1⟩ := open_int Try.underlying5 (hval 1 5 v1 rfl rfl) h1
  clear hA0 hval0
  refine (walk v0 g0 s0 t0 a0 b0 c0 x0 y0 a1 wa1 W H0).mono fun e W' ⟨he, bel⟩ => ?_
  subst he
  exact ⟨_, rfl, _, _, _, [], _, [], hW', trodAll_mk1 (shut_bool Try.underlying4 _), (trodAll_cons_mk (Below.trod laidOut (by kernel_rfl) (of_decide_eq_true (by kernel_rfl)) k0 bel lt0) (trodAll_cons_mk (Below.trod laidOut (by kernel_rfl) (of_decide_eq_true (by kernel_rfl)) k1 bel lt1) trodAll_mk0)), rfl, bel.frame _, fun h => by cases h⟩

theorem over : Rows.outlineSizesRow.holds Try.pinned (OpenSpec.ofChange Rows.outlineSizesSpec) :=
  OpenClaim.holds_of_wide 9 Try.f9 rfl rfl rfl rfl rfl rfl rfl ⟨rfl, rfl, rfl, rfl, rfl⟩ rfl rfl rfl rfl rfl (by kernel_rfl) Try.func9 (by kernel_rfl)
    (of_decide_eq_true (by kernel_rfl)) (by unfold Func.isWrapper; first | (rw [if_pos (by decide +kernel)]; kernel_rfl) | (rw [if_neg (by decide +kernel)]; exact ⟨rfl, rfl⟩))
    (fun os started H enc _ => lifted os started H enc)

end Go.Proofs.Ytanppbdlcinpfaa.outlineSizes
namespace Go.Proofs.Ytanppbdlcinpfaa
theorem outlineSizes_proved : Rows.OutlineSizesSaid := outlineSizes.over
#print axioms outlineSizes_proved
end Go.Proofs.Ytanppbdlcinpfaa
