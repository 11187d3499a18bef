/- What the examples have. No conditions. -/
import Derived.Test.YtanppbdlcinpfaaOl40
import Derived.Test.YtanppbdlcinpfaaOl22
set_option linter.unusedSimpArgs false
set_option linter.unusedVariables false
namespace Go.Proofs.Ytanppbdlcinpfaa
set_option maxRecDepth 100000
set_option linter.unusedVariables false
open Go.RowKit Go.Deep
theorem exG_ok : GlOk exG := ⟨⟨by decide, by decide⟩, by decide, by decide, by decide, by decide⟩
theorem exR_len : ∀ r ∈ exR, r.length ≤ 1000 := by decide
theorem in_one (w : World) (x : Int) : InAt (w.alloc (.cells #[.int .i64 x] 3)) (.slice (some ⟨w.heap.size, 0, none⟩) 1 1) [x] :=
  ⟨_, _, rfl, .inr ⟨w.heap.size, 0, rfl, by simp, fun i y hy => by
    match i, hy with
    | 0, hy =>
      obtain rfl := Option.some.inj hy
      exact nd_cell (heap_alloc_new w _) rfl⟩⟩
theorem example_c (W : World) : Calls Try.prog 26 #[] W fun e W' => ∃ ca ck aa ak da dk pa pk ra rk, e = .returned (.tuple #[.agg #[.slice ca 1 ck, .slice aa 1 ak, .int .i64 0, .int .i64 0, .int .i64 0, .int .i64 12, .slice da 1 dk, .slice pa 0 pk], .slice ra 1 rk]) ∧ GlAt W' (.agg #[.slice ca 1 ck, .slice aa 1 ak, .int .i64 0, .int .i64 0, .int .i64 0, .int .i64 12, .slice da 1 dk, .slice pa 0 pk]) exG ∧ RgAt W' (.slice ra 1 rk) exR ∧ Below W.heap.size W W' := by
  refine (example_any W).mono ?_
  rintro e w1 ⟨u, v, rfl, hgl, hrg, hb⟩
  obtain ⟨vc, va, vd, vp, rfl, h1, h2, h3, h4⟩ := id hgl
  obtain ⟨ca, ck, rfl⟩ := h1.shape
  obtain ⟨aa, ak, rfl⟩ := h2.shape
  obtain ⟨da, dk, rfl⟩ := h3.shape
  obtain ⟨pa, pk, rfl⟩ := h4.shape
  obtain ⟨ra, rk, rfl, -⟩ := id hrg
  exact ⟨ca, ck, aa, ak, da, dk, pa, pk, ra, rk, rfl, hgl, hrg, hb⟩
def exD (x a ad : Int) : Dr := ⟨[[⟨0, 0, true⟩, ⟨x, 0, true⟩, ⟨640, 1280, true⟩]], [⟨1, a, 1280⟩], ⟨0, 0, 0⟩, ad⟩
set_option maxHeartbeats 8000000 in
theorem has_any (W : World) (at' x a ad : Int) (h : OL.at exG exR [at'] = (exD x a ad, 0)) : Calls Try.prog 29 #[.int .i64 at', .int .i64 x, .int .i64 a, .int .i64 ad] W fun e W' => e = .returned (.bool true) ∧ Below W.heap.size W W' := by
  have HH := Lib.hid h
  clear h
  go_enter Try.func29, Try.ntmps29
  have HEX := Lib.hid (example_c W)
  go_wp2_with fail
  go_at_call 26
  refine HEX.out.mono ?_
  rintro e w1 ⟨ca, ck, aa, ak, da, dk, pa, pk, ra, rk, rfl, hgl, hrg, hb1⟩
  clear HEX
  have HGL := Lib.hid hgl
  have HRG := Lib.hid hrg
  have HB1 := Lib.hid hb1
  clear hgl hrg hb1
  have hxn := heap_alloc_new w1 (.cells #[.slice none 0 0, .slice none 0 0, .int .i64 0, .int .i64 0, .int .i64 0, .int .i64 0, .slice none 0 0, .slice none 0 0] 34)
  have hbn := balloc (Below.refl _ w1) (.cells #[.slice none 0 0, .slice none 0 0, .int .i64 0, .int .i64 0, .int .i64 0, .int .i64 0, .slice none 0 0, .slice none 0 0] 34)
  obtain ⟨X, hX⟩ : ∃ X, w1.heap.size = X := ⟨_, rfl⟩
  obtain ⟨wa, hwa⟩ : ∃ wa, w1.alloc (.cells #[.slice none 0 0, .slice none 0 0, .int .i64 0, .int .i64 0, .int .i64 0, .int .i64 0, .slice none 0 0, .slice none 0 0] 34) = wa := ⟨_, rfl⟩
  have HXo : Hid (X = w1.heap.size) := Lib.hid hX.symm
  rw [hX, hwa] at hxn
  rw [hwa] at hbn
  have bc0 : wa.cell? ⟨X, 0, none⟩ = some (.slice none 0 0) := nd_cell hxn rfl
  have bc1 : wa.cell? ⟨X, 1, none⟩ = some (.slice none 0 0) := nd_cell hxn rfl
  have bc2 : wa.cell? ⟨X, 2, none⟩ = some (.int .i64 0) := nd_cell hxn rfl
  have bc3 : wa.cell? ⟨X, 3, none⟩ = some (.int .i64 0) := nd_cell hxn rfl
  have bc4 : wa.cell? ⟨X, 4, none⟩ = some (.int .i64 0) := nd_cell hxn rfl
  have bc5 : wa.cell? ⟨X, 5, none⟩ = some (.int .i64 0) := nd_cell hxn rfl
  have bc6 : wa.cell? ⟨X, 6, none⟩ = some (.slice none 0 0) := nd_cell hxn rfl
  have bc7 : wa.cell? ⟨X, 7, none⟩ = some (.slice none 0 0) := nd_cell hxn rfl
  have bf0 := nd_froz hxn 0
  have bf1 := nd_froz hxn 1
  have bf2 := nd_froz hxn 2
  have bf3 := nd_froz hxn 3
  have bf4 := nd_froz hxn 4
  have bf5 := nd_froz hxn 5
  have bf6 := nd_froz hxn 6
  have bf7 := nd_froz hxn 7
  obtain ⟨w2, hwx, hxx, hfx⟩ := sto8 hxn (.slice ca 1 ck) (.slice aa 1 ak) (.int .i64 0) (.int .i64 0) (.int .i64 0) (.int .i64 12) (.slice da 1 dk) (.slice pa 0 pk)
  have HXX := Lib.hid hxx
  have HBX := Lib.hid (hfx.below w1 hbn (fun b hb => by rw [hb, HXo.out]; exact Nat.le_refl _))
  clear hxx hfx hbn hxn
  go_upto_region 2 with fail
  try rw [hwx]
  clear bc0 bf0 bc1 bf1 bc2 bf2 bc3 bf3 bc4 bf4 bc5 bf5 bc6 bf6 bc7 bf7 hwx hX hwa
  have HL : Hid (InAt (w2.alloc (.cells #[.int .i64 at'] 3)) (.slice (some ⟨w2.heap.size, 0, none⟩) 1 1) [at']) := Lib.hid (in_one w2 at')
  have HBL := Lib.hid (balloc (Below.refl _ w2) (.cells #[.int .i64 at'] 3))
  obtain ⟨w3, hw3⟩ : ∃ w, w2.alloc (.cells #[.int .i64 at'] 3) = w := ⟨_, rfl⟩
  rw [hw3] at HL HBL
  obtain ⟨Q, hQ⟩ : ∃ q, w2.heap.size = q := ⟨_, rfl⟩
  have HB3 : Hid (Below w1.heap.size w1 w3) := Lib.hid (bnext HBX.out HBL.out)
  rw [hQ] at HL
  have hat := at_any w3 (.agg #[.slice ca 1 ck, .slice aa 1 ak, .int .i64 0, .int .i64 0, .int .i64 0, .int .i64 12, .slice da 1 dk, .slice pa 0 pk]) (.slice ra 1 rk) (.slice (some ⟨Q, 0, none⟩) 1 1) exG exR [at'] (HGL.out.keep HB3.out) exG_ok (HRG.out.keep HB3.out) HL.out (by decide) exR_len (by simp)
  rw [HH.out] at hat
  have HAT := Lib.hid hat
  clear hat
  have g0 : w2.cell? ⟨X, 0, none⟩ = some (.slice ca 1 ck) := nd_cell HXX.out rfl
  have g1 : w2.cell? ⟨X, 1, none⟩ = some (.slice aa 1 ak) := nd_cell HXX.out rfl
  have g2 : w2.cell? ⟨X, 2, none⟩ = some (.int .i64 0) := nd_cell HXX.out rfl
  have g3 : w2.cell? ⟨X, 3, none⟩ = some (.int .i64 0) := nd_cell HXX.out rfl
  have g4 : w2.cell? ⟨X, 4, none⟩ = some (.int .i64 0) := nd_cell HXX.out rfl
  have g5 : w2.cell? ⟨X, 5, none⟩ = some (.int .i64 12) := nd_cell HXX.out rfl
  have g6 : w2.cell? ⟨X, 6, none⟩ = some (.slice da 1 dk) := nd_cell HXX.out rfl
  have g7 : w2.cell? ⟨X, 7, none⟩ = some (.slice pa 0 pk) := nd_cell HXX.out rfl
  go_wp2_with fail
  go_at_call 13
  refine HAT.out.mono ?_
  rintro e w4 ⟨dv, rfl, hdr, hb4⟩
  clear HAT hQ hw3
  have HB4 := Lib.hid (bnext HB1.out (bnext HB3.out hb4))
  clear hb4 g0 g1 g2 g3 g4 g5 g6 g7
  obtain ⟨vc, vA, rfl, h1, h2⟩ := hdr
  dsimp only [exD] at h1 h2 ⊢
  obtain ⟨c1, k1, rfl⟩ := h1.shape
  obtain ⟨c2, k2, rfl⟩ := h2.shape
  obtain ⟨g1, o1, p1, pk1, rfl, hg1, e1, hp1⟩ := h1.cell (i := 0) rfl
  obtain ⟨g2, o2, rfl, hg2, a0, a1, a2⟩ := h2.cell (i := 0) rfl
  obtain ⟨g3, o3, rfl, hg3, b0, b1, b2⟩ := hp1.cell (i := 1) rfl
  simp only [Nat.zero_mul, Nat.one_mul, Nat.add_zero] at e1 a0 a1 a2 b0 b1 b2
  clear h1 h2 hp1
  have hxn := heap_alloc_new w4 (.cells #[.slice none 0 0, .slice none 0 0, .int .i64 0, .int .i64 0, .int .i64 0, .int .i64 0] 41)
  have hbn := balloc (Below.refl _ w4) (.cells #[.slice none 0 0, .slice none 0 0, .int .i64 0, .int .i64 0, .int .i64 0, .int .i64 0] 41)
  obtain ⟨D, hX⟩ : ∃ D, w4.heap.size = D := ⟨_, rfl⟩
  obtain ⟨wad, hwa⟩ : ∃ wad, w4.alloc (.cells #[.slice none 0 0, .slice none 0 0, .int .i64 0, .int .i64 0, .int .i64 0, .int .i64 0] 41) = wad := ⟨_, rfl⟩
  have HXod : Hid (D = w4.heap.size) := Lib.hid hX.symm
  rw [hX, hwa] at hxn
  rw [hwa] at hbn
  have bc0 : wad.cell? ⟨D, 0, none⟩ = some (.slice none 0 0) := nd_cell hxn rfl
  have bc1 : wad.cell? ⟨D, 1, none⟩ = some (.slice none 0 0) := nd_cell hxn rfl
  have bc2 : wad.cell? ⟨D, 2, none⟩ = some (.int .i64 0) := nd_cell hxn rfl
  have bc3 : wad.cell? ⟨D, 3, none⟩ = some (.int .i64 0) := nd_cell hxn rfl
  have bc4 : wad.cell? ⟨D, 4, none⟩ = some (.int .i64 0) := nd_cell hxn rfl
  have bc5 : wad.cell? ⟨D, 5, none⟩ = some (.int .i64 0) := nd_cell hxn rfl
  have bf0 := nd_froz hxn 0
  have bf1 := nd_froz hxn 1
  have bf2 := nd_froz hxn 2
  have bf3 := nd_froz hxn 3
  have bf4 := nd_froz hxn 4
  have bf5 := nd_froz hxn 5
  obtain ⟨w5, hwx, hxx, hfx⟩ := sto6 hxn (.slice (some ⟨g1, o1, none⟩) 1 k1) (.slice (some ⟨g2, o2, none⟩) 1 k2) (.int .i64 0) (.int .i64 0) (.int .i64 0) (.int .i64 ad)
  have HXXd := Lib.hid hxx
  have HBXd := Lib.hid (hfx.below w4 hbn (fun b hb => by rw [hb, HXod.out]; exact Nat.le_refl _))
  clear hxx hfx hbn hxn
  go_upto_region 3 with fail
  try rw [hwx]
  clear bc0 bf0 bc1 bf1 bc2 bf2 bc3 bf3 bc4 bf4 bc5 bf5 hwx hX hwa
  have y0 : w5.cell? ⟨D, 0, none⟩ = some (.slice (some ⟨g1, o1, none⟩) 1 k1) := nd_cell HXXd.out rfl
  have y1 : w5.cell? ⟨D, 1, none⟩ = some (.slice (some ⟨g2, o2, none⟩) 1 k2) := nd_cell HXXd.out rfl
  have y2 : w5.cell? ⟨D, 2, none⟩ = some (.int .i64 0) := nd_cell HXXd.out rfl
  have y3 : w5.cell? ⟨D, 3, none⟩ = some (.int .i64 0) := nd_cell HXXd.out rfl
  have y4 : w5.cell? ⟨D, 4, none⟩ = some (.int .i64 0) := nd_cell HXXd.out rfl
  have y5 : w5.cell? ⟨D, 5, none⟩ = some (.int .i64 ad) := nd_cell HXXd.out rfl
  replace e1 := (HBXd.out.cell (World.block_lt_of_cell? w4 _ e1)).trans e1
  replace a0 := (HBXd.out.cell (World.block_lt_of_cell? w4 _ a0)).trans a0
  replace a1 := (HBXd.out.cell (World.block_lt_of_cell? w4 _ a1)).trans a1
  replace a2 := (HBXd.out.cell (World.block_lt_of_cell? w4 _ a2)).trans a2
  replace b0 := (HBXd.out.cell (World.block_lt_of_cell? w4 _ b0)).trans b0
  replace b1 := (HBXd.out.cell (World.block_lt_of_cell? w4 _ b1)).trans b1
  replace b2 := (HBXd.out.cell (World.block_lt_of_cell? w4 _ b2)).trans b2
  have HBZ := Lib.hid (bnext HB4.out HBXd.out)
  have q1 : ∀ V : World, (binOp .eql 81 (.agg #[.int .i64 x, .int .i64 0, .bool true]) (.agg #[.int .i64 x, .int .i64 0, .bool true])).run Try.prog V = .ok (.bool true) V := fun V => (eq_pt V ⟨x, 0, true⟩ ⟨x, 0, true⟩).trans (by rw [decide_eq_true rfl])
  have q2 : ∀ V : World, (binOp .eql 30 (.agg #[.int .i64 1, .int .i64 a, .int .i64 1280]) (.agg #[.int .i64 1, .int .i64 a, .int .i64 1280])).run Try.prog V = .ok (.bool true) V := fun V => (eq_ac V ⟨1, a, 1280⟩ ⟨1, a, 1280⟩).trans (by rw [decide_eq_true rfl])
  have q3 : ∀ V : World, (binOp .eql 30 (.agg #[.int .i64 0, .int .i64 0, .int .i64 0]) (.agg #[.int .i64 0, .int .i64 0, .int .i64 0])).run Try.prog V = .ok (.bool true) V := fun V => (eq_ac V ⟨0, 0, 0⟩ ⟨0, 0, 0⟩).trans (by rw [decide_eq_true rfl])
  go_wp2
  go_ret
  exact ⟨by first | rfl | simp, HBZ.out⟩
end Go.Proofs.Ytanppbdlcinpfaa
