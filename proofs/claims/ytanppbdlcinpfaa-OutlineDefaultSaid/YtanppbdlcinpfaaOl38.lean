/- Glyphs that numbers make. No conditions. -/
import Derived.Test.YtanppbdlcinpfaaOl38z
import Derived.Test.YtanppbdlcinpfaaHeldIn
set_option linter.unusedSimpArgs false
set_option linter.unusedVariables false
namespace Go.Proofs.Ytanppbdlcinpfaa
set_option maxRecDepth 100000
set_option linter.unusedVariables false
open Go.RowKit Go.Deep
theorem info_dl : (Try.prog.info? 70).map (fun i => (i.zero, i.size, i.bytes)) = some (some (.agg #[.int .i64 0, .int .i64 0, .slice none 0 0]), 3, 40) := by kernel_rfl
/-- A glyph that numbers made: contours with capacities, no program. -/
def GkAt (W : World) (u : Value) (G : Gl) : Prop := ∃ vc va vd, u = .agg #[vc, va, .int .i64 G.hg.c, .int .i64 G.hg.x, .int .i64 G.hg.y, .int .i64 G.ad, vd, .slice none 0 0] ∧ CkAt W vc G.cs ∧ AcAt W va G.an ∧ DsAt W vd G.ds ∧ G.pr = []
theorem GkAt.gl {W : World} {u : Value} {G : Gl} (h : GkAt W u G) : GlAt W u G := by
  obtain ⟨vc, va, vd, rfl, h1, h2, h3, h4⟩ := h
  exact ⟨vc, va, vd, _, rfl, h1.cs, h2, h3, by rw [h4]; exact SrcN.nil 2 W⟩
/-- What a glyph that was made is like. -/
structure MkOk (G : Gl) (n : Nat) : Prop where
  chk : OL.check G n = 0
  ok : GlOk G
  cs : ∀ c ∈ G.cs, CtOk c
  ncs : G.cs.length ≤ 2
  nan : G.an.length ≤ 2
  nds : G.ds.length ≤ 2
  ad : 0 ≤ G.ad ∧ G.ad ≤ 63
  mv : ∀ d ∈ G.ds, MvOk G d.r.toNat d.a d.m ∧ 0 ≤ d.r ∧ d.r < n
theorem hang_of {c x y : Int} (h : (c = 0 ∧ x = 0 ∧ y = 0) ∨ (1 ≤ c ∧ c ≤ 3 ∧ -10 ≤ x ∧ x ≤ 49 ∧ -10 ≤ y ∧ y ≤ 49)) : OL.hang ⟨c, x, y⟩ = true := by
  unfold OL.hang
  rcases h with ⟨rfl, rfl, rfl⟩ | ⟨h1, h2, h3, h4, h5, h6⟩
  · rfl
  · dsimp only
    rw [if_neg (by omega), decide_eq_true (show 0 < c by omega), decide_eq_true (show c ≤ 9 by omega), co_of (by omega) (by omega), co_of (by omega) (by omega)]
    rfl
theorem MkOk.of {C : List (List Pt)} {A : List Ac} {c x y ad cl : Int} {D : List Dl} {n : Nat} (hn : n ≤ 8) (h1 : ∀ k ∈ C, CtOk k) (h2 : C.length ≤ 2) (h3 : AnOk cl A) (h4 : 1 ≤ cl ∧ cl ≤ 2) (h5 : A.length ≤ 2) (h6 : (c = 0 ∧ x = 0 ∧ y = 0) ∨ (1 ≤ c ∧ c ≤ 3 ∧ -10 ≤ x ∧ x ≤ 49 ∧ -10 ≤ y ∧ y ≤ 49)) (h7 : 0 ≤ ad ∧ ad ≤ 63) (h8 : D.length ≤ 2) (h9 : OL.dsGo n (OL.points ⟨C, A, ⟨c, x, y⟩, ad, D, []⟩) c (-1) D = true) (h10 : ∀ d ∈ D, MvOk ⟨C, A, ⟨c, x, y⟩, ad, D, []⟩ d.r.toNat d.a d.m ∧ 0 ≤ d.r ∧ d.r < n) : MkOk ⟨C, A, ⟨c, x, y⟩, ad, D, []⟩ n := by
  obtain ⟨h11, h12⟩ := cts_ok h1
  have hp : OL.points ⟨C, A, ⟨c, x, y⟩, ad, D, []⟩ ≤ 40 := by unfold OL.points; dsimp only; omega
  refine ⟨?_, ⟨⟨by dsimp only; omega, fun k hk => by have := (h1 k hk).2.1; omega⟩, by dsimp only; omega, by dsimp only; omega, fun d hd => by rw [(h10 d hd).1.len]; omega, by simp⟩, h1, h2, h5, h8, h7, h10⟩
  unfold OL.check
  dsimp only
  rw [if_neg (by omega), if_neg (by omega), if_neg (by rw [h11]; simp), if_neg, if_neg (by omega), if_neg (by rw [h9]; simp)]
  unfold OL.anchors
  rw [h3.go (by omega) (by omega), hang_of h6]
  simp
set_option maxHeartbeats 16000000 in
theorem rmade_any (W : World) (v : Value) (L : List Int) (n : Nat) (hv : InAt W v L) (hL : L.length ≤ maxLen) (hn : n ≤ 8) :
    Calls Try.prog 30 #[v, .int .i64 (n : Int)] W fun e W' => ∃ u G, e = .returned u ∧ (∀ U, FrS (fun b => b < W.heap.size) W' U → GkAt U u G) ∧ MkOk G n ∧ Below W.heap.size W W' := by
  obtain ⟨i0, hi0', hz0, hz1, hz2⟩ := info_parts info_ps
  obtain ⟨i1, hi1, hy0, hy1, hy2⟩ := info_parts info_pt
  obtain ⟨i2, hi2, hv0, hv1, hv2⟩ := info_parts info_ac
  obtain ⟨i3, hi3, ht0, ht1, ht2⟩ := info_parts info_dl
  have HV := Lib.hid hv
  obtain ⟨la, lc, rfl, -⟩ := hv
  have HLL : Hid (L.length ≤ 9223372036854775807) := Lib.hid (by unfold maxLen at hL; omega)
  obtain ⟨ln, hln⟩ : ∃ z, L.length = z := ⟨_, rfl⟩
  have HLN := Lib.hid hln
  clear hL
  obtain ⟨Z, hZ⟩ : ∃ Z, W.heap.size = Z := ⟨_, rfl⟩
  have x0 := heap_alloc_new W (.cells #[.slice none 0 0, .slice none 0 0, .int .i64 0, .int .i64 0, .int .i64 0, .int .i64 0, .slice none 0 0, .slice none 0 0] 34)
  have hb1 := balloc (Below.refl _ W) (.cells #[.slice none 0 0, .slice none 0 0, .int .i64 0, .int .i64 0, .int .i64 0, .int .i64 0, .slice none 0 0, .slice none 0 0] 34)
  obtain ⟨W0, hW0⟩ : ∃ W0, W.alloc (.cells #[.slice none 0 0, .slice none 0 0, .int .i64 0, .int .i64 0, .int .i64 0, .int .i64 0, .slice none 0 0, .slice none 0 0] 34) = W0 := ⟨_, rfl⟩
  rw [hW0, hZ] at x0
  rw [hW0] at hb1
  have HS0 : Hid (W0.heap.size = Z + 1) := Lib.hid (by rw [← hW0, ← hZ]; simp)
  have HB0 := Lib.hid hb1
  have HZE := Lib.hid hZ
  rw [hln]
  go_enter Try.func30, Try.ntmps30
  go_upto_region 1 with fail
  try rw [hZ]
  try rw [hW0]
  obtain ⟨Bd, hBd⟩ : ∃ B, W0.heap.size = B := ⟨_, rfl⟩
  have x1 := heap_alloc_new W0 (.cells #[.slice la ln lc, .int .i64 0] 130)
  have hb2 := balloc (Below.refl _ W0) (.cells #[.slice la ln lc, .int .i64 0] 130)
  obtain ⟨W1, hW1⟩ : ∃ W1, W0.alloc (.cells #[.slice la ln lc, .int .i64 0] 130) = W1 := ⟨_, rfl⟩
  rw [hW1, hBd] at x1
  rw [hW1] at hb2
  have HS1 : Hid (W1.heap.size = Bd + 1) := Lib.hid (by rw [← hW1, ← hBd]; simp)
  go_upto_region 2 with fail
  try rw [hBd]
  try rw [hW1]
  have HBB : Hid (Bd = Z + 1 ∧ W1.heap.size = Bd + 1) := Lib.hid ⟨by have := HS0.out; omega, HS1.out⟩
  have HB1 := Lib.hid (bnext HB0.out hb2)
  have HZ : Hid (∀ U, FrS (fun q => q = Bd ∨ W1.heap.size ≤ q) W1 U → U.heap[Z]? = some (.cells #[.slice none 0 0, .slice none 0 0, .int .i64 0, .int .i64 0, .int .i64 0, .int .i64 0, .slice none 0 0, .slice none 0 0] 34 (0, 0))) := Lib.hid fun U hU => hU.nd ((hb2.block Z (by have := HS0.out; omega)).trans x0) (by have := HS0.out; have := HS1.out; omega)
  have HD1 : Hid (DwOk W1 Bd la lc L) := Lib.hid ⟨⟨0, Nat.zero_le _, by
    unfold DwB
    rw [hln]
    exact x1⟩, by
    obtain ⟨a', c', e1, h⟩ := HV.out
    injection e1 with e1 _ _
    subst e1
    rcases h with h | ⟨g, o, rfl, hg, hc⟩
    · exact .inl h
    · exact .inr ⟨g, o, rfl, by have := HBB.out; omega, Nat.lt_of_lt_of_le hg HB1.out.size, fun i hi => (HB1.out.cell (p := ⟨g, o + i, none⟩) hg).trans (hc i _ (by rw [List.getElem?_eq_getElem hi, List.getD_eq_getElem?_getD, List.getElem?_eq_getElem hi]; rfl))⟩⟩
  clear x0 hb1 hW0 hZ hBd x1 hb2 hW1
  have HC := Lib.hid (nxt_any HD1.out HLL.out 64 (by omega) (by omega))
  go_wp2_with fail
  go_at_call 68
  refine HC.out.mono ?_
  rintro e w2 ⟨r, rfl, lr, ur, hd2, hf2⟩
  clear HC
  have HD2 := Lib.hid hd2
  have HF2 : Hid (FrS (fun q => q = Bd ∨ W1.heap.size ≤ q) W1 w2) := Lib.hid (hf2.mono (fun q e => .inl e))
  clear hd2 hf2
  have hxn := heap_alloc_new w2 (.cells #[.slice none 0 0, .slice none 0 0, .int .i64 0, .int .i64 0, .int .i64 0, .int .i64 0, .slice none 0 0, .slice none 0 0] 34)
  have hbn := balloc (Below.refl _ w2) (.cells #[.slice none 0 0, .slice none 0 0, .int .i64 0, .int .i64 0, .int .i64 0, .int .i64 0, .slice none 0 0, .slice none 0 0] 34)
  obtain ⟨X, hX⟩ : ∃ X, w2.heap.size = X := ⟨_, rfl⟩
  obtain ⟨wa, hwa⟩ : ∃ wa, w2.alloc (.cells #[.slice none 0 0, .slice none 0 0, .int .i64 0, .int .i64 0, .int .i64 0, .int .i64 0, .slice none 0 0, .slice none 0 0] 34) = wa := ⟨_, rfl⟩
  have HXo : Hid (X = w2.heap.size) := Lib.hid hX.symm
  rw [hX, hwa] at hxn
  rw [hwa] at hbn
  have bc0 : wa.cell? ⟨X, 0, none⟩ = some (.slice none 0 0) := nd_cell hxn rfl
  have bc1 : wa.cell? ⟨X, 1, none⟩ = some (.slice none 0 0) := nd_cell hxn rfl
  have bc2 : wa.cell? ⟨X, 2, none⟩ = some (.int .i64 0) := nd_cell hxn rfl
  have bc3 : wa.cell? ⟨X, 3, none⟩ = some (.int .i64 0) := nd_cell hxn rfl
  have bc4 : wa.cell? ⟨X, 4, none⟩ = some (.int .i64 0) := nd_cell hxn rfl
  have bc5 : wa.cell? ⟨X, 5, none⟩ = some (.int .i64 0) := nd_cell hxn rfl
  have bc6 : wa.cell? ⟨X, 6, none⟩ = some (.slice none 0 0) := nd_cell hxn rfl
  have bc7 : wa.cell? ⟨X, 7, none⟩ = some (.slice none 0 0) := nd_cell hxn rfl
  have bf0 := nd_froz hxn 0
  have bf1 := nd_froz hxn 1
  have bf2 := nd_froz hxn 2
  have bf3 := nd_froz hxn 3
  have bf4 := nd_froz hxn 4
  have bf5 := nd_froz hxn 5
  have bf6 := nd_froz hxn 6
  have bf7 := nd_froz hxn 7
  obtain ⟨w3, hwx, hxx, hfx⟩ := sto8 hxn (.slice none 0 0) (.slice none 0 0) (.int .i64 0) (.int .i64 0) (.int .i64 0) (.int .i64 r) (.slice none 0 0) (.slice none 0 0)
  have HXX := Lib.hid hxx
  have HBX := Lib.hid (hfx.below w2 hbn (fun b hb => by rw [hb, HXo.out]; exact Nat.le_refl _))
  clear hxx hfx hbn hxn
  go_upto_region 3 with fail
  try rw [hwx]
  clear bc0 bf0 bc1 bf1 bc2 bf2 bc3 bf3 bc4 bf4 bc5 bf5 bc6 bf6 bc7 bf7 hwx hX hwa
  obtain ⟨ad, had⟩ : ∃ z, r = z := ⟨_, rfl⟩
  subst had
  have HAD : Hid (0 ≤ r ∧ r ≤ 63) := Lib.hid (by omega)
  clear lr ur
  have HMD : Hid (MdS W1 w3 Bd X la lc L (.slice none 0 0) (.slice none 0 0) (.slice none 0 0) ⟨0, 0, 0⟩ r) := Lib.hid ⟨HD2.out.keep HBX.out, HXX.out, HF2.out.then HBX.out, by rw [HXo.out]; exact HF2.out.size, by have := HBB.out; omega⟩
  clear HXX HBX HXo
  have HC := Lib.hid (nxt_any HMD.out.dw HLL.out 3 (by omega) (by omega))
  go_wp2_with fail
  go_at_call 68
  refine HC.out.mono ?_
  rintro e w4 ⟨mq, rfl, lmq, umq, hd4, hf4⟩
  clear HC
  obtain ⟨mn, rfl⟩ := Int.eq_ofNat_of_zero_le lmq
  have hmn3 : mn < 3 := by omega
  have HM4 := Lib.hid (HMD.out.next hf4 hd4)
  clear hd4 hf4 lmq umq
  go_upto_region 5 with fail
  go_loopw [8] (fun v8 wr => ∃ (k : Nat) (qa : Option Addr) (qc : Nat) (C : List (List Pt)) (vs : List Value), v8 = .int .i64 (k : Int) ∧ k ≤ mn ∧ Hid (C.length = k ∧ ∀ c ∈ C, CtOk c) ∧ Hid (MdS W1 wr Bd X la lc L (.slice qa k qc) (.slice none 0 0) (.slice none 0 0) ⟨0, 0, 0⟩ r) ∧ Hid (wr.ownsRow (X + 1) 53 1 (.slice qa k qc) k vs) ∧ Hid (NsS wr X 3 (.slice qa k qc) (cR C) vs)) (fun v8 _ => mn - (intOf v8).toNat)
  case atStart => exact ⟨0, none, 0, [], [], rfl, Nat.zero_le _, Lib.hid ⟨rfl, fun c h => by simp at h⟩, HM4, Lib.hid ⟨rfl, .inl ⟨rfl, rfl⟩⟩, Lib.hid (NsS.nil _ _ _ _)⟩
  case round =>
    obtain ⟨k, qa, qc, C, vs, rfl, hk, HCC, HMS, HOW, HNS⟩ := hrel
    by_cases hkn : k < mn
    · have hkk : (k : Int) < (mn : Int) := by omega
      have hk0 : (0 : Int) ≤ (k : Int) := by omega
      obtain ⟨wk, hwk⟩ : ∃ w, w = wr := ⟨_, rfl⟩
      subst hwk
      have HC := Lib.hid (nxt_any HMS.out.dw HLL.out 3 (by omega) (by omega))
      go_wp2_with fail
      go_at_call 68
      refine HC.out.mono ?_
      rintro e w5 ⟨pq, rfl, lpq, upq, hd5, hf5⟩
      clear HC
      obtain ⟨pm, rfl⟩ := Int.eq_ofNat_of_zero_le lpq
      have hpm3 : pm < 3 := by omega
      have HD5 := Lib.hid hd5
      have HF5 := Lib.hid hf5
      clear hd5 hf5 lpq upq
      have HC := Lib.hid (nxt_any HD5.out HLL.out 40 (by omega) (by omega))
      go_wp2_with fail
      go_at_call 68
      refine HC.out.mono ?_
      rintro e w6 ⟨rx, rfl, lrx, urx, hd6, hf6⟩
      clear HC
      have HD6 := Lib.hid hd6
      have HF6 : Hid (FrS (fun q => q = Bd) wk w6) := Lib.hid (HF5.out.trans hf6)
      clear hd6 hf6
      have HC := Lib.hid (nxt_any HD6.out HLL.out 40 (by omega) (by omega))
      go_wp2_with fail
      go_at_call 68
      refine HC.out.mono ?_
      rintro e w7 ⟨ry, rfl, lry, ury, hd7, hf7⟩
      clear HC
      have HD7 := Lib.hid hd7
      have HF7 : Hid (FrS (fun q => q = Bd) wk w7) := Lib.hid (HF6.out.trans hf7)
      clear hd7 hf7
      go_upto_region 12 with fail
      obtain ⟨xq, hxq⟩ : ∃ z, rx - 10 = z := ⟨_, rfl⟩
      obtain ⟨yq, hyq⟩ : ∃ z, ry - 10 = z := ⟨_, rfl⟩
      have hqb : -10 ≤ xq ∧ xq ≤ 29 ∧ -10 ≤ yq ∧ yq ≤ 29 := by omega
      obtain ⟨hqb1, hqb2, hqb3, hqb4⟩ := hqb
      try rw [hxq]
      try rw [hyq]
      clear hxq hyq lrx urx lry ury
      obtain ⟨np, hnp⟩ : ∃ z, pm + 3 = z := ⟨_, rfl⟩
      have hnpI : (3 : Int) + (pm : Int) = (np : Int) := by omega
      try rw [hnpI]
      have hnp5 : 3 ≤ np ∧ np ≤ 5 := by omega
      clear hnp hnpI hpm3
      go_loopw [9, 13] (fun v9 v13 wr => ∃ (j : Nat) (ra : Option Addr) (rc : Nat) (l : List Pt), v13 = .int .i64 (j : Int) ∧ v9 = .slice ra j rc ∧ j ≤ np ∧ Hid (l.length = j ∧ ∀ p ∈ l, (OL.co p.x && OL.co p.y) = true) ∧ Hid (wr.ownsRow wk.heap.size 81 3 (.slice ra j rc) j (ptc l)) ∧ Hid (DwOk wr Bd la lc L) ∧ Hid (FrS (fun q => q = Bd) wk wr)) (fun v9 v13 _ => np - (intOf v13).toNat)
      case atStart => exact ⟨0, none, 0, [], rfl, rfl, Nat.zero_le _, Lib.hid ⟨rfl, fun p h => by simp at h⟩, Lib.hid ⟨rfl, .inl ⟨rfl, rfl⟩⟩, HD7, HF7⟩
      case round =>
        obtain ⟨j, ra, rc, l, rfl, rfl, hj, HLP, HRW, HDJ, HFJ⟩ := hrel
        by_cases hjn : j < np
        · have hjj : (j : Int) < (np : Int) := by omega
          have hj0 : (0 : Int) ≤ (j : Int) := by omega
          have HC := Lib.hid (nxt_any HDJ.out HLL.out 50 (by omega) (by omega))
          go_wp2_with fail
          go_at_call 68
          refine HC.out.mono ?_
          rintro e w8 ⟨rp, rfl, lrp, urp, hd8, hf8⟩
          clear HC
          have HD8 := Lib.hid hd8
          have HF8 : Hid (FrS (fun q => q = Bd) wr w8) := Lib.hid hf8
          clear hd8 hf8
          have HC := Lib.hid (nxt_any HD8.out HLL.out 50 (by omega) (by omega))
          go_wp2_with fail
          go_at_call 68
          refine HC.out.mono ?_
          rintro e w9 ⟨rs, rfl, lrs, urs, hd9, hf9⟩
          clear HC
          have HD9 := Lib.hid hd9
          have HF9 : Hid (FrS (fun q => q = Bd) wr w9) := Lib.hid (HF8.out.trans hf9)
          clear hd9 hf9
          have HC := Lib.hid (nxt_any HD9.out HLL.out 3 (by omega) (by omega))
          go_wp2_with fail
          go_at_call 68
          refine HC.out.mono ?_
          rintro e w10 ⟨ro, rfl, lro, uro, hd10, hf10⟩
          clear HC
          have HD10 := Lib.hid hd10
          have HF10 : Hid (FrS (fun q => q = Bd) wr w10) := Lib.hid (HF9.out.trans hf10)
          clear hd10 hf10
          obtain ⟨ob, hob⟩ : ∃ b, decide (0 < ro) = b := ⟨_, rfl⟩
          clear lro uro
          have hxn := heap_alloc_new w10 (.cells #[.int .i64 0, .int .i64 0, .bool false] 81)
          have hbn := balloc (Below.refl _ w10) (.cells #[.int .i64 0, .int .i64 0, .bool false] 81)
          obtain ⟨P, hX⟩ : ∃ P, w10.heap.size = P := ⟨_, rfl⟩
          obtain ⟨wap, hwa⟩ : ∃ wap, w10.alloc (.cells #[.int .i64 0, .int .i64 0, .bool false] 81) = wap := ⟨_, rfl⟩
          have HXop : Hid (P = w10.heap.size) := Lib.hid hX.symm
          rw [hX, hwa] at hxn
          rw [hwa] at hbn
          have bc0 : wap.cell? ⟨P, 0, none⟩ = some (.int .i64 0) := nd_cell hxn rfl
          have bc1 : wap.cell? ⟨P, 1, none⟩ = some (.int .i64 0) := nd_cell hxn rfl
          have bc2 : wap.cell? ⟨P, 2, none⟩ = some (.bool false) := nd_cell hxn rfl
          have bf0 := nd_froz hxn 0
          have bf1 := nd_froz hxn 1
          have bf2 := nd_froz hxn 2
          obtain ⟨w11, hwx, hxx, hfx⟩ := sto3 hxn (.int .i64 (xq + rp)) (.int .i64 (yq + rs)) (.bool ob)
          have HXXp := Lib.hid hxx
          have HBXp := Lib.hid (hfx.below w10 hbn (fun b hb => by rw [hb, HXop.out]; exact Nat.le_refl _))
          clear hxx hfx hbn hxn
          go_upto_region 15 with fail
          try rw [hwx]
          clear bc0 bf0 bc1 bf1 bc2 bf2 hwx hX hwa
          have HF11 : Hid (FrS (fun q => q = Bd) wr w11) := Lib.hid (HF10.out.then HBXp.out)
          have HD11 := Lib.hid (HD10.out.keep HBXp.out)
          obtain ⟨px, hpx⟩ : ∃ z, xq + rp = z := ⟨_, rfl⟩
          obtain ⟨py, hpy⟩ : ∃ z, yq + rs = z := ⟨_, rfl⟩
          have HPB : Hid (OL.co px = true ∧ OL.co py = true) := Lib.hid ⟨co_of (by omega) (by omega), co_of (by omega) (by omega)⟩
          rw [hpx, hpy] at HXXp
          clear hpx hpy lrp urp lrs urs hob
          have p0 : w11.cell? ⟨P, 0, none⟩ = some (.int .i64 px) := nd_cell HXXp.out rfl
          have p1 : w11.cell? ⟨P, 1, none⟩ = some (.int .i64 py) := nd_cell HXXp.out rfl
          have p2 : w11.cell? ⟨P, 2, none⟩ = some (.bool ob) := nd_cell HXXp.out rfl
          have HOB : Hid (Bd < wk.heap.size) := Lib.hid HMS.out.dw.lt
          have HRW11 : Hid (w11.ownsRow wk.heap.size 81 3 (.slice ra j rc) j (ptc l)) := Lib.hid (HF11.out.own HRW.out (fun q hq e => by have := (own_lt HRW.out hq).1; have := HOB.out; omega))
          have HSZ : Hid (wk.heap.size ≤ w11.heap.size) := Lib.hid (by have := HFJ.out.size; have := HF11.out.size; omega)
          go_upto_region 13 with (at_builtin; refine wpList_appN _ rfl _ _ 53 rfl wk.heap.size 81 i1 (.agg #[.int .i64 0, .int .i64 0, .bool false]) 3 24 Try.underlying53 hi1 hy0 hy1 hy2 rfl (by decide) _ j _ rfl (own_below HRW11.out (balloc (Below.refl _ _) _)) _ 1 (ptc [⟨px, py, ob⟩]) rfl (srcN_new _ (ptc [⟨px, py, ob⟩]) _ 3 1 1 rfl) (ptc_one _) (by unfold maxLen; omega) (by omega) (by have := HSZ.out; simp; omega) ?_; intro v12 w12 hown hgrow hor; obtain ⟨na, nc, rfl⟩ := own_shape hown)
          have HF12 : Hid (FrS (fun q => (Value.slice ra j rc).ownBlock = some q) w11 w12) := Lib.hid ((FrS.of (balloc (Below.refl _ w11) (.cells #[.int .i64 px, .int .i64 py, .bool ob] 81))).grow hgrow (fun q e => .inl e))
          have HD12 : Hid (DwOk w12 Bd la lc L) := Lib.hid (HD11.out.fr HF12.out (fun q e => by have := (own_lt HRW11.out e).1; have := HOB.out; omega))
          have HFK : Hid (FrS (fun q => q = Bd) wk w12) := Lib.hid ((HFJ.out.trans HF11.out).over HF12.out (fun q e => .inr (own_lt HRW11.out e).1))
          have HRW12 : Hid (w12.ownsRow wk.heap.size 81 3 (.slice na (j + 1) nc) (j + 1) (ptc (l ++ [⟨px, py, ob⟩]))) := Lib.hid (by rw [ptc_app]; exact hown)
          clear hown hgrow hor p0 p1 p2
          go_wp2
          go_roundw
          case rel => exact ⟨j + 1, na, nc, l ++ [⟨px, py, ob⟩], by go_num, rfl, by omega, Lib.hid ⟨by rw [List.length_append, HLP.out.1]; rfl, fun p hp => by
            rcases List.mem_append.1 hp with h | h
            · exact HLP.out.2 p h
            · rw [List.mem_singleton.1 h]
              dsimp only
              rw [HPB.out.1, HPB.out.2]
              rfl⟩, HRW12, HD12, HFK⟩
          case measure => simp [intOf]; omega
        · have hjj : ¬ (j : Int) < (np : Int) := by omega
          obtain rfl : j = np := by omega
          have HMJ := Lib.hid (HMS.out.next HFJ.out HDJ.out)
          have HOB : Hid (Bd < X ∧ X < wk.heap.size) := Lib.hid ⟨by have := HMS.out.le; have := HMS.out.lb; omega, HMS.out.lt⟩
          have HOWJ : Hid (wr.ownsRow (X + 1) 53 1 (.slice qa k qc) k vs) := Lib.hid (HFJ.out.own HOW.out (fun q hq e => by have := (own_lt HOW.out hq).1; have := HOB.out; omega))
          have HNSJ : Hid (NsS wr X 3 (.slice qa k qc) (cR C) vs) := Lib.hid (HNS.out.fr HFJ.out (fun q e => .inl (by have := HOB.out; omega)))
          have x0 := HMJ.out.cells.1
          have HSZ : Hid (X + 1 ≤ wr.heap.size) := Lib.hid HMJ.out.lt
          have hu1 : (Value.slice ra j rc).oneCell' = true := rfl
          clear hjn
          go_upto_region 6 with (at_builtin; refine wpList_appN _ rfl _ _ 27 rfl (X + 1) 53 i0 (.slice none 0 0) 1 24 Try.underlying27 hi0' hz0 hz1 hz2 rfl (by decide) _ k vs rfl (own_below HOWJ.out (balloc (Below.refl _ _) _)) _ 1 [Value.slice ra j rc] rfl (srcN_new _ [Value.slice ra j rc] _ 1 1 1 rfl) (fun x hx => by rw [List.mem_singleton.1 hx]; exact hu1) (by unfold maxLen; omega) (by omega) (by have := HSZ.out; simp; omega) ?_; intro v4 w13 hown hgrow hor; obtain ⟨na, nc, rfl⟩ := own_shape hown; have hf13 : FrS (fun q => (Value.slice qa k qc).ownBlock = some q) wr w13 := (FrS.of (balloc (Below.refl _ wr) (.cells #[Value.slice ra j rc] 53))).grow hgrow (fun q e => .inl e); have hm13 := HMJ.out.up hf13 (fun q e => by have := (own_lt HOWJ.out e).1; omega); have hq0 := hm13.cells.1; have hqf := hm13.froz 0)
          have HM13 : Hid (MdS W1 (w13.setCell ⟨X, 0, none⟩ (.slice na (k + 1) nc)) Bd X la lc L (.slice na (k + 1) nc) (.slice none 0 0) (.slice none 0 0) ⟨0, 0, 0⟩ r) := Lib.hid (hm13.put0 _)
          have HNS13 : Hid (NsS (w13.setCell ⟨X, 0, none⟩ (.slice na (k + 1) nc)) X 3 (.slice na (k + 1) nc) (cR (C ++ [l])) (vs ++ [Value.slice ra j rc])) := Lib.hid (by
            have h := HNSJ.out.add (n := j) (U := ptc l) (own_srcN HRW.out) (own_cap2 HRW.out) (fun g o e => by
              have h1 := own_lt HRW.out (q := g) (by rw [e]; rfl)
              have h2 := HOB.out
              refine ⟨by omega, h1.2, fun e2 => ?_⟩
              have := (own_lt HOW.out e2).2
              omega) (balloc (Below.refl _ wr) (.cells #[Value.slice ra j rc] 53)) hgrow hor
            have h2 := h.fr (FrS.one w13 X 0 (.slice na (k + 1) nc)) (fun q e => .inl (by omega))
            unfold cR at h2 ⊢
            rw [List.map_append]
            show NsS _ _ _ _ (_ ++ [(l.length, ptc l)]) _
            rw [HLP.out.1]
            exact h2)
          have HOW13 : Hid ((w13.setCell ⟨X, 0, none⟩ (.slice na (k + 1) nc)).ownsRow (X + 1) 53 1 (.slice na (k + 1) nc) (k + 1) (vs ++ [Value.slice ra j rc])) := Lib.hid ((FrS.one w13 X 0 _).own hown (fun q hq e => by have := (own_lt hown hq).1; omega))
          clear hown hgrow hor hf13 hm13 hq0 hqf x0 hu1
          go_wp2
          go_roundw
          case rel => exact ⟨k + 1, na, nc, C ++ [l], vs ++ [Value.slice ra j rc], by go_num, by omega, Lib.hid ⟨by rw [List.length_append, HCC.out.1]; rfl, fun c hc => by
            rcases List.mem_append.1 hc with h | h
            · exact HCC.out.2 c h
            · rw [List.mem_singleton.1 h]
              exact ⟨by rw [HLP.out.1]; exact hnp5.1, by rw [HLP.out.1]; exact hnp5.2, HLP.out.2⟩⟩, HM13, HOW13, HNS13⟩
          case measure => simp [intOf]; omega
    · have hkk : ¬ (k : Int) < (mn : Int) := by omega
      have hk2 : k ≤ 2 := by omega
      obtain ⟨kc, hkc⟩ : ∃ c, c = k := ⟨_, rfl⟩
      subst hkc
      obtain ⟨ca, hca⟩ : ∃ c, c = qa := ⟨_, rfl⟩
      subst hca
      obtain ⟨cc, hcc⟩ : ∃ c, c = qc := ⟨_, rfl⟩
      subst hcc
      clear hkn
      go_upto_region 17 with fail
      clear hkk
      have HC := Lib.hid (nxt_any HMS.out.dw HLL.out 2 (by omega) (by omega))
      go_wp2_with fail
      go_at_call 68
      refine HC.out.mono ?_
      rintro e w5 ⟨rc, rfl, lrc, urc, hd5, hf5⟩
      clear HC
      have HM5 := Lib.hid (HMS.out.next hf5 hd5)
      have HF5 := Lib.hid hf5
      clear hd5 hf5
      have HC := Lib.hid (nxt_any HM5.out.dw HLL.out 3 (by omega) (by omega))
      go_wp2_with fail
      go_at_call 68
      refine HC.out.mono ?_
      rintro e w6 ⟨mq, rfl, lmq, umq, hd6, hf6⟩
      clear HC
      obtain ⟨an0, rfl⟩ := Int.eq_ofNat_of_zero_le lmq
      have hmn3 : an0 < 3 := by omega
      have HM6 := Lib.hid (HM5.out.next hf6 hd6)
      have HF6 : Hid (FrS (fun q => q = Bd) wr w6) := Lib.hid (HF5.out.trans hf6)
      clear hd6 hf6 lmq umq
      go_upto_region 20 with fail
      obtain ⟨cl, hcl⟩ : ∃ z, 1 + rc = z := ⟨_, rfl⟩
      have HCL : Hid (1 ≤ cl ∧ cl ≤ 2) := Lib.hid (by omega)
      have hcl1 : 1 ≤ cl := by omega
      have hcl2 : cl ≤ 2 := by omega
      try rw [hcl]
      clear hcl lrc urc
      obtain ⟨w2b, hw2b⟩ : ∃ w, w = w6 := ⟨_, rfl⟩
      subst hw2b
      obtain ⟨N2, hN2⟩ : ∃ N, w2b.heap.size = N := ⟨_, rfl⟩
      have HN2 := Lib.hid hN2
      have HNB : Hid (X < N2 ∧ Bd < X) := Lib.hid ⟨by rw [← hN2]; exact HM6.out.lt, by have := HM6.out.le; have := HM6.out.lb; omega⟩
      have HCK : Hid (∀ U, FrS (fun q => q ≤ X ∨ N2 ≤ q) w2b U → CkAt U (.slice ca kc cc) C) := Lib.hid fun U hU => by
        have hn : NsS w2b X 3 (.slice ca kc cc) (cR C) vs := HNS.out.fr HF6.out (fun q e => .inl (by have := HNB.out; omega))
        have ho : w2b.ownsRow (X + 1) 53 1 (.slice ca kc cc) kc vs := HF6.out.own HOW.out (fun q hq e => by have := (own_lt HOW.out hq).1; have := HNB.out; omega)
        have hn2 := hn.fr hU (fun q e => by have := HNB.out; rcases e with e | e; exact .inl e; exact .inr (.inl (by rw [HN2.out]; exact e)))
        refine hn2.ck ?_
        rw [HCC.out.1]
        refine (own_srcN ho).fr hU (fun g o e hs => ?_)
        have h1 := own_lt ho (q := g) (by rw [e]; rfl)
        have := HNB.out
        have := HN2.out
        rcases hs with h | h <;> omega
      clear hN2
      go_loopw [16] (fun v16 wr => ∃ (k : Nat) (qa : Option Addr) (qc : Nat) (A : List Ac), v16 = .int .i64 (k : Int) ∧ k ≤ an0 ∧ Hid (A.length = k ∧ AnOk cl A) ∧ Hid (MdS W1 wr Bd X la lc L (.slice ca kc cc) (.slice qa k qc) (.slice none 0 0) ⟨0, 0, 0⟩ r) ∧ Hid (wr.ownsRow N2 30 3 (.slice qa k qc) k (acc A)) ∧ Hid (FrS (fun q => q ≤ X ∨ N2 ≤ q) w2b wr)) (fun v16 _ => an0 - (intOf v16).toNat)
      case atStart => exact ⟨0, none, 0, [], rfl, Nat.zero_le _, Lib.hid ⟨rfl, fun i a h => by simp at h⟩, HM6, Lib.hid ⟨rfl, .inl ⟨rfl, rfl⟩⟩, Lib.hid (FrS.refl _ _)⟩
      case round =>
        clear HMS HOW HNS
        obtain ⟨k, qa, qc, A, rfl, hk, HAA, HMS, HOW, HFA⟩ := hrel
        by_cases hkn : k < an0
        · have hkk : (k : Int) < (an0 : Int) := by omega
          have hk0 : (0 : Int) ≤ (k : Int) := by omega
          have hmd := HMS.out.keep (Below.drew (Below.refl _ wr))
          have hfd : FrS (fun q => q = Bd) wr wr.drew := (FrS.refl _ _).dr
          have HNW : Hid (N2 ≤ wr.heap.size) := Lib.hid (by have := HFA.out.size; have := HN2.out; omega)
          obtain ⟨cz, hcz⟩ : ∃ z, cl + (k : Int) = z := ⟨_, rfl⟩
          have HCZ := Lib.hid hcz
          have hwz : IntKind.i64.wrap cz = cz := IntWalk.i64_in _ (by omega)
          go_upto_region 22 with fail
          refine wp_region_last #[{ dst := some 77, op := Op.fieldAddr 34 (Operand.tmp 6) 1, type := 0, pos := "make.go:28", after := #[], guard := none }, { dst := some 78, op := Op.load 28 (Operand.tmp 77), type := 28, pos := "make.go:28", after := #[{ on := 0, ground := Ground.data }], guard := none }, { dst := some 79, op := Op.move (Operand.tmp 15), type := 3, pos := "make.go:28", after := #[], guard := none }, { dst := some 80, op := Op.move (Operand.tmp 16), type := 3, pos := "make.go:28", after := #[], guard := none }, { dst := some 81, op := Op.binOp BinOp.add 3 (Operand.tmp 79) (Operand.tmp 80) 3, type := 3, pos := "make.go:28", after := #[{ on := 2, ground := Ground.data }, { on := 3, ground := Ground.data }], guard := none }, { dst := some 82, op := Op.move (Operand.tmp 5), type := 128, pos := "make.go:28", after := #[], guard := none }, { dst := some 83, op := Op.call { callee := Callee.value (Operand.func 68), args := #[Operand.tmp 82, Operand.const (Value.int IntKind.i64 60)], argTypes := #[128, 3] }, type := 3, pos := "make.go:28", after := #[{ on := 5, ground := Ground.data }], guard := none }, { dst := some 84, op := Op.binOp BinOp.sub 3 (Operand.tmp 83) (Operand.const (Value.int IntKind.i64 10)) 3, type := 3, pos := "make.go:28", after := #[{ on := 6, ground := Ground.data }], guard := none }, { dst := some 85, op := Op.move (Operand.tmp 5), type := 128, pos := "make.go:28", after := #[], guard := none }, { dst := some 86, op := Op.call { callee := Callee.value (Operand.func 68), args := #[Operand.tmp 85, Operand.const (Value.int IntKind.i64 60)], argTypes := #[128, 3] }, type := 3, pos := "make.go:28", after := #[{ on := 8, ground := Ground.data }, { on := 6, ground := Ground.chain }], guard := none }, { dst := some 87, op := Op.binOp BinOp.sub 3 (Operand.tmp 86) (Operand.const (Value.int IntKind.i64 10)) 3, type := 3, pos := "make.go:28", after := #[{ on := 9, ground := Ground.data }], guard := none }, { dst := some 88, op := Op.build 30 #[(0, Operand.tmp 81), (1, Operand.tmp 84), (2, Operand.tmp 87)], type := 30, pos := "make.go:28", after := #[{ on := 4, ground := Ground.data }, { on := 7, ground := Ground.data }, { on := 10, ground := Ground.data }], guard := none }, { dst := some 89, op := Op.buildSlice 28 1 #[(0, Operand.tmp 88)], type := 28, pos := "make.go:28", after := #[{ on := 11, ground := Ground.data }], guard := none }, { dst := some 90, op := Op.call { callee := Callee.builtin Builtin.append, args := #[Operand.tmp 78, Operand.tmp 89], argTypes := #[28, 28] }, type := 28, pos := "make.go:28", after := #[{ on := 1, ground := Ground.data }, { on := 12, ground := Ground.data }, { on := 9, ground := Ground.chain }], guard := none }, { dst := some 91, op := Op.fieldAddr 34 (Operand.tmp 6) 1, type := 0, pos := "make.go:28", after := #[{ on := 0, ground := Ground.phase }, { on := 1, ground := Ground.phase }, { on := 2, ground := Ground.phase }, { on := 3, ground := Ground.phase }, { on := 4, ground := Ground.phase }, { on := 5, ground := Ground.phase }, { on := 6, ground := Ground.phase }, { on := 7, ground := Ground.phase }, { on := 8, ground := Ground.phase }, { on := 9, ground := Ground.phase }, { on := 10, ground := Ground.phase }, { on := 11, ground := Ground.phase }, { on := 12, ground := Ground.phase }, { on := 13, ground := Ground.phase }], guard := none }] { dst := none, op := Op.store 28 (Operand.tmp 91) (Operand.tmp 90), type := 0, pos := "make.go:28", after := #[{ on := 14, ground := Ground.data }, { on := 13, ground := Ground.data }, { on := 13, ground := Ground.chain }, { on := 0, ground := Ground.phase }, { on := 1, ground := Ground.phase }, { on := 2, ground := Ground.phase }, { on := 3, ground := Ground.phase }, { on := 4, ground := Ground.phase }, { on := 5, ground := Ground.phase }, { on := 6, ground := Ground.phase }, { on := 7, ground := Ground.phase }, { on := 8, ground := Ground.phase }, { on := 9, ground := Ground.phase }, { on := 10, ground := Ground.phase }, { on := 11, ground := Ground.phase }, { on := 12, ground := Ground.phase }, { on := 13, ground := Ground.phase }], guard := none } rfl (by kernel_rfl) (by kernel_rfl) (fun w' => w'.cell? ⟨X, 1, none⟩ = some (.slice qa k qc)) ?_ (fun hHeld => ?_)
          · first | exact hS1 | exact (hm6.keep (balloc (Below.refl _ w6) (.cells #[.int .i64 cz, .int .i64 (rx - 10), .int .i64 (ry - 10)] 30))).cells.2.1 | exact hm6.cells.2.1 | exact hm5.cells.2.1 | exact hmd.cells.2.1
          refine wpAnyH_take (i := 0) (oi := { dst := some 77, op := Op.fieldAddr 34 (Operand.tmp 6) 1, type := 0, pos := "make.go:28", after := #[], guard := none }) (v := ?_) rfl (by kernel_rfl) (by kernel_rfl) (by kernel_rfl) (fun _ _ _ h => h) (Or.inl ⟨by rfl, ?_⟩) (by assumption) ?_
          rotate_left
          · ((intro w hSw; (try dsimp only at hSw); go_simp; (try rw [if_neg (by omega)])); try with_reducible rfl)
          (try simp only [Act.put, List.setIfInBounds_toArray, List.set_cons_zero, List.set_cons_succ])
          refine wpAnyH_take (i := 1) (oi := { dst := some 78, op := Op.load 28 (Operand.tmp 77), type := 28, pos := "make.go:28", after := #[{ on := 0, ground := Ground.data }], guard := none }) (v := ?_) rfl (by kernel_rfl) (by kernel_rfl) (by kernel_rfl) (fun _ _ _ h => h) (Or.inl ⟨by rfl, ?_⟩) (by assumption) ?_
          rotate_left
          · ((intro w hSw; (try dsimp only at hSw); go_simp; (try rw [if_neg (by omega)])); try with_reducible rfl)
          (try simp only [Act.put, List.setIfInBounds_toArray, List.set_cons_zero, List.set_cons_succ])
          refine wpAnyH_take (i := 2) (oi := { dst := some 79, op := Op.move (Operand.tmp 15), type := 3, pos := "make.go:28", after := #[], guard := none }) (v := ?_) rfl (by kernel_rfl) (by kernel_rfl) (by kernel_rfl) (fun _ _ _ h => h) (Or.inl ⟨by rfl, ?_⟩) (by assumption) ?_
          rotate_left
          · ((intro w hSw; (try dsimp only at hSw); go_simp; (try rw [if_neg (by omega)])); try with_reducible rfl)
          (try simp only [Act.put, List.setIfInBounds_toArray, List.set_cons_zero, List.set_cons_succ])
          refine wpAnyH_take (i := 3) (oi := { dst := some 80, op := Op.move (Operand.tmp 16), type := 3, pos := "make.go:28", after := #[], guard := none }) (v := ?_) rfl (by kernel_rfl) (by kernel_rfl) (by kernel_rfl) (fun _ _ _ h => h) (Or.inl ⟨by rfl, ?_⟩) (by assumption) ?_
          rotate_left
          · ((intro w hSw; (try dsimp only at hSw); go_simp; (try rw [if_neg (by omega)])); try with_reducible rfl)
          (try simp only [Act.put, List.setIfInBounds_toArray, List.set_cons_zero, List.set_cons_succ])
          refine wpAnyH_take (i := 4) (oi := { dst := some 81, op := Op.binOp BinOp.add 3 (Operand.tmp 79) (Operand.tmp 80) 3, type := 3, pos := "make.go:28", after := #[{ on := 2, ground := Ground.data }, { on := 3, ground := Ground.data }], guard := none }) (v := ?_) rfl (by kernel_rfl) (by kernel_rfl) (by kernel_rfl) (fun _ _ _ h => h) (Or.inl ⟨by rfl, ?_⟩) (by assumption) ?_
          rotate_left
          · ((intro w hSw; (try dsimp only at hSw); go_simp; (try rw [if_neg (by omega)])); try with_reducible rfl)
          (try simp only [Act.put, List.setIfInBounds_toArray, List.set_cons_zero, List.set_cons_succ])
          refine wpAnyH_take (i := 5) (oi := { dst := some 82, op := Op.move (Operand.tmp 5), type := 128, pos := "make.go:28", after := #[], guard := none }) (v := ?_) rfl (by kernel_rfl) (by kernel_rfl) (by kernel_rfl) (fun _ _ _ h => h) (Or.inl ⟨by rfl, ?_⟩) (by assumption) ?_
          rotate_left
          · ((intro w hSw; (try dsimp only at hSw); go_simp; (try rw [if_neg (by omega)])); try with_reducible rfl)
          (try simp only [Act.put, List.setIfInBounds_toArray, List.set_cons_zero, List.set_cons_succ])
          refine wpAnyH_take (i := 8) (oi := { dst := some 85, op := Op.move (Operand.tmp 5), type := 128, pos := "make.go:28", after := #[], guard := none }) (v := ?_) rfl (by kernel_rfl) (by kernel_rfl) (by kernel_rfl) (fun _ _ _ h => h) (Or.inl ⟨by rfl, ?_⟩) (by assumption) ?_
          rotate_left
          · ((intro w hSw; (try dsimp only at hSw); go_simp; (try rw [if_neg (by omega)])); try with_reducible rfl)
          (try simp only [Act.put, List.setIfInBounds_toArray, List.set_cons_zero, List.set_cons_succ])
          refine wpAnyH_ready (rs := [6]) (by kernel_rfl) (by simp) ?_
          refine AllReadyH.cons (o := { dst := some 83, op := Op.call { callee := Callee.value (Operand.func 68), args := #[Operand.tmp 82, Operand.const (Value.int IntKind.i64 60)], argTypes := #[128, 3] }, type := 3, pos := "make.go:28", after := #[{ on := 5, ground := Ground.data }], guard := none }) rfl (fun K hK => ?_) AllReadyH.nil
          (go_simp; go_at_call 68; refine (nxt_any hmd.dw HLL.out 60 (by omega) (by omega)).mono ?_; rintro e w5 ⟨rx, rfl, lrx, urx, hd5, hf5⟩; have hm5 := hmd.next hf5 hd5; have hF5 := hfd.trans hf5; have hw5 : IntKind.i64.wrap (rx - 10) = rx - 10 := IntWalk.i64_in _ (by omega); dsimp only)
          refine hK.out _ _ ?_ (fun hHeld => ?_)
          · first | exact hS1 | exact (hm6.keep (balloc (Below.refl _ w6) (.cells #[.int .i64 cz, .int .i64 (rx - 10), .int .i64 (ry - 10)] 30))).cells.2.1 | exact hm6.cells.2.1 | exact hm5.cells.2.1 | exact hmd.cells.2.1
          clear hK K
          (try simp only [Act.put, List.setIfInBounds_toArray, List.set_cons_zero, List.set_cons_succ])
          refine wpAnyH_take (i := 7) (oi := { dst := some 84, op := Op.binOp BinOp.sub 3 (Operand.tmp 83) (Operand.const (Value.int IntKind.i64 10)) 3, type := 3, pos := "make.go:28", after := #[{ on := 6, ground := Ground.data }], guard := none }) (v := ?_) rfl (by kernel_rfl) (by kernel_rfl) (by kernel_rfl) (fun _ _ _ h => h) (Or.inl ⟨by rfl, ?_⟩) (by assumption) ?_
          rotate_left
          · ((intro w hSw; (try dsimp only at hSw); go_simp; (try rw [if_neg (by omega)])); try with_reducible rfl)
          (try simp only [Act.put, List.setIfInBounds_toArray, List.set_cons_zero, List.set_cons_succ])
          refine wpAnyH_ready (rs := [9]) (by kernel_rfl) (by simp) ?_
          refine AllReadyH.cons (o := { dst := some 86, op := Op.call { callee := Callee.value (Operand.func 68), args := #[Operand.tmp 85, Operand.const (Value.int IntKind.i64 60)], argTypes := #[128, 3] }, type := 3, pos := "make.go:28", after := #[{ on := 8, ground := Ground.data }, { on := 6, ground := Ground.chain }], guard := none }) rfl (fun K hK => ?_) AllReadyH.nil
          (go_simp; go_at_call 68; refine (nxt_any hm5.dw HLL.out 60 (by omega) (by omega)).mono ?_; rintro e w6 ⟨ry, rfl, lry, ury, hd6, hf6⟩; have hm6 := hm5.next hf6 hd6; have hF6 := hF5.trans hf6; have hw6 : IntKind.i64.wrap (ry - 10) = ry - 10 := IntWalk.i64_in _ (by omega); dsimp only)
          refine hK.out _ _ ?_ (fun hHeld => ?_)
          · first | exact hS1 | exact (hm6.keep (balloc (Below.refl _ w6) (.cells #[.int .i64 cz, .int .i64 (rx - 10), .int .i64 (ry - 10)] 30))).cells.2.1 | exact hm6.cells.2.1 | exact hm5.cells.2.1 | exact hmd.cells.2.1
          clear hK K
          (try simp only [Act.put, List.setIfInBounds_toArray, List.set_cons_zero, List.set_cons_succ])
          refine wpAnyH_take (i := 10) (oi := { dst := some 87, op := Op.binOp BinOp.sub 3 (Operand.tmp 86) (Operand.const (Value.int IntKind.i64 10)) 3, type := 3, pos := "make.go:28", after := #[{ on := 9, ground := Ground.data }], guard := none }) (v := ?_) rfl (by kernel_rfl) (by kernel_rfl) (by kernel_rfl) (fun _ _ _ h => h) (Or.inl ⟨by rfl, ?_⟩) (by assumption) ?_
          rotate_left
          · ((intro w hSw; (try dsimp only at hSw); go_simp; (try rw [if_neg (by omega)])); try with_reducible rfl)
          (try simp only [Act.put, List.setIfInBounds_toArray, List.set_cons_zero, List.set_cons_succ])
          refine wpAnyH_take (i := 11) (oi := { dst := some 88, op := Op.build 30 #[(0, Operand.tmp 81), (1, Operand.tmp 84), (2, Operand.tmp 87)], type := 30, pos := "make.go:28", after := #[{ on := 4, ground := Ground.data }, { on := 7, ground := Ground.data }, { on := 10, ground := Ground.data }], guard := none }) (v := ?_) rfl (by kernel_rfl) (by kernel_rfl) (by kernel_rfl) (fun _ _ _ h => h) (Or.inl ⟨by rfl, ?_⟩) (by assumption) ?_
          rotate_left
          · ((intro w hSw; (try dsimp only at hSw); go_simp; (try rw [if_neg (by omega)])); try with_reducible rfl)
          (try simp only [Act.put, List.setIfInBounds_toArray, List.set_cons_zero, List.set_cons_succ])
          refine wpAnyH_ready (rs := [12]) (by kernel_rfl) (by simp) ?_
          refine AllReadyH.cons (o := { dst := some 89, op := Op.buildSlice 28 1 #[(0, Operand.tmp 88)], type := 28, pos := "make.go:28", after := #[{ on := 11, ground := Ground.data }], guard := none }) rfl (fun K hK => ?_) AllReadyH.nil
          go_simp
          refine hK.out _ _ ?_ (fun hHeld => ?_)
          · first | exact hS1 | exact (hm6.keep (balloc (Below.refl _ w6) (.cells #[.int .i64 cz, .int .i64 (rx - 10), .int .i64 (ry - 10)] 30))).cells.2.1 | exact hm6.cells.2.1 | exact hm5.cells.2.1 | exact hmd.cells.2.1
          clear hK K
          (try simp only [Act.put, List.setIfInBounds_toArray, List.set_cons_zero, List.set_cons_succ])
          refine wpAnyH_ready (rs := [13]) (by kernel_rfl) (by simp) ?_
          refine AllReadyH.cons (o := { dst := some 90, op := Op.call { callee := Callee.builtin Builtin.append, args := #[Operand.tmp 78, Operand.tmp 89], argTypes := #[28, 28] }, type := 28, pos := "make.go:28", after := #[{ on := 1, ground := Ground.data }, { on := 12, ground := Ground.data }, { on := 9, ground := Ground.chain }], guard := none }) rfl (fun K hK => ?_) AllReadyH.nil
          (refine step_append_any (by rfl) _ _ _ (by rfl) N2 30 i2 _ 3 24 Try.underlying28 hi2 hv0 hv1 hv2 rfl (by omega) (.slice qa k qc) k (acc A) (by rfl) (own_below (hF6.own HOW.out (fun q hq e => (by have := (own_lt HOW.out hq).1; have := HNB.out; omega))) (balloc (Below.refl _ w6) (.cells #[.int .i64 cz, .int .i64 (rx - 10), .int .i64 (ry - 10)] 30))) ⟨w6.heap.size, 0, none⟩ 1 1 (acv ⟨cz, rx - 10, ry - 10⟩) (by rfl) (by rfl) (World.news_of_block (cs := #[.int .i64 cz, .int .i64 (rx - 10), .int .i64 (ry - 10)]) (t := 30) (fr := (0, 0)) (heap_alloc_new w6 _)) (by simp [acv, Value.oneCell']) (by unfold maxLen; omega) (by omega) (by have := HNW.out; have := hF6.size; simp; omega) ?_; intro v' w7 hown1 hgrow hat; obtain ⟨gg, cap', rfl⟩ := ownsRow_succ hown1; have hf7 : FrS (fun q => (Value.slice qa k qc).ownBlock = some q) w6 w7 := (FrS.of (balloc (Below.refl _ w6) (.cells #[.int .i64 cz, .int .i64 (rx - 10), .int .i64 (ry - 10)] 30))).grow hgrow (fun q e => .inl e); have hm7 := hm6.up hf7 (fun q e => (by have := (own_lt HOW.out e).1; have := HNB.out; omega)); have hS1 := hm7.cells.2.1; have hfz := hm7.froz 1)
          refine hK.out _ _ ?_ (fun hHeld => ?_)
          · first | exact hS1 | exact (hm6.keep (balloc (Below.refl _ w6) (.cells #[.int .i64 cz, .int .i64 (rx - 10), .int .i64 (ry - 10)] 30))).cells.2.1 | exact hm6.cells.2.1 | exact hm5.cells.2.1 | exact hmd.cells.2.1
          clear hK K
          (try simp only [Act.put, List.setIfInBounds_toArray, List.set_cons_zero, List.set_cons_succ])
          refine wpAnyH_take (i := 14) (oi := { dst := some 91, op := Op.fieldAddr 34 (Operand.tmp 6) 1, type := 0, pos := "make.go:28", after := #[{ on := 0, ground := Ground.phase }, { on := 1, ground := Ground.phase }, { on := 2, ground := Ground.phase }, { on := 3, ground := Ground.phase }, { on := 4, ground := Ground.phase }, { on := 5, ground := Ground.phase }, { on := 6, ground := Ground.phase }, { on := 7, ground := Ground.phase }, { on := 8, ground := Ground.phase }, { on := 9, ground := Ground.phase }, { on := 10, ground := Ground.phase }, { on := 11, ground := Ground.phase }, { on := 12, ground := Ground.phase }, { on := 13, ground := Ground.phase }], guard := none }) (v := ?_) rfl (by kernel_rfl) (by kernel_rfl) (by kernel_rfl) (fun _ _ _ h => h) (Or.inl ⟨by rfl, ?_⟩) (by assumption) ?_
          rotate_left
          · ((intro w hSw; (try dsimp only at hSw); go_simp; (try rw [if_neg (by omega)])); try with_reducible rfl)
          (try simp only [Act.put, List.setIfInBounds_toArray, List.set_cons_zero, List.set_cons_succ])
          refine wpAnyH_done (by kernel_rfl) ?_ _
          show Oper.wp _ _ _ _ _ _
          have HF8 : Hid (FrS (fun q => q ≤ X ∨ N2 ≤ q) w2b (w7.setCell ⟨X, 1, none⟩ (.slice (some ⟨gg, 0, none⟩) (k + 1) cap'))) := Lib.hid (((HFA.out.over hF6 (fun q e => .inl (.inl (by have := HNB.out; omega)))).over hf7 (fun q e => .inl (.inr (own_lt HOW.out e).1))).put (.inl (.inl (Nat.le_refl _))) _)
          have HM8 : Hid (MdS W1 (w7.setCell ⟨X, 1, none⟩ (.slice (some ⟨gg, 0, none⟩) (k + 1) cap')) Bd X la lc L (.slice ca kc cc) (.slice (some ⟨gg, 0, none⟩) (k + 1) cap') (.slice none 0 0) ⟨0, 0, 0⟩ r) := Lib.hid (hm7.put1 _)
          have HOW8 : Hid ((w7.setCell ⟨X, 1, none⟩ (.slice (some ⟨gg, 0, none⟩) (k + 1) cap')).ownsRow N2 30 3 (.slice (some ⟨gg, 0, none⟩) (k + 1) cap') (k + 1) (acc (A ++ [⟨cz, rx - 10, ry - 10⟩]))) := Lib.hid (by
            rw [acc_app, show acc [(⟨cz, rx - 10, ry - 10⟩ : Ac)] = acv ⟨cz, rx - 10, ry - 10⟩ by unfold acc; simp]
            exact (FrS.one w7 X 1 _).own hown1 (fun q hq e => by have := (own_lt hown1 hq).1; have := HNB.out; omega))
          have HAA8 : Hid ((A ++ [(⟨cz, rx - 10, ry - 10⟩ : Ac)]).length = k + 1 ∧ AnOk cl (A ++ [⟨cz, rx - 10, ry - 10⟩])) := Lib.hid ⟨by rw [List.length_append, HAA.out.1]; rfl, HAA.out.2.snoc (by rw [HAA.out.1]; exact HCZ.out.symm) (by dsimp only; rw [co_of (by omega) (by omega), co_of (by omega) (by omega)]; rfl)⟩
          have hf6' := hfz
          clear hown1 hgrow hat hf7 hm7 hm6 hm5 hmd hfd hF5 hF6 hd5 hd6 hf5 hf6
          go_simp
          clear hS1 hfz lrx urx lry ury hcz hwz hw5 hw6
          go_wp2
          go_roundw
          case rel => exact ⟨k + 1, _, _, _, by go_num, by omega, HAA8, HM8, HOW8, HF8⟩
          case measure => simp [intOf]; omega
        · have hkk : ¬ (k : Int) < (an0 : Int) := by omega
          have ha2 : k ≤ 2 := by omega
          obtain ⟨ka, hka⟩ : ∃ c, c = k := ⟨_, rfl⟩
          subst hka
          obtain ⟨aa, haa⟩ : ∃ c, c = qa := ⟨_, rfl⟩
          subst haa
          obtain ⟨ac, hac⟩ : ∃ c, c = qc := ⟨_, rfl⟩
          subst hac
          clear hkn
          go_upto_region 23 with fail
          clear hkk
          have HC := Lib.hid (nxt_any HMS.out.dw HLL.out 3 (by omega) (by omega))
          go_wp2_with fail
          go_at_call 68
          refine HC.out.mono ?_
          rintro e w5 ⟨rh, rfl, lrh, urh, hd5, hf5⟩
          clear HC
          have HM5 := Lib.hid (HMS.out.next hf5 hd5)
          have HF5 : Hid (FrS (fun q => q ≤ X ∨ N2 ≤ q) w2b w5) := Lib.hid (HFA.out.over hf5 (fun q e => .inl (.inl (by have := HNB.out; omega))))
          have HO5 : Hid (w5.ownsRow N2 30 3 (.slice aa ka ac) ka (acc A)) := Lib.hid (hf5.own HOW.out (fun q hq e => by have := (own_lt HOW.out hq).1; have := HNB.out; omega))
          clear hd5 hf5
          by_cases hq : rh = 0
          · have hqb : (rh == 0) = true := by rw [beq_iff_eq]; exact hq
            go_upto_region 24 with fail
            clear hq hqb lrh urh
            have HC := Lib.hid (nxt_any HM5.out.dw HLL.out 3 (by omega) (by omega))
            go_wp2_with fail
            go_at_call 68
            refine HC.out.mono ?_
            rintro e w6 ⟨rc, rfl, lrc, urc, hd6, hf6⟩
            clear HC
            have HM6 := Lib.hid (HM5.out.next hf6 hd6)
            have HF6 := Lib.hid hf6
            clear hd6 hf6
            have HC := Lib.hid (nxt_any HM6.out.dw HLL.out 60 (by omega) (by omega))
            go_wp2_with fail
            go_at_call 68
            refine HC.out.mono ?_
            rintro e w7 ⟨rx, rfl, lrx, urx, hd7, hf7⟩
            clear HC
            have HM7 := Lib.hid (HM6.out.next hf7 hd7)
            have HF7 : Hid (FrS (fun q => q = Bd) w5 w7) := Lib.hid (HF6.out.trans hf7)
            clear hd7 hf7
            have HC := Lib.hid (nxt_any HM7.out.dw HLL.out 60 (by omega) (by omega))
            go_wp2_with fail
            go_at_call 68
            refine HC.out.mono ?_
            rintro e w8 ⟨ry, rfl, lry, ury, hd8, hf8⟩
            clear HC
            have HM8 := Lib.hid (HM7.out.next hf8 hd8)
            have HF8 : Hid (FrS (fun q => q = Bd) w5 w8) := Lib.hid (HF7.out.trans hf8)
            clear hd8 hf8
            obtain ⟨-, -, q2, q3, q4, -, -, -⟩ := HM8.out.cells
            dsimp only at q2 q3 q4
            have f2 := HM8.out.froz 2
            have f3 := HM8.out.froz 3
            have f4 := HM8.out.froz 4
            go_upto_region 25 with fail
            obtain ⟨hc, hhc⟩ : ∃ z, 1 + rc = z := ⟨_, rfl⟩
            obtain ⟨hx, hhx⟩ : ∃ z, rx - 10 = z := ⟨_, rfl⟩
            obtain ⟨hy, hhy⟩ : ∃ z, ry - 10 = z := ⟨_, rfl⟩
            have HHG : Hid ((hc = 0 ∧ hx = 0 ∧ hy = 0) ∨ (1 ≤ hc ∧ hc ≤ 3 ∧ -10 ≤ hx ∧ hx ≤ 49 ∧ -10 ≤ hy ∧ hy ≤ 49)) := Lib.hid (.inr (by omega))
            try rw [hhc]
            try rw [hhx]
            try rw [hhy]
            clear hhc hhx hhy lrc urc lrx urx lry ury q2 q3 q4 f2 f3 f4
            obtain ⟨w9, hw9⟩ : ∃ w, ((w8.setCell ⟨X, 2, none⟩ (.int .i64 hc)).setCell ⟨X, 3, none⟩ (.int .i64 hx)).setCell ⟨X, 4, none⟩ (.int .i64 hy) = w := ⟨_, rfl⟩
            have hm9 := HM8.out.hang hc hx hy
            have hf9 : FrS (fun q => q = Bd ∨ q = X) w5 (((w8.setCell ⟨X, 2, none⟩ (.int .i64 hc)).setCell ⟨X, 3, none⟩ (.int .i64 hx)).setCell ⟨X, 4, none⟩ (.int .i64 hy)) := (((HF8.out.mono (fun q e => .inl e)).put (.inl (.inr rfl)) _).put (.inl (.inr rfl)) _).put (.inl (.inr rfl)) _
            rw [hw9] at hm9 hf9
            try rw [hw9]
            have HMH := Lib.hid hm9
            have HFH : Hid (FrS (fun q => q ≤ X ∨ N2 ≤ q) w2b w9) := Lib.hid (HF5.out.over hf9 (fun q e => .inl (.inl (by have := HNB.out; omega))))
            have HOH : Hid (w9.ownsRow N2 30 3 (.slice aa ka ac) ka (acc A)) := Lib.hid (hf9.own HO5.out (fun q hq e => by have := (own_lt HO5.out hq).1; have := HNB.out; omega))
            clear hm9 hf9 hw9
            obtain ⟨N3, hN3⟩ : ∃ N, w9.heap.size = N := ⟨_, rfl⟩
            have HN3 : Hid (w9.heap.size = N3 ∧ N2 ≤ N3) := Lib.hid ⟨hN3, by have := HFH.out.size; have := HN2.out; omega⟩
            have HACK : Hid (∀ U, FrS (fun q => q ≤ X ∨ N3 ≤ q) w9 U → AcAt U (.slice aa ka ac) A) := Lib.hid fun U hU => by
              have h0 : AcAt w9 (.slice aa ka ac) A := by
                unfold AcAt
                rw [HAA.out.1]
                exact own_srcN HOH.out
              refine SrcN.fr h0 hU (fun g o e hs => ?_)
              have h1 := own_lt HOH.out (q := g) (by rw [e]; rfl)
              have := HNB.out
              have := HN3.out
              rcases hs with h | h <;> omega
            have HCK3 : Hid (∀ U, FrS (fun q => q ≤ X ∨ N3 ≤ q) w9 U → CkAt U (.slice ca kc cc) C) := Lib.hid fun U hU => HCK.out U (HFH.out.over hU (fun q e => .inl (by have := HN3.out; omega)))
            obtain ⟨pn, hpn⟩ : ∃ p, OL.points ⟨C, A, ⟨hc, hx, hy⟩, r, [], []⟩ = p := ⟨_, rfl⟩
            have HPN : Hid (∀ D, OL.points ⟨C, A, ⟨hc, hx, hy⟩, r, D, []⟩ = pn) := Lib.hid fun D => hpn
            have HPB : Hid (pn ≤ 1000) := Lib.hid (by
              rw [← hpn]
              unfold OL.points
              have := (cts_ok HCC.out.2).2
              have := HCC.out.1
              have := HAA.out.1
              dsimp only
              omega)
            clear hN3 hpn
            go_upto_region 26 with fail
            go_loopw [17] (fun v17 wr => ∃ (k dl : Nat) (qa : Option Addr) (qc : Nat) (D : List Dl) (ms : List Value), v17 = .int .i64 (k : Int) ∧ k ≤ n ∧ dl ≤ 2 ∧ Hid (D.length = dl ∧ ms.length = dl) ∧ Hid (MdS W1 wr Bd X la lc L (.slice ca kc cc) (.slice aa ka ac) (.slice qa dl qc) ⟨hc, hx, hy⟩ r) ∧ Hid (wr.ownsRow N3 70 3 (.slice qa dl qc) dl ((D.zip ms).flatMap dlv)) ∧ Hid (NsS wr X 2 (.slice qa dl qc) (dR D) ms) ∧ Hid (OL.dsGo n pn hc (-1) D = true ∧ ∀ d ∈ D, MvOk ⟨C, A, ⟨hc, hx, hy⟩, r, [], []⟩ d.r.toNat d.a d.m ∧ 0 ≤ d.r ∧ d.r < k) ∧ Hid (FrS (fun q => q ≤ X ∨ N3 ≤ q) w9 wr)) (fun v17 _ => n - (intOf v17).toNat)
            case atStart => exact ⟨0, 0, none, 0, [], [], rfl, Nat.zero_le _, Nat.zero_le _, Lib.hid ⟨rfl, rfl⟩, HMH, Lib.hid ⟨rfl, .inl ⟨rfl, rfl⟩⟩, Lib.hid (NsS.nil _ _ _ _), Lib.hid ⟨rfl, fun d h => by simp at h⟩, Lib.hid (FrS.refl _ _)⟩
            case round =>
              clear HMS HOW HM5 HF5 HO5
              obtain ⟨k, dl, qa, qc, D, ms, rfl, hk, hdl, HDL, HMS, HOW, HNS, HDO, HFR⟩ := hrel
              have x6 := HMS.out.cells.2.2.2.2.2.2.1
              by_cases hkn : k < n
              · have hkk : (k : Int) < (n : Int) := by omega
                have hk0 : (0 : Int) ≤ (k : Int) := by omega
                by_cases hd2 : dl < 2
                · have hdd : (dl : Int) < 2 := by omega
                  go_upto_region 28 with fail
                  clear x6
                  have HC := Lib.hid (nxt_any HMS.out.dw HLL.out 2 (by omega) (by omega))
                  go_wp2_with fail
                  go_at_call 68
                  refine HC.out.mono ?_
                  rintro e w5 ⟨rb, rfl, lrb, urb, hd5, hf5⟩
                  clear HC
                  have HM5 := Lib.hid (HMS.out.next hf5 hd5)
                  have HF5 : Hid (FrS (fun q => q = Bd) wr w5) := Lib.hid hf5
                  have HO5 : Hid (w5.ownsRow N3 70 3 (.slice qa dl qc) dl ((D.zip ms).flatMap dlv)) := Lib.hid (hf5.own HOW.out (fun q hq e => by have := (own_lt HOW.out hq).1; have := HN3.out; have := HNB.out; omega))
                  have HNS5 : Hid (NsS w5 X 2 (.slice qa dl qc) (dR D) ms) := Lib.hid (HNS.out.fr hf5 (fun q e => .inl (by have := HNB.out; omega)))
                  have HFR5 : Hid (FrS (fun q => q ≤ X ∨ N3 ≤ q) w9 w5) := Lib.hid (HFR.out.over hf5 (fun q e => .inl (.inl (by have := HNB.out; omega))))
                  clear hd5 hf5
                  by_cases hq : rb = 1
                  · have hqb : (rb == 1) = true := by rw [beq_iff_eq]; exact hq
                    go_upto_region 29 with fail
                    clear hq hqb lrb urb HMS HOW HNS HFR
                    have HOW := HO5
                    have hmd := HM5.out.keep (Below.drew (Below.refl _ w5))
                    have hfd : FrS (fun q => q = Bd) w5 w5.drew := (FrS.refl _ _).dr
                    have HNW : Hid (N3 ≤ w5.heap.size) := Lib.hid (by have := HFR5.out.size; have := HN3.out; omega)
                    have HMC := Lib.hid (rmoves_any w5.drew (.agg #[.slice ca kc cc, .slice aa ka ac, .int .i64 hc, .int .i64 hx, .int .i64 hy, .int .i64 r, .slice qa dl qc, .slice none 0 0]) ⟨C, A, ⟨hc, hx, hy⟩, r, D, []⟩ k Bd lc la L (fun U hU => by
                      have hf : FrS (fun q => q ≤ X ∨ N3 ≤ q) w9 U := HFR5.out.dr.over hU (fun q e => .inl (.inl (by have := HNB.out; omega)))
                      have h3 : DsAt U (.slice qa dl qc) D := by
                        have hn : NsS U X 2 (.slice qa dl qc) (dR D) ms := (HNS5.out.fr hfd (fun q e => .inl (by have := HNB.out; omega))).fr hU (fun q e => .inl (by have := HNB.out; omega))
                        refine hn.ds ?_
                        rw [HDL.out.1]
                        exact own_srcN (hU.own (hfd.own HOW.out (fun q hq e => by have := (own_lt HOW.out hq).1; have := HN3.out; have := HNB.out; omega)) (fun q hq e => by have := (own_lt HOW.out hq).1; have := HN3.out; have := HNB.out; omega))
                      exact ⟨_, _, _, _, rfl, (HCK3.out U hf).cs, HACK.out U hf, h3, SrcN.nil 2 U⟩) ⟨⟨by dsimp only; rw [HCC.out.1]; omega, fun c hc => by have := (HCC.out.2 c hc).2.1; omega⟩, by dsimp only; rw [HAA.out.1]; omega, by dsimp only; rw [HDL.out.1]; omega, fun d hd => by have h := (HDO.out.2 d hd).1.len; rw [h, HPN.out []]; exact HPB.out, by simp⟩ (by rw [HPN.out D]; exact HPB.out) hmd.dw HLL.out (by omega))
                    refine wp_region_last #[{ dst := some 120, op := Op.fieldAddr 34 (Operand.tmp 6) 4, type := 0, pos := "make.go:35", after := #[], guard := none }, { dst := some 121, op := Op.load 31 (Operand.tmp 120), type := 31, pos := "make.go:35", after := #[{ on := 0, ground := Ground.data }], guard := none }, { dst := some 122, op := Op.load 34 (Operand.tmp 6), type := 34, pos := "make.go:35", after := #[], guard := none }, { dst := some 123, op := Op.move (Operand.tmp 17), type := 3, pos := "make.go:35", after := #[], guard := none }, { dst := some 124, op := Op.move (Operand.tmp 5), type := 128, pos := "make.go:35", after := #[], guard := none }, { dst := some 125, op := Op.call { callee := Callee.value (Operand.func 69), args := #[Operand.tmp 122, Operand.tmp 123, Operand.tmp 124], argTypes := #[34, 3, 128] }, type := 70, pos := "make.go:35", after := #[{ on := 2, ground := Ground.data }, { on := 3, ground := Ground.data }, { on := 4, ground := Ground.data }], guard := none }, { dst := some 126, op := Op.buildSlice 31 1 #[(0, Operand.tmp 125)], type := 31, pos := "make.go:35", after := #[{ on := 5, ground := Ground.data }], guard := none }, { dst := some 127, op := Op.call { callee := Callee.builtin Builtin.append, args := #[Operand.tmp 121, Operand.tmp 126], argTypes := #[31, 31] }, type := 31, pos := "make.go:35", after := #[{ on := 1, ground := Ground.data }, { on := 6, ground := Ground.data }, { on := 5, ground := Ground.chain }], guard := none }, { dst := some 128, op := Op.fieldAddr 34 (Operand.tmp 6) 4, type := 0, pos := "make.go:35", after := #[{ on := 0, ground := Ground.phase }, { on := 1, ground := Ground.phase }, { on := 2, ground := Ground.phase }, { on := 3, ground := Ground.phase }, { on := 4, ground := Ground.phase }, { on := 5, ground := Ground.phase }, { on := 6, ground := Ground.phase }, { on := 7, ground := Ground.phase }], guard := none }] { dst := none, op := Op.store 31 (Operand.tmp 128) (Operand.tmp 127), type := 0, pos := "make.go:35", after := #[{ on := 8, ground := Ground.data }, { on := 7, ground := Ground.data }, { on := 7, ground := Ground.chain }, { on := 0, ground := Ground.phase }, { on := 1, ground := Ground.phase }, { on := 2, ground := Ground.phase }, { on := 3, ground := Ground.phase }, { on := 4, ground := Ground.phase }, { on := 5, ground := Ground.phase }, { on := 6, ground := Ground.phase }, { on := 7, ground := Ground.phase }], guard := none } rfl (by kernel_rfl) (by kernel_rfl) (fun w' => w'.cell? ⟨X, 0, none⟩ = some (.slice ca kc cc) ∧ w'.cell? ⟨X, 1, none⟩ = some (.slice aa ka ac) ∧ w'.cell? ⟨X, 2, none⟩ = some (.int .i64 hc) ∧ w'.cell? ⟨X, 3, none⟩ = some (.int .i64 hx) ∧ w'.cell? ⟨X, 4, none⟩ = some (.int .i64 hy) ∧ w'.cell? ⟨X, 5, none⟩ = some (.int .i64 r) ∧ w'.cell? ⟨X, 6, none⟩ = some (.slice qa dl qc) ∧ w'.cell? ⟨X, 7, none⟩ = some (.slice none 0 0)) ?_ (fun hHeld => ?_)
                    · first | exact hS1 | exact (hm6.keep (balloc (Below.refl _ w6) (.cells #[.int .i64 (k : Int), .int .i64 mad, .slice mva mv.length mvc] 70))).cells | exact hm6.cells | exact hmd.cells
                    refine wpAnyH_take (i := 0) (oi := { dst := some 120, op := Op.fieldAddr 34 (Operand.tmp 6) 4, type := 0, pos := "make.go:35", after := #[], guard := none }) (v := ?_) rfl (by kernel_rfl) (by kernel_rfl) (by kernel_rfl) (fun _ _ _ h => h) (Or.inl ⟨by rfl, ?_⟩) (by assumption) ?_
                    rotate_left
                    · ((intro w hSw; (try dsimp only at hSw); go_simp; (try rw [if_neg (by omega)])); try with_reducible rfl)
                    (try simp only [Act.put, List.setIfInBounds_toArray, List.set_cons_zero, List.set_cons_succ])
                    refine wpAnyH_take (i := 1) (oi := { dst := some 121, op := Op.load 31 (Operand.tmp 120), type := 31, pos := "make.go:35", after := #[{ on := 0, ground := Ground.data }], guard := none }) (v := ?_) rfl (by kernel_rfl) (by kernel_rfl) (by kernel_rfl) (fun _ _ _ h => h) (Or.inl ⟨by rfl, ?_⟩) (by assumption) ?_
                    rotate_left
                    · ((intro w hSw; (try dsimp only at hSw); go_simp; (try rw [if_neg (by omega)])); try with_reducible rfl)
                    (try simp only [Act.put, List.setIfInBounds_toArray, List.set_cons_zero, List.set_cons_succ])
                    refine wpAnyH_take (i := 2) (oi := { dst := some 122, op := Op.load 34 (Operand.tmp 6), type := 34, pos := "make.go:35", after := #[], guard := none }) (v := ?_) rfl (by kernel_rfl) (by kernel_rfl) (by kernel_rfl) (fun _ _ _ h => h) (Or.inl ⟨by rfl, ?_⟩) (by assumption) ?_
                    rotate_left
                    · ((intro w hSw; (try dsimp only at hSw); go_simp; (try rw [if_neg (by omega)])); try with_reducible rfl)
                    (try simp only [Act.put, List.setIfInBounds_toArray, List.set_cons_zero, List.set_cons_succ])
                    refine wpAnyH_take (i := 3) (oi := { dst := some 123, op := Op.move (Operand.tmp 17), type := 3, pos := "make.go:35", after := #[], guard := none }) (v := ?_) rfl (by kernel_rfl) (by kernel_rfl) (by kernel_rfl) (fun _ _ _ h => h) (Or.inl ⟨by rfl, ?_⟩) (by assumption) ?_
                    rotate_left
                    · ((intro w hSw; (try dsimp only at hSw); go_simp; (try rw [if_neg (by omega)])); try with_reducible rfl)
                    (try simp only [Act.put, List.setIfInBounds_toArray, List.set_cons_zero, List.set_cons_succ])
                    refine wpAnyH_take (i := 4) (oi := { dst := some 124, op := Op.move (Operand.tmp 5), type := 128, pos := "make.go:35", after := #[], guard := none }) (v := ?_) rfl (by kernel_rfl) (by kernel_rfl) (by kernel_rfl) (fun _ _ _ h => h) (Or.inl ⟨by rfl, ?_⟩) (by assumption) ?_
                    rotate_left
                    · ((intro w hSw; (try dsimp only at hSw); go_simp; (try rw [if_neg (by omega)])); try with_reducible rfl)
                    (try simp only [Act.put, List.setIfInBounds_toArray, List.set_cons_zero, List.set_cons_succ])
                    refine wpAnyH_ready (rs := [5]) (by kernel_rfl) (by simp) ?_
                    refine AllReadyH.cons (o := { dst := some 125, op := Op.call { callee := Callee.value (Operand.func 69), args := #[Operand.tmp 122, Operand.tmp 123, Operand.tmp 124], argTypes := #[34, 3, 128] }, type := 70, pos := "make.go:35", after := #[{ on := 2, ground := Ground.data }, { on := 3, ground := Ground.data }, { on := 4, ground := Ground.data }], guard := none }) rfl (fun K hK => ?_) AllReadyH.nil
                    (go_simp; go_at_call 69; refine HMC.out.mono ?_; rintro e w6 ⟨mad, mva, mvc, mv, rfl, hmok, hmcap, hmsrc, hmlt, hd6, hf6⟩; have hm6 := hmd.next hf6 hd6; have hF6 := hfd.trans hf6; dsimp only)
                    refine hK.out _ _ ?_ (fun hHeld => ?_)
                    · first | exact hS1 | exact (hm6.keep (balloc (Below.refl _ w6) (.cells #[.int .i64 (k : Int), .int .i64 mad, .slice mva mv.length mvc] 70))).cells | exact hm6.cells | exact hmd.cells
                    clear hK K
                    (try simp only [Act.put, List.setIfInBounds_toArray, List.set_cons_zero, List.set_cons_succ])
                    refine wpAnyH_ready (rs := [6]) (by kernel_rfl) (by simp) ?_
                    refine AllReadyH.cons (o := { dst := some 126, op := Op.buildSlice 31 1 #[(0, Operand.tmp 125)], type := 31, pos := "make.go:35", after := #[{ on := 5, ground := Ground.data }], guard := none }) rfl (fun K hK => ?_) AllReadyH.nil
                    go_simp
                    refine hK.out _ _ ?_ (fun hHeld => ?_)
                    · first | exact hS1 | exact (hm6.keep (balloc (Below.refl _ w6) (.cells #[.int .i64 (k : Int), .int .i64 mad, .slice mva mv.length mvc] 70))).cells | exact hm6.cells | exact hmd.cells
                    clear hK K
                    (try simp only [Act.put, List.setIfInBounds_toArray, List.set_cons_zero, List.set_cons_succ])
                    refine wpAnyH_ready (rs := [7]) (by kernel_rfl) (by simp) ?_
                    refine AllReadyH.cons (o := { dst := some 127, op := Op.call { callee := Callee.builtin Builtin.append, args := #[Operand.tmp 121, Operand.tmp 126], argTypes := #[31, 31] }, type := 31, pos := "make.go:35", after := #[{ on := 1, ground := Ground.data }, { on := 6, ground := Ground.data }, { on := 5, ground := Ground.chain }], guard := none }) rfl (fun K hK => ?_) AllReadyH.nil
                    (refine step_append_any (by rfl) _ _ _ (by rfl) N3 70 i3 _ 3 40 Try.underlying31 hi3 ht0 ht1 ht2 rfl (by omega) (.slice qa dl qc) dl ((D.zip ms).flatMap dlv) (by rfl) (own_below (hF6.own HOW.out (fun q hq e => (by have := (own_lt HOW.out hq).1; have := HN3.out; have := HNB.out; omega))) (balloc (Below.refl _ w6) (.cells #[.int .i64 (k : Int), .int .i64 mad, .slice mva mv.length mvc] 70))) ⟨w6.heap.size, 0, none⟩ 1 1 (dlv (⟨(k : Int), mad, mv⟩, .slice mva mv.length mvc)) (by rfl) (by rfl) (World.news_of_block (cs := #[.int .i64 (k : Int), .int .i64 mad, .slice mva mv.length mvc]) (t := 70) (fr := (0, 0)) (heap_alloc_new w6 _)) (by simp [dlv, Value.oneCell']) (by unfold maxLen; omega) (by omega) (by have := HNW.out; have := hF6.size; simp; omega) ?_; intro v' w7 hown1 hgrow hat; obtain ⟨gg, cap', rfl⟩ := ownsRow_succ hown1; have hf7 : FrS (fun q => (Value.slice qa dl qc).ownBlock = some q) w6 w7 := (FrS.of (balloc (Below.refl _ w6) (.cells #[.int .i64 (k : Int), .int .i64 mad, .slice mva mv.length mvc] 70))).grow hgrow (fun q e => .inl e); have hm7 := hm6.up hf7 (fun q e => (by have := (own_lt HOW.out e).1; have := HN3.out; have := HNB.out; omega)); have hS1 := hm7.cells; have hfz := hm7.froz 6)
                    refine hK.out _ _ ?_ (fun hHeld => ?_)
                    · first | exact hS1 | exact (hm6.keep (balloc (Below.refl _ w6) (.cells #[.int .i64 (k : Int), .int .i64 mad, .slice mva mv.length mvc] 70))).cells | exact hm6.cells | exact hmd.cells
                    clear hK K
                    (try simp only [Act.put, List.setIfInBounds_toArray, List.set_cons_zero, List.set_cons_succ])
                    refine wpAnyH_take (i := 8) (oi := { dst := some 128, op := Op.fieldAddr 34 (Operand.tmp 6) 4, type := 0, pos := "make.go:35", after := #[{ on := 0, ground := Ground.phase }, { on := 1, ground := Ground.phase }, { on := 2, ground := Ground.phase }, { on := 3, ground := Ground.phase }, { on := 4, ground := Ground.phase }, { on := 5, ground := Ground.phase }, { on := 6, ground := Ground.phase }, { on := 7, ground := Ground.phase }], guard := none }) (v := ?_) rfl (by kernel_rfl) (by kernel_rfl) (by kernel_rfl) (fun _ _ _ h => h) (Or.inl ⟨by rfl, ?_⟩) (by assumption) ?_
                    rotate_left
                    · ((intro w hSw; (try dsimp only at hSw); go_simp; (try rw [if_neg (by omega)])); try with_reducible rfl)
                    (try simp only [Act.put, List.setIfInBounds_toArray, List.set_cons_zero, List.set_cons_succ])
                    refine wpAnyH_done (by kernel_rfl) ?_ _
                    show Oper.wp _ _ _ _ _ _
                    have HF8 : Hid (FrS (fun q => q ≤ X ∨ N3 ≤ q) w9 (w7.setCell ⟨X, 6, none⟩ (.slice (some ⟨gg, 0, none⟩) (dl + 1) cap'))) := Lib.hid (((HFR5.out.over hF6 (fun q e => .inl (.inl (by have := HNB.out; omega)))).over hf7 (fun q e => .inl (.inr (own_lt HOW.out e).1))).put (.inl (.inl (Nat.le_refl _))) _)
                    have HM8 : Hid (MdS W1 (w7.setCell ⟨X, 6, none⟩ (.slice (some ⟨gg, 0, none⟩) (dl + 1) cap')) Bd X la lc L (.slice ca kc cc) (.slice aa ka ac) (.slice (some ⟨gg, 0, none⟩) (dl + 1) cap') ⟨hc, hx, hy⟩ r) := Lib.hid (hm7.put6 _)
                    have HZP : Hid ((D ++ [(⟨(k : Int), mad, mv⟩ : Dl)]).zip (ms ++ [Value.slice mva mv.length mvc]) = D.zip ms ++ [((⟨(k : Int), mad, mv⟩ : Dl), Value.slice mva mv.length mvc)]) := Lib.hid (List.zip_append (by rw [HDL.out.1, HDL.out.2]))
                    have HOW8 : Hid ((w7.setCell ⟨X, 6, none⟩ (.slice (some ⟨gg, 0, none⟩) (dl + 1) cap')).ownsRow N3 70 3 (.slice (some ⟨gg, 0, none⟩) (dl + 1) cap') (dl + 1) (((D ++ [(⟨(k : Int), mad, mv⟩ : Dl)]).zip (ms ++ [Value.slice mva mv.length mvc])).flatMap dlv)) := Lib.hid (by
                      rw [HZP.out, List.flatMap_append, show ([((⟨(k : Int), mad, mv⟩ : Dl), Value.slice mva mv.length mvc)] : List (Dl × Value)).flatMap dlv = dlv (⟨(k : Int), mad, mv⟩, .slice mva mv.length mvc) by simp]
                      exact (FrS.one w7 X 6 _).own hown1 (fun q hq e => by have := (own_lt hown1 hq).1; have := HN3.out; have := HNB.out; omega))
                    have HNS8 : Hid (NsS (w7.setCell ⟨X, 6, none⟩ (.slice (some ⟨gg, 0, none⟩) (dl + 1) cap')) X 2 (.slice (some ⟨gg, 0, none⟩) (dl + 1) cap') (dR (D ++ [(⟨(k : Int), mad, mv⟩ : Dl)])) (ms ++ [Value.slice mva mv.length mvc])) := Lib.hid (by
                      have h := (HNS5.out.fr hF6 (fun q e => .inl (by have := HNB.out; omega))).add (n := mv.length) (U := AX.prc mv) hmsrc hmcap (fun g o e => by
                        have h1 := hmlt g o e
                        have h2 := HNW.out
                        have h3 := HN3.out
                        have h4 := HNB.out
                        have h5 : w5.drew.heap.size = w5.heap.size := rfl
                        refine ⟨by omega, h1.2, fun e2 => ?_⟩
                        have := (own_lt HOW.out e2).2
                        omega) (balloc (Below.refl _ w6) (.cells #[.int .i64 (k : Int), .int .i64 mad, .slice mva mv.length mvc] 70)) hgrow hat
                      have h2 := h.fr (FrS.one w7 X 6 (.slice (some ⟨gg, 0, none⟩) (dl + 1) cap')) (fun q e => .inl (by omega))
                      unfold dR at h2 ⊢
                      rw [List.map_append]
                      exact h2)
                    have HMO : Hid (MvOk ⟨C, A, ⟨hc, hx, hy⟩, r, [], []⟩ k mad mv) := Lib.hid ⟨hmok.lo, hmok.hi, by rw [hmok.len, HPN.out, HPN.out], hmok.all, fun h => by rw [HPN.out]; have h2 := hmok.last h; rw [HPN.out] at h2; exact h2⟩
                    have HDO8 : Hid (OL.dsGo n pn hc (-1) (D ++ [(⟨(k : Int), mad, mv⟩ : Dl)]) = true ∧ ∀ d ∈ D ++ [(⟨(k : Int), mad, mv⟩ : Dl)], MvOk ⟨C, A, ⟨hc, hx, hy⟩, r, [], []⟩ d.r.toNat d.a d.m ∧ 0 ≤ d.r ∧ d.r < (k + 1 : Nat)) := Lib.hid ⟨dsGo_snoc HDO.out.1 (fun e he => (HDO.out.2 e he).2.2) (by show (-1 : Int) < (k : Int); omega) (fun l hl => by have h := HMO.out.delta (reg := n) (l := l) hkk hl; rw [HPN.out] at h; exact h), fun d hd => by
                      rcases List.mem_append.1 hd with h | h
                      · obtain ⟨a1, a2, a3⟩ := HDO.out.2 d h
                        exact ⟨a1, a2, by omega⟩
                      · rw [List.mem_singleton.1 h]
                        exact ⟨by dsimp only; rw [Int.toNat_natCast]; exact HMO.out, by dsimp only; omega, by dsimp only; omega⟩⟩
                    have hf6' := hfz
                    clear hown1 hgrow hat hf7 hm7 hm6 hmd hfd hF6 hd6 hf6 hmok hmcap hmsrc hmlt
                    go_simp
                    clear hS1 hfz
                    go_wp2
                    go_roundw
                    case rel => exact ⟨k + 1, dl + 1, _, _, D ++ [(⟨(k : Int), mad, mv⟩ : Dl)], ms ++ [Value.slice mva mv.length mvc], by go_num, by omega, by omega, Lib.hid ⟨by rw [List.length_append, HDL.out.1]; rfl, by rw [List.length_append, HDL.out.2]; rfl⟩, HM8, HOW8, HNS8, HDO8, HF8⟩
                    case measure => simp [intOf]; omega
                  · have hqb : (rb == 1) = false := by rw [beq_eq_false_iff_ne]; exact hq
                    clear hq
                    go_wp2
                    go_roundw
                    case rel => exact ⟨k + 1, dl, qa, qc, D, ms, by go_num, by omega, by omega, HDL, HM5, HO5, HNS5, Lib.hid ⟨HDO.out.1, fun d hd => by obtain ⟨a1, a2, a3⟩ := HDO.out.2 d hd; exact ⟨a1, a2, by omega⟩⟩, HFR5⟩
                    case measure => simp [intOf]; omega
                · have hdd : ¬ (dl : Int) < 2 := by omega
                  go_upto_region 30 with fail
                  have HDO9 : Hid (MkOk ⟨C, A, ⟨hc, hx, hy⟩, r, D, []⟩ n) := Lib.hid (MkOk.of hn HCC.out.2 (by rw [HCC.out.1]; omega) HAA.out.2 HCL.out (by rw [HAA.out.1]; omega) (by first | exact HHG.out | exact .inl ⟨rfl, rfl, rfl⟩) HAD.out (by rw [HDL.out.1]; exact hdl) (by rw [HPN.out]; exact HDO.out.1) (fun d hd => by
                    obtain ⟨a1, a2, a3⟩ := HDO.out.2 d hd
                    exact ⟨⟨a1.lo, a1.hi, by rw [a1.len, HPN.out, HPN.out], a1.all, fun h => by rw [HPN.out]; have h2 := a1.last h; rw [HPN.out] at h2; exact h2⟩, a2, by omega⟩))
                  obtain ⟨q0, q1, q2, q3, q4, q5, q6, q7⟩ := HMS.out.cells
                  dsimp only at q2 q3 q4
                  have hz := HZ.out wr HMS.out.fr
                  have z0 : wr.cell? ⟨Z, 0, none⟩ = some (.slice none 0 0) := nd_cell hz rfl
                  have zf0 := nd_froz hz 0
                  have z1 : wr.cell? ⟨Z, 1, none⟩ = some (.slice none 0 0) := nd_cell hz rfl
                  have zf1 := nd_froz hz 1
                  have z2 : wr.cell? ⟨Z, 2, none⟩ = some (.int .i64 0) := nd_cell hz rfl
                  have zf2 := nd_froz hz 2
                  have z3 : wr.cell? ⟨Z, 3, none⟩ = some (.int .i64 0) := nd_cell hz rfl
                  have zf3 := nd_froz hz 3
                  have z4 : wr.cell? ⟨Z, 4, none⟩ = some (.int .i64 0) := nd_cell hz rfl
                  have zf4 := nd_froz hz 4
                  have z5 : wr.cell? ⟨Z, 5, none⟩ = some (.int .i64 0) := nd_cell hz rfl
                  have zf5 := nd_froz hz 5
                  have z6 : wr.cell? ⟨Z, 6, none⟩ = some (.slice none 0 0) := nd_cell hz rfl
                  have zf6 := nd_froz hz 6
                  have z7 : wr.cell? ⟨Z, 7, none⟩ = some (.slice none 0 0) := nd_cell hz rfl
                  have zf7 := nd_froz hz 7
                  obtain ⟨wz, hwz, hzz, hfz⟩ := sto8 hz (.slice ca kc cc) (.slice aa ka ac) (.int .i64 hc) (.int .i64 hx) (.int .i64 hy) (.int .i64 r) (.slice qa dl qc) (.slice none 0 0)
                  have HZZ := Lib.hid hzz
                  have HFZ := Lib.hid hfz
                  have HBZ : Hid (Below W.heap.size W wz) := Lib.hid (((HMS.out.fr.mono (T := fun q => q = Bd ∨ q = Z ∨ W1.heap.size ≤ q) (fun q e => by omega)).over hfz (fun q e => .inl (.inr (.inl e)))).bel HB1.out (fun q e => by have := HBB.out; have := HZE.out; omega))
                  have HFRZ : Hid (FrS (fun q => q ≤ X ∨ N3 ≤ q) w9 wz) := Lib.hid (HFR.out.over hfz (fun q e => .inl (.inl (by have := HBB.out; have := HNB.out; omega))))
                  clear hz hzz hfz x6
                  rename_i hKK
                  have HKK := Lib.hid hKK
                  clear hKK
                  go_wp2
                  try rw [hwz]
                  refine HKK.out _ _ ?_
                  refine wp_ret ?_
                  (try simp only [Exit.then])
                  refine bodyPost_ret (results_cell_row Try.results30 _ _ Z 34 _ (0, 0) _ rfl HZZ.out Try.underlying34 rfl (by kernel_rfl)) rfl ?_
                  refine ⟨_, ⟨C, A, ⟨hc, hx, hy⟩, r, D, []⟩, rfl, fun U hU => ?_, HDO9.out, HBZ.out⟩
                  have hfu : FrS (fun q => q ≤ X ∨ N3 ≤ q) w9 U := HFRZ.out.over hU (fun q e => .inl (.inl (by have := HBB.out; have := HNB.out; have := HZE.out; omega)))
                  refine ⟨_, _, _, rfl, HCK3.out U hfu, HACK.out U hfu, ?_, rfl⟩
                  refine ((HNS.out.fr HFZ.out (fun q e => .inl (by have := HBB.out; have := HNB.out; omega))).fr hU (fun q e => .inl (by have := HBB.out; have := HNB.out; have := HZE.out; omega))).ds ?_
                  rw [HDL.out.1]
                  exact own_srcN (hU.own (HFZ.out.own HOW.out (fun q hq e => by have := (own_lt HOW.out hq).1; have := HN3.out; have := HNB.out; have := HBB.out; omega)) (fun q hq e => by have := (own_lt HOW.out hq).1; have := HN3.out; have := HNB.out; have := HBB.out; have := HZE.out; omega))
              · have hkk : ¬ (k : Int) < (n : Int) := by omega
                go_upto_region 30 with fail
                have HDO9 : Hid (MkOk ⟨C, A, ⟨hc, hx, hy⟩, r, D, []⟩ n) := Lib.hid (MkOk.of hn HCC.out.2 (by rw [HCC.out.1]; omega) HAA.out.2 HCL.out (by rw [HAA.out.1]; omega) (by first | exact HHG.out | exact .inl ⟨rfl, rfl, rfl⟩) HAD.out (by rw [HDL.out.1]; exact hdl) (by rw [HPN.out]; exact HDO.out.1) (fun d hd => by
                  obtain ⟨a1, a2, a3⟩ := HDO.out.2 d hd
                  exact ⟨⟨a1.lo, a1.hi, by rw [a1.len, HPN.out, HPN.out], a1.all, fun h => by rw [HPN.out]; have h2 := a1.last h; rw [HPN.out] at h2; exact h2⟩, a2, by omega⟩))
                obtain ⟨q0, q1, q2, q3, q4, q5, q6, q7⟩ := HMS.out.cells
                dsimp only at q2 q3 q4
                have hz := HZ.out wr HMS.out.fr
                have z0 : wr.cell? ⟨Z, 0, none⟩ = some (.slice none 0 0) := nd_cell hz rfl
                have zf0 := nd_froz hz 0
                have z1 : wr.cell? ⟨Z, 1, none⟩ = some (.slice none 0 0) := nd_cell hz rfl
                have zf1 := nd_froz hz 1
                have z2 : wr.cell? ⟨Z, 2, none⟩ = some (.int .i64 0) := nd_cell hz rfl
                have zf2 := nd_froz hz 2
                have z3 : wr.cell? ⟨Z, 3, none⟩ = some (.int .i64 0) := nd_cell hz rfl
                have zf3 := nd_froz hz 3
                have z4 : wr.cell? ⟨Z, 4, none⟩ = some (.int .i64 0) := nd_cell hz rfl
                have zf4 := nd_froz hz 4
                have z5 : wr.cell? ⟨Z, 5, none⟩ = some (.int .i64 0) := nd_cell hz rfl
                have zf5 := nd_froz hz 5
                have z6 : wr.cell? ⟨Z, 6, none⟩ = some (.slice none 0 0) := nd_cell hz rfl
                have zf6 := nd_froz hz 6
                have z7 : wr.cell? ⟨Z, 7, none⟩ = some (.slice none 0 0) := nd_cell hz rfl
                have zf7 := nd_froz hz 7
                obtain ⟨wz, hwz, hzz, hfz⟩ := sto8 hz (.slice ca kc cc) (.slice aa ka ac) (.int .i64 hc) (.int .i64 hx) (.int .i64 hy) (.int .i64 r) (.slice qa dl qc) (.slice none 0 0)
                have HZZ := Lib.hid hzz
                have HFZ := Lib.hid hfz
                have HBZ : Hid (Below W.heap.size W wz) := Lib.hid (((HMS.out.fr.mono (T := fun q => q = Bd ∨ q = Z ∨ W1.heap.size ≤ q) (fun q e => by omega)).over hfz (fun q e => .inl (.inr (.inl e)))).bel HB1.out (fun q e => by have := HBB.out; have := HZE.out; omega))
                have HFRZ : Hid (FrS (fun q => q ≤ X ∨ N3 ≤ q) w9 wz) := Lib.hid (HFR.out.over hfz (fun q e => .inl (.inl (by have := HBB.out; have := HNB.out; omega))))
                clear hz hzz hfz x6
                rename_i hKK
                have HKK := Lib.hid hKK
                clear hKK
                go_wp2
                try rw [hwz]
                refine HKK.out _ _ ?_
                refine wp_ret ?_
                (try simp only [Exit.then])
                refine bodyPost_ret (results_cell_row Try.results30 _ _ Z 34 _ (0, 0) _ rfl HZZ.out Try.underlying34 rfl (by kernel_rfl)) rfl ?_
                refine ⟨_, ⟨C, A, ⟨hc, hx, hy⟩, r, D, []⟩, rfl, fun U hU => ?_, HDO9.out, HBZ.out⟩
                have hfu : FrS (fun q => q ≤ X ∨ N3 ≤ q) w9 U := HFRZ.out.over hU (fun q e => .inl (.inl (by have := HBB.out; have := HNB.out; have := HZE.out; omega)))
                refine ⟨_, _, _, rfl, HCK3.out U hfu, HACK.out U hfu, ?_, rfl⟩
                refine ((HNS.out.fr HFZ.out (fun q e => .inl (by have := HBB.out; have := HNB.out; omega))).fr hU (fun q e => .inl (by have := HBB.out; have := HNB.out; have := HZE.out; omega))).ds ?_
                rw [HDL.out.1]
                exact own_srcN (hU.own (HFZ.out.own HOW.out (fun q hq e => by have := (own_lt HOW.out hq).1; have := HN3.out; have := HNB.out; have := HBB.out; omega)) (fun q hq e => by have := (own_lt HOW.out hq).1; have := HN3.out; have := HNB.out; have := HBB.out; have := HZE.out; omega))
          · have hqb : (rh == 0) = false := by rw [beq_eq_false_iff_ne]; exact hq
            go_upto_region 25 with fail
            clear hq hqb lrh urh
            obtain ⟨hc, hhc⟩ : ∃ z : Int, z = 0 := ⟨_, rfl⟩
            obtain ⟨w9, hw9⟩ : ∃ w, w = w5 := ⟨_, rfl⟩
            subst hw9
            have HHG : Hid (((0 : Int) = 0 ∧ (0 : Int) = 0 ∧ (0 : Int) = 0) ∨ (1 ≤ (0 : Int) ∧ (0 : Int) ≤ 3 ∧ -10 ≤ (0 : Int) ∧ (0 : Int) ≤ 49 ∧ -10 ≤ (0 : Int) ∧ (0 : Int) ≤ 49)) := Lib.hid (.inl ⟨rfl, rfl, rfl⟩)
            have HMH := HM5
            have HFH := HF5
            have HOH := HO5
            obtain ⟨N3, hN3⟩ : ∃ N, w9.heap.size = N := ⟨_, rfl⟩
            have HN3 : Hid (w9.heap.size = N3 ∧ N2 ≤ N3) := Lib.hid ⟨hN3, by have := HFH.out.size; have := HN2.out; omega⟩
            have HACK : Hid (∀ U, FrS (fun q => q ≤ X ∨ N3 ≤ q) w9 U → AcAt U (.slice aa ka ac) A) := Lib.hid fun U hU => by
              have h0 : AcAt w9 (.slice aa ka ac) A := by
                unfold AcAt
                rw [HAA.out.1]
                exact own_srcN HOH.out
              refine SrcN.fr h0 hU (fun g o e hs => ?_)
              have h1 := own_lt HOH.out (q := g) (by rw [e]; rfl)
              have := HNB.out
              have := HN3.out
              rcases hs with h | h <;> omega
            have HCK3 : Hid (∀ U, FrS (fun q => q ≤ X ∨ N3 ≤ q) w9 U → CkAt U (.slice ca kc cc) C) := Lib.hid fun U hU => HCK.out U (HFH.out.over hU (fun q e => .inl (by have := HN3.out; omega)))
            obtain ⟨pn, hpn⟩ : ∃ p, OL.points ⟨C, A, ⟨0, 0, 0⟩, r, [], []⟩ = p := ⟨_, rfl⟩
            have HPN : Hid (∀ D, OL.points ⟨C, A, ⟨0, 0, 0⟩, r, D, []⟩ = pn) := Lib.hid fun D => hpn
            have HPB : Hid (pn ≤ 1000) := Lib.hid (by
              rw [← hpn]
              unfold OL.points
              have := (cts_ok HCC.out.2).2
              have := HCC.out.1
              have := HAA.out.1
              dsimp only
              omega)
            clear hN3 hpn
            go_upto_region 26 with fail
            go_loopw [17] (fun v17 wr => ∃ (k dl : Nat) (qa : Option Addr) (qc : Nat) (D : List Dl) (ms : List Value), v17 = .int .i64 (k : Int) ∧ k ≤ n ∧ dl ≤ 2 ∧ Hid (D.length = dl ∧ ms.length = dl) ∧ Hid (MdS W1 wr Bd X la lc L (.slice ca kc cc) (.slice aa ka ac) (.slice qa dl qc) ⟨0, 0, 0⟩ r) ∧ Hid (wr.ownsRow N3 70 3 (.slice qa dl qc) dl ((D.zip ms).flatMap dlv)) ∧ Hid (NsS wr X 2 (.slice qa dl qc) (dR D) ms) ∧ Hid (OL.dsGo n pn 0 (-1) D = true ∧ ∀ d ∈ D, MvOk ⟨C, A, ⟨0, 0, 0⟩, r, [], []⟩ d.r.toNat d.a d.m ∧ 0 ≤ d.r ∧ d.r < k) ∧ Hid (FrS (fun q => q ≤ X ∨ N3 ≤ q) w9 wr)) (fun v17 _ => n - (intOf v17).toNat)
            case atStart => exact ⟨0, 0, none, 0, [], [], rfl, Nat.zero_le _, Nat.zero_le _, Lib.hid ⟨rfl, rfl⟩, HMH, Lib.hid ⟨rfl, .inl ⟨rfl, rfl⟩⟩, Lib.hid (NsS.nil _ _ _ _), Lib.hid ⟨rfl, fun d h => by simp at h⟩, Lib.hid (FrS.refl _ _)⟩
            case round =>
              clear HMS HOW HM5 HF5 HO5
              obtain ⟨k, dl, qa, qc, D, ms, rfl, hk, hdl, HDL, HMS, HOW, HNS, HDO, HFR⟩ := hrel
              have x6 := HMS.out.cells.2.2.2.2.2.2.1
              by_cases hkn : k < n
              · have hkk : (k : Int) < (n : Int) := by omega
                have hk0 : (0 : Int) ≤ (k : Int) := by omega
                by_cases hd2 : dl < 2
                · have hdd : (dl : Int) < 2 := by omega
                  go_upto_region 28 with fail
                  clear x6
                  have HC := Lib.hid (nxt_any HMS.out.dw HLL.out 2 (by omega) (by omega))
                  go_wp2_with fail
                  go_at_call 68
                  refine HC.out.mono ?_
                  rintro e w5 ⟨rb, rfl, lrb, urb, hd5, hf5⟩
                  clear HC
                  have HM5 := Lib.hid (HMS.out.next hf5 hd5)
                  have HF5 : Hid (FrS (fun q => q = Bd) wr w5) := Lib.hid hf5
                  have HO5 : Hid (w5.ownsRow N3 70 3 (.slice qa dl qc) dl ((D.zip ms).flatMap dlv)) := Lib.hid (hf5.own HOW.out (fun q hq e => by have := (own_lt HOW.out hq).1; have := HN3.out; have := HNB.out; omega))
                  have HNS5 : Hid (NsS w5 X 2 (.slice qa dl qc) (dR D) ms) := Lib.hid (HNS.out.fr hf5 (fun q e => .inl (by have := HNB.out; omega)))
                  have HFR5 : Hid (FrS (fun q => q ≤ X ∨ N3 ≤ q) w9 w5) := Lib.hid (HFR.out.over hf5 (fun q e => .inl (.inl (by have := HNB.out; omega))))
                  clear hd5 hf5
                  by_cases hq : rb = 1
                  · have hqb : (rb == 1) = true := by rw [beq_iff_eq]; exact hq
                    go_upto_region 29 with fail
                    clear hq hqb lrb urb HMS HOW HNS HFR
                    have HOW := HO5
                    have hmd := HM5.out.keep (Below.drew (Below.refl _ w5))
                    have hfd : FrS (fun q => q = Bd) w5 w5.drew := (FrS.refl _ _).dr
                    have HNW : Hid (N3 ≤ w5.heap.size) := Lib.hid (by have := HFR5.out.size; have := HN3.out; omega)
                    have HMC := Lib.hid (rmoves_any w5.drew (.agg #[.slice ca kc cc, .slice aa ka ac, .int .i64 0, .int .i64 0, .int .i64 0, .int .i64 r, .slice qa dl qc, .slice none 0 0]) ⟨C, A, ⟨0, 0, 0⟩, r, D, []⟩ k Bd lc la L (fun U hU => by
                      have hf : FrS (fun q => q ≤ X ∨ N3 ≤ q) w9 U := HFR5.out.dr.over hU (fun q e => .inl (.inl (by have := HNB.out; omega)))
                      have h3 : DsAt U (.slice qa dl qc) D := by
                        have hn : NsS U X 2 (.slice qa dl qc) (dR D) ms := (HNS5.out.fr hfd (fun q e => .inl (by have := HNB.out; omega))).fr hU (fun q e => .inl (by have := HNB.out; omega))
                        refine hn.ds ?_
                        rw [HDL.out.1]
                        exact own_srcN (hU.own (hfd.own HOW.out (fun q hq e => by have := (own_lt HOW.out hq).1; have := HN3.out; have := HNB.out; omega)) (fun q hq e => by have := (own_lt HOW.out hq).1; have := HN3.out; have := HNB.out; omega))
                      exact ⟨_, _, _, _, rfl, (HCK3.out U hf).cs, HACK.out U hf, h3, SrcN.nil 2 U⟩) ⟨⟨by dsimp only; rw [HCC.out.1]; omega, fun c hc => by have := (HCC.out.2 c hc).2.1; omega⟩, by dsimp only; rw [HAA.out.1]; omega, by dsimp only; rw [HDL.out.1]; omega, fun d hd => by have h := (HDO.out.2 d hd).1.len; rw [h, HPN.out []]; exact HPB.out, by simp⟩ (by rw [HPN.out D]; exact HPB.out) hmd.dw HLL.out (by omega))
                    refine wp_region_last #[{ dst := some 120, op := Op.fieldAddr 34 (Operand.tmp 6) 4, type := 0, pos := "make.go:35", after := #[], guard := none }, { dst := some 121, op := Op.load 31 (Operand.tmp 120), type := 31, pos := "make.go:35", after := #[{ on := 0, ground := Ground.data }], guard := none }, { dst := some 122, op := Op.load 34 (Operand.tmp 6), type := 34, pos := "make.go:35", after := #[], guard := none }, { dst := some 123, op := Op.move (Operand.tmp 17), type := 3, pos := "make.go:35", after := #[], guard := none }, { dst := some 124, op := Op.move (Operand.tmp 5), type := 128, pos := "make.go:35", after := #[], guard := none }, { dst := some 125, op := Op.call { callee := Callee.value (Operand.func 69), args := #[Operand.tmp 122, Operand.tmp 123, Operand.tmp 124], argTypes := #[34, 3, 128] }, type := 70, pos := "make.go:35", after := #[{ on := 2, ground := Ground.data }, { on := 3, ground := Ground.data }, { on := 4, ground := Ground.data }], guard := none }, { dst := some 126, op := Op.buildSlice 31 1 #[(0, Operand.tmp 125)], type := 31, pos := "make.go:35", after := #[{ on := 5, ground := Ground.data }], guard := none }, { dst := some 127, op := Op.call { callee := Callee.builtin Builtin.append, args := #[Operand.tmp 121, Operand.tmp 126], argTypes := #[31, 31] }, type := 31, pos := "make.go:35", after := #[{ on := 1, ground := Ground.data }, { on := 6, ground := Ground.data }, { on := 5, ground := Ground.chain }], guard := none }, { dst := some 128, op := Op.fieldAddr 34 (Operand.tmp 6) 4, type := 0, pos := "make.go:35", after := #[{ on := 0, ground := Ground.phase }, { on := 1, ground := Ground.phase }, { on := 2, ground := Ground.phase }, { on := 3, ground := Ground.phase }, { on := 4, ground := Ground.phase }, { on := 5, ground := Ground.phase }, { on := 6, ground := Ground.phase }, { on := 7, ground := Ground.phase }], guard := none }] { dst := none, op := Op.store 31 (Operand.tmp 128) (Operand.tmp 127), type := 0, pos := "make.go:35", after := #[{ on := 8, ground := Ground.data }, { on := 7, ground := Ground.data }, { on := 7, ground := Ground.chain }, { on := 0, ground := Ground.phase }, { on := 1, ground := Ground.phase }, { on := 2, ground := Ground.phase }, { on := 3, ground := Ground.phase }, { on := 4, ground := Ground.phase }, { on := 5, ground := Ground.phase }, { on := 6, ground := Ground.phase }, { on := 7, ground := Ground.phase }], guard := none } rfl (by kernel_rfl) (by kernel_rfl) (fun w' => w'.cell? ⟨X, 0, none⟩ = some (.slice ca kc cc) ∧ w'.cell? ⟨X, 1, none⟩ = some (.slice aa ka ac) ∧ w'.cell? ⟨X, 2, none⟩ = some (.int .i64 0) ∧ w'.cell? ⟨X, 3, none⟩ = some (.int .i64 0) ∧ w'.cell? ⟨X, 4, none⟩ = some (.int .i64 0) ∧ w'.cell? ⟨X, 5, none⟩ = some (.int .i64 r) ∧ w'.cell? ⟨X, 6, none⟩ = some (.slice qa dl qc) ∧ w'.cell? ⟨X, 7, none⟩ = some (.slice none 0 0)) ?_ (fun hHeld => ?_)
                    · first | exact hS1 | exact (hm6.keep (balloc (Below.refl _ w6) (.cells #[.int .i64 (k : Int), .int .i64 mad, .slice mva mv.length mvc] 70))).cells | exact hm6.cells | exact hmd.cells
                    refine wpAnyH_take (i := 0) (oi := { dst := some 120, op := Op.fieldAddr 34 (Operand.tmp 6) 4, type := 0, pos := "make.go:35", after := #[], guard := none }) (v := ?_) rfl (by kernel_rfl) (by kernel_rfl) (by kernel_rfl) (fun _ _ _ h => h) (Or.inl ⟨by rfl, ?_⟩) (by assumption) ?_
                    rotate_left
                    · ((intro w hSw; (try dsimp only at hSw); go_simp; (try rw [if_neg (by omega)])); try with_reducible rfl)
                    (try simp only [Act.put, List.setIfInBounds_toArray, List.set_cons_zero, List.set_cons_succ])
                    refine wpAnyH_take (i := 1) (oi := { dst := some 121, op := Op.load 31 (Operand.tmp 120), type := 31, pos := "make.go:35", after := #[{ on := 0, ground := Ground.data }], guard := none }) (v := ?_) rfl (by kernel_rfl) (by kernel_rfl) (by kernel_rfl) (fun _ _ _ h => h) (Or.inl ⟨by rfl, ?_⟩) (by assumption) ?_
                    rotate_left
                    · ((intro w hSw; (try dsimp only at hSw); go_simp; (try rw [if_neg (by omega)])); try with_reducible rfl)
                    (try simp only [Act.put, List.setIfInBounds_toArray, List.set_cons_zero, List.set_cons_succ])
                    refine wpAnyH_take (i := 2) (oi := { dst := some 122, op := Op.load 34 (Operand.tmp 6), type := 34, pos := "make.go:35", after := #[], guard := none }) (v := ?_) rfl (by kernel_rfl) (by kernel_rfl) (by kernel_rfl) (fun _ _ _ h => h) (Or.inl ⟨by rfl, ?_⟩) (by assumption) ?_
                    rotate_left
                    · ((intro w hSw; (try dsimp only at hSw); go_simp; (try rw [if_neg (by omega)])); try with_reducible rfl)
                    (try simp only [Act.put, List.setIfInBounds_toArray, List.set_cons_zero, List.set_cons_succ])
                    refine wpAnyH_take (i := 3) (oi := { dst := some 123, op := Op.move (Operand.tmp 17), type := 3, pos := "make.go:35", after := #[], guard := none }) (v := ?_) rfl (by kernel_rfl) (by kernel_rfl) (by kernel_rfl) (fun _ _ _ h => h) (Or.inl ⟨by rfl, ?_⟩) (by assumption) ?_
                    rotate_left
                    · ((intro w hSw; (try dsimp only at hSw); go_simp; (try rw [if_neg (by omega)])); try with_reducible rfl)
                    (try simp only [Act.put, List.setIfInBounds_toArray, List.set_cons_zero, List.set_cons_succ])
                    refine wpAnyH_take (i := 4) (oi := { dst := some 124, op := Op.move (Operand.tmp 5), type := 128, pos := "make.go:35", after := #[], guard := none }) (v := ?_) rfl (by kernel_rfl) (by kernel_rfl) (by kernel_rfl) (fun _ _ _ h => h) (Or.inl ⟨by rfl, ?_⟩) (by assumption) ?_
                    rotate_left
                    · ((intro w hSw; (try dsimp only at hSw); go_simp; (try rw [if_neg (by omega)])); try with_reducible rfl)
                    (try simp only [Act.put, List.setIfInBounds_toArray, List.set_cons_zero, List.set_cons_succ])
                    refine wpAnyH_ready (rs := [5]) (by kernel_rfl) (by simp) ?_
                    refine AllReadyH.cons (o := { dst := some 125, op := Op.call { callee := Callee.value (Operand.func 69), args := #[Operand.tmp 122, Operand.tmp 123, Operand.tmp 124], argTypes := #[34, 3, 128] }, type := 70, pos := "make.go:35", after := #[{ on := 2, ground := Ground.data }, { on := 3, ground := Ground.data }, { on := 4, ground := Ground.data }], guard := none }) rfl (fun K hK => ?_) AllReadyH.nil
                    (go_simp; go_at_call 69; refine HMC.out.mono ?_; rintro e w6 ⟨mad, mva, mvc, mv, rfl, hmok, hmcap, hmsrc, hmlt, hd6, hf6⟩; have hm6 := hmd.next hf6 hd6; have hF6 := hfd.trans hf6; dsimp only)
                    refine hK.out _ _ ?_ (fun hHeld => ?_)
                    · first | exact hS1 | exact (hm6.keep (balloc (Below.refl _ w6) (.cells #[.int .i64 (k : Int), .int .i64 mad, .slice mva mv.length mvc] 70))).cells | exact hm6.cells | exact hmd.cells
                    clear hK K
                    (try simp only [Act.put, List.setIfInBounds_toArray, List.set_cons_zero, List.set_cons_succ])
                    refine wpAnyH_ready (rs := [6]) (by kernel_rfl) (by simp) ?_
                    refine AllReadyH.cons (o := { dst := some 126, op := Op.buildSlice 31 1 #[(0, Operand.tmp 125)], type := 31, pos := "make.go:35", after := #[{ on := 5, ground := Ground.data }], guard := none }) rfl (fun K hK => ?_) AllReadyH.nil
                    go_simp
                    refine hK.out _ _ ?_ (fun hHeld => ?_)
                    · first | exact hS1 | exact (hm6.keep (balloc (Below.refl _ w6) (.cells #[.int .i64 (k : Int), .int .i64 mad, .slice mva mv.length mvc] 70))).cells | exact hm6.cells | exact hmd.cells
                    clear hK K
                    (try simp only [Act.put, List.setIfInBounds_toArray, List.set_cons_zero, List.set_cons_succ])
                    refine wpAnyH_ready (rs := [7]) (by kernel_rfl) (by simp) ?_
                    refine AllReadyH.cons (o := { dst := some 127, op := Op.call { callee := Callee.builtin Builtin.append, args := #[Operand.tmp 121, Operand.tmp 126], argTypes := #[31, 31] }, type := 31, pos := "make.go:35", after := #[{ on := 1, ground := Ground.data }, { on := 6, ground := Ground.data }, { on := 5, ground := Ground.chain }], guard := none }) rfl (fun K hK => ?_) AllReadyH.nil
                    (refine step_append_any (by rfl) _ _ _ (by rfl) N3 70 i3 _ 3 40 Try.underlying31 hi3 ht0 ht1 ht2 rfl (by omega) (.slice qa dl qc) dl ((D.zip ms).flatMap dlv) (by rfl) (own_below (hF6.own HOW.out (fun q hq e => (by have := (own_lt HOW.out hq).1; have := HN3.out; have := HNB.out; omega))) (balloc (Below.refl _ w6) (.cells #[.int .i64 (k : Int), .int .i64 mad, .slice mva mv.length mvc] 70))) ⟨w6.heap.size, 0, none⟩ 1 1 (dlv (⟨(k : Int), mad, mv⟩, .slice mva mv.length mvc)) (by rfl) (by rfl) (World.news_of_block (cs := #[.int .i64 (k : Int), .int .i64 mad, .slice mva mv.length mvc]) (t := 70) (fr := (0, 0)) (heap_alloc_new w6 _)) (by simp [dlv, Value.oneCell']) (by unfold maxLen; omega) (by omega) (by have := HNW.out; have := hF6.size; simp; omega) ?_; intro v' w7 hown1 hgrow hat; obtain ⟨gg, cap', rfl⟩ := ownsRow_succ hown1; have hf7 : FrS (fun q => (Value.slice qa dl qc).ownBlock = some q) w6 w7 := (FrS.of (balloc (Below.refl _ w6) (.cells #[.int .i64 (k : Int), .int .i64 mad, .slice mva mv.length mvc] 70))).grow hgrow (fun q e => .inl e); have hm7 := hm6.up hf7 (fun q e => (by have := (own_lt HOW.out e).1; have := HN3.out; have := HNB.out; omega)); have hS1 := hm7.cells; have hfz := hm7.froz 6)
                    refine hK.out _ _ ?_ (fun hHeld => ?_)
                    · first | exact hS1 | exact (hm6.keep (balloc (Below.refl _ w6) (.cells #[.int .i64 (k : Int), .int .i64 mad, .slice mva mv.length mvc] 70))).cells | exact hm6.cells | exact hmd.cells
                    clear hK K
                    (try simp only [Act.put, List.setIfInBounds_toArray, List.set_cons_zero, List.set_cons_succ])
                    refine wpAnyH_take (i := 8) (oi := { dst := some 128, op := Op.fieldAddr 34 (Operand.tmp 6) 4, type := 0, pos := "make.go:35", after := #[{ on := 0, ground := Ground.phase }, { on := 1, ground := Ground.phase }, { on := 2, ground := Ground.phase }, { on := 3, ground := Ground.phase }, { on := 4, ground := Ground.phase }, { on := 5, ground := Ground.phase }, { on := 6, ground := Ground.phase }, { on := 7, ground := Ground.phase }], guard := none }) (v := ?_) rfl (by kernel_rfl) (by kernel_rfl) (by kernel_rfl) (fun _ _ _ h => h) (Or.inl ⟨by rfl, ?_⟩) (by assumption) ?_
                    rotate_left
                    · ((intro w hSw; (try dsimp only at hSw); go_simp; (try rw [if_neg (by omega)])); try with_reducible rfl)
                    (try simp only [Act.put, List.setIfInBounds_toArray, List.set_cons_zero, List.set_cons_succ])
                    refine wpAnyH_done (by kernel_rfl) ?_ _
                    show Oper.wp _ _ _ _ _ _
                    have HF8 : Hid (FrS (fun q => q ≤ X ∨ N3 ≤ q) w9 (w7.setCell ⟨X, 6, none⟩ (.slice (some ⟨gg, 0, none⟩) (dl + 1) cap'))) := Lib.hid (((HFR5.out.over hF6 (fun q e => .inl (.inl (by have := HNB.out; omega)))).over hf7 (fun q e => .inl (.inr (own_lt HOW.out e).1))).put (.inl (.inl (Nat.le_refl _))) _)
                    have HM8 : Hid (MdS W1 (w7.setCell ⟨X, 6, none⟩ (.slice (some ⟨gg, 0, none⟩) (dl + 1) cap')) Bd X la lc L (.slice ca kc cc) (.slice aa ka ac) (.slice (some ⟨gg, 0, none⟩) (dl + 1) cap') ⟨0, 0, 0⟩ r) := Lib.hid (hm7.put6 _)
                    have HZP : Hid ((D ++ [(⟨(k : Int), mad, mv⟩ : Dl)]).zip (ms ++ [Value.slice mva mv.length mvc]) = D.zip ms ++ [((⟨(k : Int), mad, mv⟩ : Dl), Value.slice mva mv.length mvc)]) := Lib.hid (List.zip_append (by rw [HDL.out.1, HDL.out.2]))
                    have HOW8 : Hid ((w7.setCell ⟨X, 6, none⟩ (.slice (some ⟨gg, 0, none⟩) (dl + 1) cap')).ownsRow N3 70 3 (.slice (some ⟨gg, 0, none⟩) (dl + 1) cap') (dl + 1) (((D ++ [(⟨(k : Int), mad, mv⟩ : Dl)]).zip (ms ++ [Value.slice mva mv.length mvc])).flatMap dlv)) := Lib.hid (by
                      rw [HZP.out, List.flatMap_append, show ([((⟨(k : Int), mad, mv⟩ : Dl), Value.slice mva mv.length mvc)] : List (Dl × Value)).flatMap dlv = dlv (⟨(k : Int), mad, mv⟩, .slice mva mv.length mvc) by simp]
                      exact (FrS.one w7 X 6 _).own hown1 (fun q hq e => by have := (own_lt hown1 hq).1; have := HN3.out; have := HNB.out; omega))
                    have HNS8 : Hid (NsS (w7.setCell ⟨X, 6, none⟩ (.slice (some ⟨gg, 0, none⟩) (dl + 1) cap')) X 2 (.slice (some ⟨gg, 0, none⟩) (dl + 1) cap') (dR (D ++ [(⟨(k : Int), mad, mv⟩ : Dl)])) (ms ++ [Value.slice mva mv.length mvc])) := Lib.hid (by
                      have h := (HNS5.out.fr hF6 (fun q e => .inl (by have := HNB.out; omega))).add (n := mv.length) (U := AX.prc mv) hmsrc hmcap (fun g o e => by
                        have h1 := hmlt g o e
                        have h2 := HNW.out
                        have h3 := HN3.out
                        have h4 := HNB.out
                        have h5 : w5.drew.heap.size = w5.heap.size := rfl
                        refine ⟨by omega, h1.2, fun e2 => ?_⟩
                        have := (own_lt HOW.out e2).2
                        omega) (balloc (Below.refl _ w6) (.cells #[.int .i64 (k : Int), .int .i64 mad, .slice mva mv.length mvc] 70)) hgrow hat
                      have h2 := h.fr (FrS.one w7 X 6 (.slice (some ⟨gg, 0, none⟩) (dl + 1) cap')) (fun q e => .inl (by omega))
                      unfold dR at h2 ⊢
                      rw [List.map_append]
                      exact h2)
                    have HMO : Hid (MvOk ⟨C, A, ⟨0, 0, 0⟩, r, [], []⟩ k mad mv) := Lib.hid ⟨hmok.lo, hmok.hi, by rw [hmok.len, HPN.out, HPN.out], hmok.all, fun h => by rw [HPN.out]; have h2 := hmok.last h; rw [HPN.out] at h2; exact h2⟩
                    have HDO8 : Hid (OL.dsGo n pn 0 (-1) (D ++ [(⟨(k : Int), mad, mv⟩ : Dl)]) = true ∧ ∀ d ∈ D ++ [(⟨(k : Int), mad, mv⟩ : Dl)], MvOk ⟨C, A, ⟨0, 0, 0⟩, r, [], []⟩ d.r.toNat d.a d.m ∧ 0 ≤ d.r ∧ d.r < (k + 1 : Nat)) := Lib.hid ⟨dsGo_snoc HDO.out.1 (fun e he => (HDO.out.2 e he).2.2) (by show (-1 : Int) < (k : Int); omega) (fun l hl => by have h := HMO.out.delta (reg := n) (l := l) hkk hl; rw [HPN.out] at h; exact h), fun d hd => by
                      rcases List.mem_append.1 hd with h | h
                      · obtain ⟨a1, a2, a3⟩ := HDO.out.2 d h
                        exact ⟨a1, a2, by omega⟩
                      · rw [List.mem_singleton.1 h]
                        exact ⟨by dsimp only; rw [Int.toNat_natCast]; exact HMO.out, by dsimp only; omega, by dsimp only; omega⟩⟩
                    have hf6' := hfz
                    clear hown1 hgrow hat hf7 hm7 hm6 hmd hfd hF6 hd6 hf6 hmok hmcap hmsrc hmlt
                    go_simp
                    clear hS1 hfz
                    go_wp2
                    go_roundw
                    case rel => exact ⟨k + 1, dl + 1, _, _, D ++ [(⟨(k : Int), mad, mv⟩ : Dl)], ms ++ [Value.slice mva mv.length mvc], by go_num, by omega, by omega, Lib.hid ⟨by rw [List.length_append, HDL.out.1]; rfl, by rw [List.length_append, HDL.out.2]; rfl⟩, HM8, HOW8, HNS8, HDO8, HF8⟩
                    case measure => simp [intOf]; omega
                  · have hqb : (rb == 1) = false := by rw [beq_eq_false_iff_ne]; exact hq
                    clear hq
                    go_wp2
                    go_roundw
                    case rel => exact ⟨k + 1, dl, qa, qc, D, ms, by go_num, by omega, by omega, HDL, HM5, HO5, HNS5, Lib.hid ⟨HDO.out.1, fun d hd => by obtain ⟨a1, a2, a3⟩ := HDO.out.2 d hd; exact ⟨a1, a2, by omega⟩⟩, HFR5⟩
                    case measure => simp [intOf]; omega
                · have hdd : ¬ (dl : Int) < 2 := by omega
                  go_upto_region 30 with fail
                  have HDO9 : Hid (MkOk ⟨C, A, ⟨0, 0, 0⟩, r, D, []⟩ n) := Lib.hid (MkOk.of hn HCC.out.2 (by rw [HCC.out.1]; omega) HAA.out.2 HCL.out (by rw [HAA.out.1]; omega) (by first | exact HHG.out | exact .inl ⟨rfl, rfl, rfl⟩) HAD.out (by rw [HDL.out.1]; exact hdl) (by rw [HPN.out]; exact HDO.out.1) (fun d hd => by
                    obtain ⟨a1, a2, a3⟩ := HDO.out.2 d hd
                    exact ⟨⟨a1.lo, a1.hi, by rw [a1.len, HPN.out, HPN.out], a1.all, fun h => by rw [HPN.out]; have h2 := a1.last h; rw [HPN.out] at h2; exact h2⟩, a2, by omega⟩))
                  obtain ⟨q0, q1, q2, q3, q4, q5, q6, q7⟩ := HMS.out.cells
                  dsimp only at q2 q3 q4
                  have hz := HZ.out wr HMS.out.fr
                  have z0 : wr.cell? ⟨Z, 0, none⟩ = some (.slice none 0 0) := nd_cell hz rfl
                  have zf0 := nd_froz hz 0
                  have z1 : wr.cell? ⟨Z, 1, none⟩ = some (.slice none 0 0) := nd_cell hz rfl
                  have zf1 := nd_froz hz 1
                  have z2 : wr.cell? ⟨Z, 2, none⟩ = some (.int .i64 0) := nd_cell hz rfl
                  have zf2 := nd_froz hz 2
                  have z3 : wr.cell? ⟨Z, 3, none⟩ = some (.int .i64 0) := nd_cell hz rfl
                  have zf3 := nd_froz hz 3
                  have z4 : wr.cell? ⟨Z, 4, none⟩ = some (.int .i64 0) := nd_cell hz rfl
                  have zf4 := nd_froz hz 4
                  have z5 : wr.cell? ⟨Z, 5, none⟩ = some (.int .i64 0) := nd_cell hz rfl
                  have zf5 := nd_froz hz 5
                  have z6 : wr.cell? ⟨Z, 6, none⟩ = some (.slice none 0 0) := nd_cell hz rfl
                  have zf6 := nd_froz hz 6
                  have z7 : wr.cell? ⟨Z, 7, none⟩ = some (.slice none 0 0) := nd_cell hz rfl
                  have zf7 := nd_froz hz 7
                  obtain ⟨wz, hwz, hzz, hfz⟩ := sto8 hz (.slice ca kc cc) (.slice aa ka ac) (.int .i64 0) (.int .i64 0) (.int .i64 0) (.int .i64 r) (.slice qa dl qc) (.slice none 0 0)
                  have HZZ := Lib.hid hzz
                  have HFZ := Lib.hid hfz
                  have HBZ : Hid (Below W.heap.size W wz) := Lib.hid (((HMS.out.fr.mono (T := fun q => q = Bd ∨ q = Z ∨ W1.heap.size ≤ q) (fun q e => by omega)).over hfz (fun q e => .inl (.inr (.inl e)))).bel HB1.out (fun q e => by have := HBB.out; have := HZE.out; omega))
                  have HFRZ : Hid (FrS (fun q => q ≤ X ∨ N3 ≤ q) w9 wz) := Lib.hid (HFR.out.over hfz (fun q e => .inl (.inl (by have := HBB.out; have := HNB.out; omega))))
                  clear hz hzz hfz x6
                  rename_i hKK
                  have HKK := Lib.hid hKK
                  clear hKK
                  go_wp2
                  try rw [hwz]
                  refine HKK.out _ _ ?_
                  refine wp_ret ?_
                  (try simp only [Exit.then])
                  refine bodyPost_ret (results_cell_row Try.results30 _ _ Z 34 _ (0, 0) _ rfl HZZ.out Try.underlying34 rfl (by kernel_rfl)) rfl ?_
                  refine ⟨_, ⟨C, A, ⟨0, 0, 0⟩, r, D, []⟩, rfl, fun U hU => ?_, HDO9.out, HBZ.out⟩
                  have hfu : FrS (fun q => q ≤ X ∨ N3 ≤ q) w9 U := HFRZ.out.over hU (fun q e => .inl (.inl (by have := HBB.out; have := HNB.out; have := HZE.out; omega)))
                  refine ⟨_, _, _, rfl, HCK3.out U hfu, HACK.out U hfu, ?_, rfl⟩
                  refine ((HNS.out.fr HFZ.out (fun q e => .inl (by have := HBB.out; have := HNB.out; omega))).fr hU (fun q e => .inl (by have := HBB.out; have := HNB.out; have := HZE.out; omega))).ds ?_
                  rw [HDL.out.1]
                  exact own_srcN (hU.own (HFZ.out.own HOW.out (fun q hq e => by have := (own_lt HOW.out hq).1; have := HN3.out; have := HNB.out; have := HBB.out; omega)) (fun q hq e => by have := (own_lt HOW.out hq).1; have := HN3.out; have := HNB.out; have := HBB.out; have := HZE.out; omega))
              · have hkk : ¬ (k : Int) < (n : Int) := by omega
                go_upto_region 30 with fail
                have HDO9 : Hid (MkOk ⟨C, A, ⟨0, 0, 0⟩, r, D, []⟩ n) := Lib.hid (MkOk.of hn HCC.out.2 (by rw [HCC.out.1]; omega) HAA.out.2 HCL.out (by rw [HAA.out.1]; omega) (by first | exact HHG.out | exact .inl ⟨rfl, rfl, rfl⟩) HAD.out (by rw [HDL.out.1]; exact hdl) (by rw [HPN.out]; exact HDO.out.1) (fun d hd => by
                  obtain ⟨a1, a2, a3⟩ := HDO.out.2 d hd
                  exact ⟨⟨a1.lo, a1.hi, by rw [a1.len, HPN.out, HPN.out], a1.all, fun h => by rw [HPN.out]; have h2 := a1.last h; rw [HPN.out] at h2; exact h2⟩, a2, by omega⟩))
                obtain ⟨q0, q1, q2, q3, q4, q5, q6, q7⟩ := HMS.out.cells
                dsimp only at q2 q3 q4
                have hz := HZ.out wr HMS.out.fr
                have z0 : wr.cell? ⟨Z, 0, none⟩ = some (.slice none 0 0) := nd_cell hz rfl
                have zf0 := nd_froz hz 0
                have z1 : wr.cell? ⟨Z, 1, none⟩ = some (.slice none 0 0) := nd_cell hz rfl
                have zf1 := nd_froz hz 1
                have z2 : wr.cell? ⟨Z, 2, none⟩ = some (.int .i64 0) := nd_cell hz rfl
                have zf2 := nd_froz hz 2
                have z3 : wr.cell? ⟨Z, 3, none⟩ = some (.int .i64 0) := nd_cell hz rfl
                have zf3 := nd_froz hz 3
                have z4 : wr.cell? ⟨Z, 4, none⟩ = some (.int .i64 0) := nd_cell hz rfl
                have zf4 := nd_froz hz 4
                have z5 : wr.cell? ⟨Z, 5, none⟩ = some (.int .i64 0) := nd_cell hz rfl
                have zf5 := nd_froz hz 5
                have z6 : wr.cell? ⟨Z, 6, none⟩ = some (.slice none 0 0) := nd_cell hz rfl
                have zf6 := nd_froz hz 6
                have z7 : wr.cell? ⟨Z, 7, none⟩ = some (.slice none 0 0) := nd_cell hz rfl
                have zf7 := nd_froz hz 7
                obtain ⟨wz, hwz, hzz, hfz⟩ := sto8 hz (.slice ca kc cc) (.slice aa ka ac) (.int .i64 0) (.int .i64 0) (.int .i64 0) (.int .i64 r) (.slice qa dl qc) (.slice none 0 0)
                have HZZ := Lib.hid hzz
                have HFZ := Lib.hid hfz
                have HBZ : Hid (Below W.heap.size W wz) := Lib.hid (((HMS.out.fr.mono (T := fun q => q = Bd ∨ q = Z ∨ W1.heap.size ≤ q) (fun q e => by omega)).over hfz (fun q e => .inl (.inr (.inl e)))).bel HB1.out (fun q e => by have := HBB.out; have := HZE.out; omega))
                have HFRZ : Hid (FrS (fun q => q ≤ X ∨ N3 ≤ q) w9 wz) := Lib.hid (HFR.out.over hfz (fun q e => .inl (.inl (by have := HBB.out; have := HNB.out; omega))))
                clear hz hzz hfz x6
                rename_i hKK
                have HKK := Lib.hid hKK
                clear hKK
                go_wp2
                try rw [hwz]
                refine HKK.out _ _ ?_
                refine wp_ret ?_
                (try simp only [Exit.then])
                refine bodyPost_ret (results_cell_row Try.results30 _ _ Z 34 _ (0, 0) _ rfl HZZ.out Try.underlying34 rfl (by kernel_rfl)) rfl ?_
                refine ⟨_, ⟨C, A, ⟨0, 0, 0⟩, r, D, []⟩, rfl, fun U hU => ?_, HDO9.out, HBZ.out⟩
                have hfu : FrS (fun q => q ≤ X ∨ N3 ≤ q) w9 U := HFRZ.out.over hU (fun q e => .inl (.inl (by have := HBB.out; have := HNB.out; have := HZE.out; omega)))
                refine ⟨_, _, _, rfl, HCK3.out U hfu, HACK.out U hfu, ?_, rfl⟩
                refine ((HNS.out.fr HFZ.out (fun q e => .inl (by have := HBB.out; have := HNB.out; omega))).fr hU (fun q e => .inl (by have := HBB.out; have := HNB.out; have := HZE.out; omega))).ds ?_
                rw [HDL.out.1]
                exact own_srcN (hU.own (HFZ.out.own HOW.out (fun q hq e => by have := (own_lt HOW.out hq).1; have := HN3.out; have := HNB.out; have := HBB.out; omega)) (fun q hq e => by have := (own_lt HOW.out hq).1; have := HN3.out; have := HNB.out; have := HBB.out; have := HZE.out; omega))
end Go.Proofs.Ytanppbdlcinpfaa
