/- Moves that numbers make. No conditions. -/
import Derived.Test.YtanppbdlcinpfaaOl37z
set_option linter.unusedSimpArgs false
set_option linter.unusedVariables false
namespace Go.Proofs.Ytanppbdlcinpfaa
set_option maxRecDepth 100000
set_option linter.unusedVariables false
open Go.RowKit Go.Deep
theorem own_cap2 {W : World} {B e k n : Nat} {a : Option Addr} {c : Nat} {U : List Value} (h : W.ownsRow B e k (.slice a n c) n U) : n ≤ c := by
  rcases h.2 with ⟨hv, hn⟩ | ⟨g, cap, cur, hv, _, _, hle, _⟩
  · omega
  · injection hv with h1 h2 h3; omega
/-- What a delta that was made is like. -/
structure MvOk (G : Gl) (rg : Nat) (ad : Int) (m : List (Int × Int)) : Prop where
  lo : -10 ≤ ad
  hi : ad ≤ 20
  len : m.length = OL.points G
  all : ∀ p ∈ m, (OL.mo p.1 && OL.mo p.2) = true
  last : G.hg.c = 0 → m.getD (OL.points G - 1) (0, 0) = (0, 0)
set_option maxHeartbeats 8000000 in
theorem rmoves_any (W : World) (v : Value) (G : Gl) (rg Bd lc : Nat) (la : Option Addr) (L : List Int) (hst : ∀ U, FrS (fun q => q = Bd) W U → GlAt U v G) (hok : GlOk G) (hp : OL.points G ≤ 1000) (hd : DwOk W Bd la lc L) (hL : L.length ≤ 9223372036854775807) (hrg : rg ≤ 1000) :
    Calls Try.prog 69 #[v, .int .i64 (rg : Int), .pointer (some ⟨Bd, 0, none⟩)] W fun e w' => ∃ (ad : Int) (a : Option Addr) (c : Nat) (m : List (Int × Int)), e = .returned (.agg #[.int .i64 (rg : Int), .int .i64 ad, .slice a m.length c]) ∧ MvOk G rg ad m ∧ m.length ≤ c ∧ SrcN 2 w' (.slice a m.length c) m.length (AX.prc m) ∧ (∀ g o, a = some ⟨g, o, none⟩ → W.heap.size ≤ g ∧ g < w'.heap.size) ∧ DwOk w' Bd la lc L ∧ FrS (fun q => q = Bd) W w' := by
  obtain ⟨ig, hig, hg0', hg1', hg2'⟩ := info_parts info_pr
  have hv := hst W (FrS.refl _ _)
  have HST := Lib.hid hst
  have HOK := Lib.hid hok
  obtain ⟨vc, va, vd, vp, rfl, h1, h2, h3, h4⟩ := hv
  obtain ⟨ca, ck, rfl⟩ := h1.shape
  obtain ⟨aa, ak, rfl⟩ := h2.shape
  obtain ⟨da, dk, rfl⟩ := h3.shape
  obtain ⟨⟨hc, hx, hy⟩, hhg⟩ : ∃ h, G.hg = h := ⟨_, rfl⟩
  obtain ⟨ad, had⟩ : ∃ a, G.ad = a := ⟨_, rfl⟩
  obtain ⟨cn, hcn⟩ : ∃ n, G.cs.length = n := ⟨_, rfl⟩
  obtain ⟨an, han⟩ : ∃ n, G.an.length = n := ⟨_, rfl⟩
  obtain ⟨dn, hdn⟩ : ∃ n, G.ds.length = n := ⟨_, rfl⟩
  obtain ⟨n, hn⟩ : ∃ n, OL.points G = n := ⟨_, rfl⟩
  rw [hhg, had, hcn, han, hdn] at HST ⊢
  rw [hn] at hp
  have HN : Hid (OL.points G = n) := Lib.hid hn
  have HHC : Hid (G.hg.c = hc) := Lib.hid (by rw [hhg])
  have HN1 : Hid (1 ≤ n) := Lib.hid (by rw [← hn]; unfold OL.points; omega)
  have HD0 := Lib.hid hd
  have HLL := Lib.hid hL
  clear hst hok h1 h2 h3 h4 hhg had hcn han hdn hn hd hL
  obtain ⟨B, hB⟩ : ∃ B, W.heap.size = B := ⟨_, rfl⟩
  have x0 := heap_alloc_new W (.cells #[.slice ca cn ck, .slice aa an ak, .int .i64 hc, .int .i64 hx, .int .i64 hy, .int .i64 ad, .slice da dn dk, vp] 34)
  have x1 := heap_alloc_new (W.alloc (.cells #[.slice ca cn ck, .slice aa an ak, .int .i64 hc, .int .i64 hx, .int .i64 hy, .int .i64 ad, .slice da dn dk, vp] 34)) (.cells #[.int .i64 0, .int .i64 0, .slice none 0 0] 70)
  have bb := balloc (Below.refl _ (W.alloc (.cells #[.slice ca cn ck, .slice aa an ak, .int .i64 hc, .int .i64 hx, .int .i64 hy, .int .i64 ad, .slice da dn dk, vp] 34))) (.cells #[.int .i64 0, .int .i64 0, .slice none 0 0] 70)
  have hb1 := balloc (balloc (Below.refl _ W) (.cells #[.slice ca cn ck, .slice aa an ak, .int .i64 hc, .int .i64 hx, .int .i64 hy, .int .i64 ad, .slice da dn dk, vp] 34)) (.cells #[.int .i64 0, .int .i64 0, .slice none 0 0] 70)
  simp only [World.size_alloc] at x1 bb
  obtain ⟨W1, hW1⟩ : ∃ W1, (W.alloc (.cells #[.slice ca cn ck, .slice aa an ak, .int .i64 hc, .int .i64 hx, .int .i64 hy, .int .i64 ad, .slice da dn dk, vp] 34)).alloc (.cells #[.int .i64 0, .int .i64 0, .slice none 0 0] 70) = W1 := ⟨_, rfl⟩
  rw [hW1] at x1 bb hb1
  rw [hB] at x0 x1 bb
  have x0' := (bb.block B (by omega)).trans x0
  have HB1 := Lib.hid hb1
  have HX := Lib.hid hB
  have HBD : Hid (Bd < B ∧ B + 1 < W1.heap.size) := Lib.hid ⟨by rw [← hB]; exact HD0.out.lt, (Array.getElem?_eq_some_iff.1 x1).1⟩
  have HGB : Hid (∀ U, FrS (fun q => q = Bd ∨ W1.heap.size ≤ q) W1 U → U.heap[B]? = some (.cells #[.slice ca cn ck, .slice aa an ak, .int .i64 hc, .int .i64 hx, .int .i64 hy, .int .i64 ad, .slice da dn dk, vp] 34)) := Lib.hid fun U hU => hU.nd x0' (by have := HBD.out; omega)
  have HZ : Hid (∀ U, FrS (fun q => q = Bd ∨ W1.heap.size ≤ q) W1 U → U.heap[B + 1]? = some (.cells #[.int .i64 0, .int .i64 0, .slice none 0 0] 70)) := Lib.hid fun U hU => hU.nd x1 (by have := HBD.out; omega)
  have HFW : Hid (∀ U, FrS (fun q => q = Bd ∨ W1.heap.size ≤ q) W1 U → FrS (fun q => q = Bd) W U) := Lib.hid fun U hU => (FrS.of HB1.out).over hU (fun b hb => by have := HB1.out.size; omega)
  clear x0 x1 x0' bb hb1
  go_enter Try.func69, Try.ntmps69
  go_upto_region 1 with fail
  try rw [show W.heap.size + 1 = B + 1 by rw [hB]]
  try rw [hB]
  try rw [hW1]
  clear hW1 hB
  have HC := Lib.hid (nxt_any (HD0.out.keep HB1.out) HLL.out 30 (by omega) (by omega))
  go_wp2_with fail
  go_at_call 68
  refine HC.out.mono ?_
  rintro e w2 ⟨r, rfl, lr, ur, hd2, hf2⟩
  clear HC
  have HD2 := Lib.hid hd2
  have HF2 : Hid (FrS (fun q => q = Bd ∨ W1.heap.size ≤ q) W1 w2) := Lib.hid (hf2.mono (fun q e => .inl e))
  clear hd2 hf2
  have hxn := heap_alloc_new w2 (.cells #[.int .i64 0, .int .i64 0, .slice none 0 0] 70)
  have hbn := balloc (Below.refl _ w2) (.cells #[.int .i64 0, .int .i64 0, .slice none 0 0] 70)
  obtain ⟨X, hX⟩ : ∃ X, w2.heap.size = X := ⟨_, rfl⟩
  obtain ⟨wa, hwa⟩ : ∃ wa, w2.alloc (.cells #[.int .i64 0, .int .i64 0, .slice none 0 0] 70) = wa := ⟨_, rfl⟩
  have HXo : Hid (X = w2.heap.size) := Lib.hid hX.symm
  rw [hX, hwa] at hxn
  rw [hwa] at hbn
  have bc0 : wa.cell? ⟨X, 0, none⟩ = some (.int .i64 0) := nd_cell hxn rfl
  have bc1 : wa.cell? ⟨X, 1, none⟩ = some (.int .i64 0) := nd_cell hxn rfl
  have bc2 : wa.cell? ⟨X, 2, none⟩ = some (.slice none 0 0) := nd_cell hxn rfl
  have bf0 := nd_froz hxn 0
  have bf1 := nd_froz hxn 1
  have bf2 := nd_froz hxn 2
  obtain ⟨w3, hwx, hxx, hfx⟩ := sto3 hxn (.int .i64 (rg : Int)) (.int .i64 (r - 10)) (.slice none 0 0)
  have HXX := Lib.hid hxx
  have HBX := Lib.hid (hfx.below w2 hbn (fun b hb => by rw [hb, HXo.out]; exact Nat.le_refl _))
  clear hxx hfx hbn hxn
  go_upto_region 2 with fail
  try rw [hwx]
  clear bc0 bf0 bc1 bf1 bc2 bf2 hwx hX hwa
  have HD3 := Lib.hid (HD2.out.keep HBX.out)
  have HF3 := Lib.hid (HF2.out.then HBX.out)
  have HXL : Hid (W1.heap.size ≤ X) := Lib.hid (by rw [HXo.out]; exact HF2.out.size)
  obtain ⟨av, hav⟩ : ∃ z, r - 10 = z := ⟨_, rfl⟩
  have HAV : Hid (-10 ≤ av ∧ av ≤ 20) := Lib.hid (by omega)
  rw [hav] at HXX
  clear hav lr ur HBX
  have hgb := HGB.out w3 HF3.out
  have g0 : w3.cell? ⟨B, 0, none⟩ = some (.slice ca cn ck) := nd_cell hgb rfl
  have g1 : w3.cell? ⟨B, 1, none⟩ = some (.slice aa an ak) := nd_cell hgb rfl
  have g2 : w3.cell? ⟨B, 2, none⟩ = some (.int .i64 hc) := nd_cell hgb rfl
  have g3 : w3.cell? ⟨B, 3, none⟩ = some (.int .i64 hx) := nd_cell hgb rfl
  have g4 : w3.cell? ⟨B, 4, none⟩ = some (.int .i64 hy) := nd_cell hgb rfl
  have g5 : w3.cell? ⟨B, 5, none⟩ = some (.int .i64 ad) := nd_cell hgb rfl
  have g6 : w3.cell? ⟨B, 6, none⟩ = some (.slice da dn dk) := nd_cell hgb rfl
  have g7 : w3.cell? ⟨B, 7, none⟩ = some (vp) := nd_cell hgb rfl
  have HPC := Lib.hid (rpoints_any w3 _ G (HST.out w3 (HFW.out w3 HF3.out)) HOK.out)
  rw [HN.out] at HPC
  clear hgb
  go_wp2_with fail
  go_at_call 24
  refine HPC.out.mono ?_
  rintro e w4 ⟨rfl, k4⟩
  have HX4 := Lib.hid ((k4.block X (Array.getElem?_eq_some_iff.1 HXX.out).1).trans HXX.out)
  have HD4 := Lib.hid (HD3.out.keep k4)
  have HF4 := Lib.hid (HF3.out.then k4)
  clear HPC k4 g0 g1 g2 g3 g4 g5 g6 g7
  go_upto_region 4 with fail
  go_loopw [9] (fun v9 wr => ∃ (k : Nat) (qa : Option Addr) (qc : Nat) (m : List (Int × Int)), v9 = .int .i64 (k : Int) ∧ k ≤ n ∧ Hid (wr.heap[X]? = some (.cells #[.int .i64 (rg : Int), .int .i64 av, .slice qa k qc] 70 (0, 0))) ∧ Hid (wr.ownsRow (X + 1) 72 2 (.slice qa k qc) k (AX.prc m)) ∧ Hid (m.length = k ∧ (∀ p ∈ m, (OL.mo p.1 && OL.mo p.2) = true) ∧ (k = n → hc = 0 → m.getD (n - 1) (0, 0) = (0, 0))) ∧ Hid (DwOk wr Bd la lc L) ∧ Hid (FrS (fun q => q = Bd ∨ W1.heap.size ≤ q) W1 wr)) (fun v9 _ => n - (intOf v9).toNat)
  case atStart => exact ⟨0, none, 0, [], rfl, Nat.zero_le _, HX4, Lib.hid ⟨rfl, .inl ⟨rfl, rfl⟩⟩, Lib.hid ⟨rfl, fun p hp => by simp at hp, fun h => by have := HN1.out; omega⟩, HD4, HF4⟩
  case round =>
    obtain ⟨k, qa, qc, m, rfl, hk, HXB, HOW, HM, HDW, HF⟩ := hrel
    by_cases hkn : k < n
    · have hkk : (k : Int) < (n : Int) := by omega
      have hk0 : (0 : Int) ≤ (k : Int) := by omega
      go_upto_region 6 with fail
      have HC := Lib.hid (nxt_any HDW.out HLL.out 21 (by omega) (by omega))
      go_wp2_with fail
      go_at_call 68
      refine HC.out.mono ?_
      rintro e w5 ⟨r1, rfl, lr1, ur1, hd5, hf5⟩
      clear HC
      have HD5 := Lib.hid hd5
      have HF5 := Lib.hid hf5
      clear hd5 hf5
      have HC := Lib.hid (nxt_any HD5.out HLL.out 21 (by omega) (by omega))
      go_wp2_with fail
      go_at_call 68
      refine HC.out.mono ?_
      rintro e w6 ⟨r2, rfl, lr2, ur2, hd6, hf6⟩
      clear HC
      have HD6 := Lib.hid hd6
      have HF6 : Hid (FrS (fun q => q = Bd) wr w6) := Lib.hid (HF5.out.trans hf6)
      clear hd6 hf6
      have hxn := heap_alloc_new w6 (.cells #[.int .i64 0, .int .i64 0] 72)
      have hbn := balloc (Below.refl _ w6) (.cells #[.int .i64 0, .int .i64 0] 72)
      obtain ⟨M, hX⟩ : ∃ M, w6.heap.size = M := ⟨_, rfl⟩
      obtain ⟨wam, hwa⟩ : ∃ wam, w6.alloc (.cells #[.int .i64 0, .int .i64 0] 72) = wam := ⟨_, rfl⟩
      have HXom : Hid (M = w6.heap.size) := Lib.hid hX.symm
      rw [hX, hwa] at hxn
      rw [hwa] at hbn
      have bc0 : wam.cell? ⟨M, 0, none⟩ = some (.int .i64 0) := nd_cell hxn rfl
      have bc1 : wam.cell? ⟨M, 1, none⟩ = some (.int .i64 0) := nd_cell hxn rfl
      have bf0 := nd_froz hxn 0
      have bf1 := nd_froz hxn 1
      obtain ⟨w7, hwx, hxx, hfx⟩ := sto2 hxn (.int .i64 (r1 - 10)) (.int .i64 (r2 - 10))
      have HXXm := Lib.hid hxx
      have HBXm := Lib.hid (hfx.below w6 hbn (fun b hb => by rw [hb, HXom.out]; exact Nat.le_refl _))
      clear hxx hfx hbn hxn
      go_upto_region 7 with fail
      try rw [hwx]
      clear bc0 bf0 bc1 bf1 hwx hX hwa
      obtain ⟨p1, hp1⟩ : ∃ z, r1 - 10 = z := ⟨_, rfl⟩
      obtain ⟨p2, hp2⟩ : ∃ z, r2 - 10 = z := ⟨_, rfl⟩
      have hpb : -10 ≤ p1 ∧ p1 ≤ 10 ∧ -10 ≤ p2 ∧ p2 ≤ 10 := by omega
      have HPB := Lib.hid hpb
      rw [hp1, hp2] at HXXm
      clear hp1 hp2 hpb lr1 ur1 lr2 ur2
      have HF7 : Hid (FrS (fun q => q = Bd) wr w7) := Lib.hid (HF6.out.then HBXm.out)
      have HD7 := Lib.hid (HD6.out.keep HBXm.out)
      have HXw : Hid (X < wr.heap.size) := Lib.hid (Array.getElem?_eq_some_iff.1 HXB.out).1
      have HMX : Hid (X < M ∧ wr.heap.size ≤ M) := Lib.hid ⟨by have := HXw.out; have := HXom.out; have := HF6.out.size; omega, by have := HXom.out; have := HF6.out.size; omega⟩
      have HOW7 : Hid (w7.ownsRow (X + 1) 72 2 (.slice qa k qc) k (AX.prc m)) := Lib.hid (HF7.out.own HOW.out (fun q hq e => by have := (own_lt HOW.out hq).1; have := HXL.out; have := HBD.out; omega))
      have HXB7 : Hid (w7.heap[X]? = some (.cells #[.int .i64 (rg : Int), .int .i64 av, .slice qa k qc] 70 (0, 0))) := Lib.hid (HF7.out.nd HXB.out (by have := HXL.out; have := HBD.out; omega))
      have HGW := Lib.hid (HGB.out w7 (HF.out.over HF7.out (fun b hb => .inl (.inl hb))))
      have HF17 : Hid (FrS (fun q => q = Bd ∨ W1.heap.size ≤ q) W1 w7) := Lib.hid (HF.out.over HF7.out (fun b hb => .inl (.inl hb)))
      by_cases hl : k + 1 = n
      · have hq1 : ((k : Int) == (n : Int) - 1) = true := by rw [beq_iff_eq]; omega
        have gC : w7.cell? ⟨B, 2, none⟩ = some (.int .i64 hc) := nd_cell HGW.out rfl
        by_cases h0 : hc = 0
        · have hq2 : (hc == 0) = true := by rw [beq_iff_eq]; exact h0
          have HL0 : Hid (k + 1 = n) := Lib.hid hl
          clear hl h0
          go_upto_region 8 with fail
          have m0 : w7.cell? ⟨M, 0, none⟩ = some (.int .i64 p1) := nd_cell HXXm.out rfl
          have m1 : w7.cell? ⟨M, 1, none⟩ = some (.int .i64 p2) := nd_cell HXXm.out rfl
          have mf0 := nd_froz HXXm.out 0
          have mf1 := nd_froz HXXm.out 1
          obtain ⟨w9, hw9, hmm, hf9⟩ := sto2 HXXm.out (.int .i64 0) (.int .i64 0)
          have HMM := Lib.hid hmm
          have HF9 := Lib.hid hf9
          clear hmm hf9
          go_upto_region 9 with fail
          try rw [hw9]
          clear hw9 m0 m1 mf0 mf1 gC hq1 hq2
          have HOW9 : Hid (w9.ownsRow (X + 1) 72 2 (.slice qa k qc) k (AX.prc m)) := Lib.hid (HF9.out.own HOW7.out (fun q hq e => by have := (own_lt HOW.out hq).2; have := HMX.out; omega))
          have HXB9 : Hid (w9.heap[X]? = some (.cells #[.int .i64 (rg : Int), .int .i64 av, .slice qa k qc] 70 (0, 0))) := Lib.hid (HF9.out.nd HXB7.out (by have := HMX.out; omega))
          have HD9 : Hid (DwOk w9 Bd la lc L) := Lib.hid (HD7.out.fr HF9.out (fun q e => by have := HMX.out; have := HXL.out; have := HBD.out; omega))
          have HF19 : Hid (FrS (fun q => q = Bd ∨ W1.heap.size ≤ q) W1 w9) := Lib.hid (HF17.out.over HF9.out (fun q e => by have := HMX.out; have := HXL.out; exact .inl (.inr (by omega))))
          have HLST : Hid (k + 1 = n → hc = 0 → (m ++ [((0 : Int), (0 : Int))]).getD (n - 1) (0, 0) = (0, 0)) := Lib.hid fun h _ => by
            rw [List.getD_eq_getElem?_getD, List.getElem?_append_right (by rw [HM.out.1]; omega), HM.out.1, show n - 1 - k = 0 by omega]
            rfl
          have q2 : w9.cell? ⟨X, 2, none⟩ = some (.slice qa k qc) := nd_cell HXB9.out rfl
          have n0 : w9.cell? ⟨M, 0, none⟩ = some (.int .i64 0) := nd_cell HMM.out rfl
          have n1 : w9.cell? ⟨M, 1, none⟩ = some (.int .i64 0) := nd_cell HMM.out rfl
          have HSZ : Hid (X + 1 ≤ w9.heap.size) := Lib.hid (Array.getElem?_eq_some_iff.1 HXB9.out).1
          clear hkk
          go_upto_region 5 with (at_builtin; refine wpList_appN _ rfl _ _ 68 rfl (X + 1) 72 ig (.agg #[.int .i64 0, .int .i64 0]) 2 16 Try.underlying68 hig hg0' hg1' hg2' rfl (by decide) _ k _ rfl (own_below HOW9.out (balloc (Below.refl _ _) _)) _ 1 (AX.prc [((0 : Int), (0 : Int))]) rfl (srcN_new _ (AX.prc [((0 : Int), (0 : Int))]) _ 2 1 1 rfl) (AX.prc_one _) (by unfold maxLen; omega) (by omega) (by have := HSZ.out; simp; omega) ?_; intro v8 w8 hown hgrow hor; obtain ⟨na, nc, rfl⟩ := own_shape hown; have hf8 : FrS (fun q => (Value.slice qa k qc).ownBlock = some q) w9 w8 := (FrS.of (balloc (Below.refl _ w9) (.cells #[.int .i64 0, .int .i64 0] 72))).grow hgrow (fun q e => .inl e); have hx8 := hf8.nd HXB9.out (fun e => by have := (own_lt HOW9.out e).1; omega); have hc8 := nd_cell (i := 2) hx8 rfl; have hz8 := nd_froz hx8 2)
          have HXB8 : Hid ((w8.setCell ⟨X, 2, none⟩ (.slice na (k + 1) nc)).heap[X]? = some (.cells #[.int .i64 (rg : Int), .int .i64 av, .slice na (k + 1) nc] 70 (0, 0))) := Lib.hid (heap_setCell_same w8 X 2 _ _ (.slice na (k + 1) nc) hx8)
          have HOW8 : Hid ((w8.setCell ⟨X, 2, none⟩ (.slice na (k + 1) nc)).ownsRow (X + 1) 72 2 (.slice na (k + 1) nc) (k + 1) (AX.prc (m ++ [((0 : Int), (0 : Int))]))) := Lib.hid (by
            rw [AX.prc_app]
            exact (FrS.one w8 X 2 _).own hown (fun q hq e => by have := (own_lt hown hq).1; omega))
          have HD8 : Hid (DwOk (w8.setCell ⟨X, 2, none⟩ (.slice na (k + 1) nc)) Bd la lc L) := Lib.hid ((HD9.out.fr hf8 (fun q e => by have := (own_lt HOW9.out e).1; have := HXL.out; have := HBD.out; omega)).fr (FrS.one w8 X 2 _) (fun q e => by have := HXL.out; have := HBD.out; omega))
          have HF8 : Hid (FrS (fun q => q = Bd ∨ W1.heap.size ≤ q) W1 (w8.setCell ⟨X, 2, none⟩ (.slice na (k + 1) nc))) := Lib.hid ((HF19.out.over hf8 (fun q e => by have := (own_lt HOW9.out e).1; have := HXL.out; exact .inl (.inr (by omega)))).put (.inl (.inr HXL.out)) _)
          clear hown hgrow hor hf8 hx8 hc8 hz8 q2 n0 n1
          go_wp2
          go_roundw
          case rel => exact ⟨k + 1, na, nc, m ++ [((0 : Int), (0 : Int))], by go_num, by omega, HXB8, HOW8, Lib.hid ⟨by rw [List.length_append, HM.out.1]; rfl, fun p hp => by
            rcases List.mem_append.1 hp with h | h
            · exact HM.out.2.1 p h
            · rw [List.mem_singleton.1 h]
              rfl, HLST.out⟩, HD8, HF8⟩
          case measure => simp [intOf]; omega
        · have hq2 : (hc == 0) = false := by rw [beq_eq_false_iff_ne]; exact h0
          have HLST : Hid (k + 1 = n → hc = 0 → (m ++ [(p1, p2)]).getD (n - 1) (0, 0) = (0, 0)) := Lib.hid fun _ h => absurd h h0
          clear h0 hl
          go_upto_region 9 with fail
          have q2 : w7.cell? ⟨X, 2, none⟩ = some (.slice qa k qc) := nd_cell HXB7.out rfl
          have n0 : w7.cell? ⟨M, 0, none⟩ = some (.int .i64 p1) := nd_cell HXXm.out rfl
          have n1 : w7.cell? ⟨M, 1, none⟩ = some (.int .i64 p2) := nd_cell HXXm.out rfl
          have HSZ : Hid (X + 1 ≤ w7.heap.size) := Lib.hid (Array.getElem?_eq_some_iff.1 HXB7.out).1
          clear hkk
          go_upto_region 5 with (at_builtin; refine wpList_appN _ rfl _ _ 68 rfl (X + 1) 72 ig (.agg #[.int .i64 0, .int .i64 0]) 2 16 Try.underlying68 hig hg0' hg1' hg2' rfl (by decide) _ k _ rfl (own_below HOW7.out (balloc (Below.refl _ _) _)) _ 1 (AX.prc [(p1, p2)]) rfl (srcN_new _ (AX.prc [(p1, p2)]) _ 2 1 1 rfl) (AX.prc_one _) (by unfold maxLen; omega) (by omega) (by have := HSZ.out; simp; omega) ?_; intro v8 w8 hown hgrow hor; obtain ⟨na, nc, rfl⟩ := own_shape hown; have hf8 : FrS (fun q => (Value.slice qa k qc).ownBlock = some q) w7 w8 := (FrS.of (balloc (Below.refl _ w7) (.cells #[.int .i64 p1, .int .i64 p2] 72))).grow hgrow (fun q e => .inl e); have hx8 := hf8.nd HXB7.out (fun e => by have := (own_lt HOW7.out e).1; omega); have hc8 := nd_cell (i := 2) hx8 rfl; have hz8 := nd_froz hx8 2)
          have HXB8 : Hid ((w8.setCell ⟨X, 2, none⟩ (.slice na (k + 1) nc)).heap[X]? = some (.cells #[.int .i64 (rg : Int), .int .i64 av, .slice na (k + 1) nc] 70 (0, 0))) := Lib.hid (heap_setCell_same w8 X 2 _ _ (.slice na (k + 1) nc) hx8)
          have HOW8 : Hid ((w8.setCell ⟨X, 2, none⟩ (.slice na (k + 1) nc)).ownsRow (X + 1) 72 2 (.slice na (k + 1) nc) (k + 1) (AX.prc (m ++ [(p1, p2)]))) := Lib.hid (by
            rw [AX.prc_app]
            exact (FrS.one w8 X 2 _).own hown (fun q hq e => by have := (own_lt hown hq).1; omega))
          have HD8 : Hid (DwOk (w8.setCell ⟨X, 2, none⟩ (.slice na (k + 1) nc)) Bd la lc L) := Lib.hid ((HD7.out.fr hf8 (fun q e => by have := (own_lt HOW7.out e).1; have := HXL.out; have := HBD.out; omega)).fr (FrS.one w8 X 2 _) (fun q e => by have := HXL.out; have := HBD.out; omega))
          have HF8 : Hid (FrS (fun q => q = Bd ∨ W1.heap.size ≤ q) W1 (w8.setCell ⟨X, 2, none⟩ (.slice na (k + 1) nc))) := Lib.hid ((HF17.out.over hf8 (fun q e => by have := (own_lt HOW7.out e).1; have := HXL.out; exact .inl (.inr (by omega)))).put (.inl (.inr HXL.out)) _)
          clear hown hgrow hor hf8 hx8 hc8 hz8 q2 n0 n1
          go_wp2
          go_roundw
          case rel => exact ⟨k + 1, na, nc, m ++ [(p1, p2)], by go_num, by omega, HXB8, HOW8, Lib.hid ⟨by rw [List.length_append, HM.out.1]; rfl, fun p hp => by
            rcases List.mem_append.1 hp with h | h
            · exact HM.out.2.1 p h
            · rw [List.mem_singleton.1 h]
              have := HPB.out; unfold OL.mo; rw [decide_eq_true (show -64 ≤ p1 by omega), decide_eq_true (show p1 ≤ 64 by omega), decide_eq_true (show -64 ≤ p2 by omega), decide_eq_true (show p2 ≤ 64 by omega)]; rfl, HLST.out⟩, HD8, HF8⟩
          case measure => simp [intOf]; omega
      · have hq1 : ((k : Int) == (n : Int) - 1) = false := by rw [beq_eq_false_iff_ne]; omega
        have HLST : Hid (k + 1 = n → hc = 0 → (m ++ [(p1, p2)]).getD (n - 1) (0, 0) = (0, 0)) := Lib.hid fun h => absurd h hl
        clear hl
        go_upto_region 9 with fail
        have q2 : w7.cell? ⟨X, 2, none⟩ = some (.slice qa k qc) := nd_cell HXB7.out rfl
        have n0 : w7.cell? ⟨M, 0, none⟩ = some (.int .i64 p1) := nd_cell HXXm.out rfl
        have n1 : w7.cell? ⟨M, 1, none⟩ = some (.int .i64 p2) := nd_cell HXXm.out rfl
        have HSZ : Hid (X + 1 ≤ w7.heap.size) := Lib.hid (Array.getElem?_eq_some_iff.1 HXB7.out).1
        clear hkk
        go_upto_region 5 with (at_builtin; refine wpList_appN _ rfl _ _ 68 rfl (X + 1) 72 ig (.agg #[.int .i64 0, .int .i64 0]) 2 16 Try.underlying68 hig hg0' hg1' hg2' rfl (by decide) _ k _ rfl (own_below HOW7.out (balloc (Below.refl _ _) _)) _ 1 (AX.prc [(p1, p2)]) rfl (srcN_new _ (AX.prc [(p1, p2)]) _ 2 1 1 rfl) (AX.prc_one _) (by unfold maxLen; omega) (by omega) (by have := HSZ.out; simp; omega) ?_; intro v8 w8 hown hgrow hor; obtain ⟨na, nc, rfl⟩ := own_shape hown; have hf8 : FrS (fun q => (Value.slice qa k qc).ownBlock = some q) w7 w8 := (FrS.of (balloc (Below.refl _ w7) (.cells #[.int .i64 p1, .int .i64 p2] 72))).grow hgrow (fun q e => .inl e); have hx8 := hf8.nd HXB7.out (fun e => by have := (own_lt HOW7.out e).1; omega); have hc8 := nd_cell (i := 2) hx8 rfl; have hz8 := nd_froz hx8 2)
        have HXB8 : Hid ((w8.setCell ⟨X, 2, none⟩ (.slice na (k + 1) nc)).heap[X]? = some (.cells #[.int .i64 (rg : Int), .int .i64 av, .slice na (k + 1) nc] 70 (0, 0))) := Lib.hid (heap_setCell_same w8 X 2 _ _ (.slice na (k + 1) nc) hx8)
        have HOW8 : Hid ((w8.setCell ⟨X, 2, none⟩ (.slice na (k + 1) nc)).ownsRow (X + 1) 72 2 (.slice na (k + 1) nc) (k + 1) (AX.prc (m ++ [(p1, p2)]))) := Lib.hid (by
          rw [AX.prc_app]
          exact (FrS.one w8 X 2 _).own hown (fun q hq e => by have := (own_lt hown hq).1; omega))
        have HD8 : Hid (DwOk (w8.setCell ⟨X, 2, none⟩ (.slice na (k + 1) nc)) Bd la lc L) := Lib.hid ((HD7.out.fr hf8 (fun q e => by have := (own_lt HOW7.out e).1; have := HXL.out; have := HBD.out; omega)).fr (FrS.one w8 X 2 _) (fun q e => by have := HXL.out; have := HBD.out; omega))
        have HF8 : Hid (FrS (fun q => q = Bd ∨ W1.heap.size ≤ q) W1 (w8.setCell ⟨X, 2, none⟩ (.slice na (k + 1) nc))) := Lib.hid ((HF17.out.over hf8 (fun q e => by have := (own_lt HOW7.out e).1; have := HXL.out; exact .inl (.inr (by omega)))).put (.inl (.inr HXL.out)) _)
        clear hown hgrow hor hf8 hx8 hc8 hz8 q2 n0 n1
        go_wp2
        go_roundw
        case rel => exact ⟨k + 1, na, nc, m ++ [(p1, p2)], by go_num, by omega, HXB8, HOW8, Lib.hid ⟨by rw [List.length_append, HM.out.1]; rfl, fun p hp => by
          rcases List.mem_append.1 hp with h | h
          · exact HM.out.2.1 p h
          · rw [List.mem_singleton.1 h]
            have := HPB.out; unfold OL.mo; rw [decide_eq_true (show -64 ≤ p1 by omega), decide_eq_true (show p1 ≤ 64 by omega), decide_eq_true (show -64 ≤ p2 by omega), decide_eq_true (show p2 ≤ 64 by omega)]; rfl, HLST.out⟩, HD8, HF8⟩
        case measure => simp [intOf]; omega
    · have hkk : ¬ (k : Int) < (n : Int) := by omega
      obtain rfl : k = n := by omega
      have hz := HZ.out wr HF.out
      have z0 : wr.cell? ⟨B + 1, 0, none⟩ = some (.int .i64 0) := nd_cell hz rfl
      have zf0 := nd_froz hz 0
      have z1 : wr.cell? ⟨B + 1, 1, none⟩ = some (.int .i64 0) := nd_cell hz rfl
      have zf1 := nd_froz hz 1
      have z2 : wr.cell? ⟨B + 1, 2, none⟩ = some (.slice none 0 0) := nd_cell hz rfl
      have zf2 := nd_froz hz 2
      have q0 : wr.cell? ⟨X, 0, none⟩ = some (.int .i64 (rg : Int)) := nd_cell HXB.out rfl
      have q1 : wr.cell? ⟨X, 1, none⟩ = some (.int .i64 av) := nd_cell HXB.out rfl
      have q2 : wr.cell? ⟨X, 2, none⟩ = some (.slice qa k qc) := nd_cell HXB.out rfl
      obtain ⟨wz, hwz, hzz, hfz⟩ := sto3 hz (.int .i64 (rg : Int)) (.int .i64 av) (.slice qa k qc)
      have HZZ := Lib.hid hzz
      have HFZ := Lib.hid hfz
      have HOZ : Hid (wz.ownsRow (X + 1) 72 2 (.slice qa k qc) k (AX.prc m)) := Lib.hid (hfz.own HOW.out (fun q hq e => by have := (own_lt HOW.out hq).1; have := HXL.out; have := HBD.out; omega))
      have HFF : Hid (FrS (fun q => q = Bd) W wz) := Lib.hid ((HFW.out wr HF.out).over hfz (fun b hb => by have := HX.out; omega))
      have HDZ : Hid (DwOk wz Bd la lc L) := Lib.hid (HDW.out.fr hfz (fun q hq => by have := HBD.out; omega))
      clear hz hzz hfz hkn
      go_wp2
      try rw [hwz]
      refine bodyPost_ret (results_cell_row Try.results69 _ _ (B + 1) 70 _ (0, 0) _ rfl HZZ.out Try.underlying70 rfl (by kernel_rfl)) rfl ?_
      obtain ⟨hm1, hm2, hm3⟩ := HM.out
      have hcap : m.length ≤ qc := by rw [hm1]; exact own_cap2 HOZ.out
      refine ⟨av, qa, qc, m, by rw [hm1], ⟨HAV.out.1, HAV.out.2, by rw [hm1]; exact HN.out.symm, hm2, by rw [HHC.out, HN.out]; exact hm3 (by first | trivial | rfl)⟩, hcap, by rw [hm1]; exact own_srcN HOZ.out, fun g o e => ?_, HDZ.out, HFF.out⟩
      have := own_lt HOZ.out (q := g) (by rw [e]; rfl)
      have := HXL.out
      have := HBD.out
      have := HX.out
      omega
end Go.Proofs.Ytanppbdlcinpfaa
