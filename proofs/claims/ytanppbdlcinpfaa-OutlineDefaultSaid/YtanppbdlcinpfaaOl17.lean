/- Drawing an outline. No conditions. -/
import Derived.Test.YtanppbdlcinpfaaOl17f
set_option linter.unusedSimpArgs false
set_option linter.unusedVariables false
namespace Go.Proofs.Ytanppbdlcinpfaa
set_option maxRecDepth 100000
set_option linter.unusedVariables false
open Go.RowKit Go.Shelf Go.Deep
attribute [local go_sem] Oper.semAt_some
set_option maxHeartbeats 16000000 in
theorem draw_in (m : Nat) (hm : 3 ≤ m) (W : World) (v : Value) (G : Gl) (vr va : Value) (R : List (List AX.Tn)) (at' : List Int) (vc vA vd vp : Value) (hc hx hy ad : Int) (hgl : G.hg = ⟨hc, hx, hy⟩) (had : G.ad = ad) (h1 : CsAt W vc G.cs) (h2 : AcAt W vA G.an) (h3 : DsAt W vd G.ds) (hok : GlOk G) (hr : RgAt W vr R) (ha : InAt W va at') (hR : R.length ≤ 1000) (hRR : ∀ r ∈ R, r.length ≤ 1000) (hal : at'.length ≤ 1000) (hmv : ∀ d ∈ G.ds, d.m.length = OL.points G) (h4 : MvAt W vp G.pr) (hp40 : OL.points G ≤ 9000) :
    CallsIn Fence.wide m Try.prog 35 #[.agg #[vc, vA, .int .i64 hc, .int .i64 hx, .int .i64 hy, .int .i64 ad, vd, vp], .func (.func 36) #[.agg #[vr, va, vd]] #[]] W fun e W' => ∃ v', e = .returned v' ∧ (∀ U, FrS (fun b => b < W.heap.size) W' U → DrAt U v' (OL.draw G R at')) ∧ Below W.heap.size W W' := by
  have h1m : 1 ≤ m := by omega
  have HGL : Hid (∀ U, Below W.heap.size W U → GlAt U (.agg #[vc, vA, .int .i64 hc, .int .i64 hx, .int .i64 hy, .int .i64 ad, vd, vp]) G) := Lib.hid fun U hU => ⟨vc, vA, vd, vp, by rw [hgl, had], h1.keep hU, h2.keep hU, h3.keep hU, h4.keep hU⟩
  obtain ⟨ca, ck, rfl⟩ := h1.shape
  obtain ⟨aa, ak, rfl⟩ := h2.shape
  obtain ⟨da, dk, rfl⟩ := h3.shape
  obtain ⟨C, hC⟩ : ∃ C, G.cs = C := ⟨_, rfl⟩
  obtain ⟨A, hA⟩ : ∃ A, G.an = A := ⟨_, rfl⟩
  obtain ⟨D, hD⟩ : ∃ D, G.ds = D := ⟨_, rfl⟩
  have HDR : Hid (OL.draw G R at' = ⟨tcs (OL.sx R at' D) 0 C, tan (OL.sx R at' D) (OL.pts C) A, ⟨hc, OL.sx R at' D (OL.points G - 1) 0 hx, OL.sx R at' D (OL.points G - 1) 1 hy⟩, (AX.sum ad (D.map fun d => (d.r, OL.av d)) R at').1⟩) := Lib.hid (by unfold OL.draw; rw [hC, hA, hD, hgl, had])
  have HOKG := Lib.hid hok
  have HOKC := Lib.hid (show CsOk C by rw [← hC]; exact hok.cs)
  have HLB : Hid (A.length ≤ 1000 ∧ D.length ≤ 1000) := Lib.hid ⟨by rw [← hA]; exact hok.an, by rw [← hD]; exact hok.ds⟩
  have HNP : Hid (OL.points G = A.length + 1 + OL.pts C) := Lib.hid (by unfold OL.points; rw [hC, hA])
  have HMV : Hid (∀ d ∈ D, d.m.length = OL.points G) := Lib.hid (by rw [← hD]; exact hmv)
  rw [hC] at h1 HGL
  rw [hA] at h2 HGL
  rw [hD] at h3 HGL
  rw [hC, hA, hD]
  obtain ⟨cn, hcn⟩ : ∃ cn, C.length = cn := ⟨_, rfl⟩
  obtain ⟨an, han⟩ : ∃ an, A.length = an := ⟨_, rfl⟩
  obtain ⟨dn, hdn⟩ : ∃ dn, D.length = dn := ⟨_, rfl⟩
  rw [hcn] at h1 HGL ⊢
  rw [han] at h2 HGL ⊢
  rw [hdn] at h3 HGL ⊢
  have HLN := Lib.hid (And.intro hcn (And.intro han hdn))
  have HCS := Lib.hid h1
  have HAN := Lib.hid h2
  have HDS := Lib.hid h3
  have HPL := Lib.hid (And.intro hr (And.intro ha (And.intro hR (And.intro hRR hal))))
  have HP40 := Lib.hid hp40
  clear h1 h2 h3 h4 hok hr ha hR hRR hal hmv hC hA hD hcn han hdn hgl had hp40
  obtain ⟨B, hB⟩ : ∃ B, W.heap.size = B := ⟨_, rfl⟩
  have x0 := heap_alloc_new W (.cells #[.slice ca cn ck, .slice aa an ak, .int .i64 hc, .int .i64 hx, .int .i64 hy, .int .i64 ad, .slice da dn dk, vp] 34)
  have x1 := heap_alloc_new (W.alloc (.cells #[.slice ca cn ck, .slice aa an ak, .int .i64 hc, .int .i64 hx, .int .i64 hy, .int .i64 ad, .slice da dn dk, vp] 34)) (.cells #[(.func (.func 36) #[.agg #[vr, va, .slice da dn dk]] #[])] 91)
  have x2 := heap_alloc_new ((W.alloc (.cells #[.slice ca cn ck, .slice aa an ak, .int .i64 hc, .int .i64 hx, .int .i64 hy, .int .i64 ad, .slice da dn dk, vp] 34)).alloc (.cells #[(.func (.func 36) #[.agg #[vr, va, .slice da dn dk]] #[])] 91)) (.cells #[.slice none 0 0, .slice none 0 0, .int .i64 0, .int .i64 0, .int .i64 0, .int .i64 0] 41)
  simp only [World.size_alloc] at x1 x2
  have hb3 := balloc (balloc (balloc (Below.refl _ W) (.cells #[.slice ca cn ck, .slice aa an ak, .int .i64 hc, .int .i64 hx, .int .i64 hy, .int .i64 ad, .slice da dn dk, vp] 34)) (.cells #[(.func (.func 36) #[.agg #[vr, va, .slice da dn dk]] #[])] 91)) (.cells #[.slice none 0 0, .slice none 0 0, .int .i64 0, .int .i64 0, .int .i64 0, .int .i64 0] 41)
  obtain ⟨W1, hW1⟩ : ∃ W1, ((W.alloc (.cells #[.slice ca cn ck, .slice aa an ak, .int .i64 hc, .int .i64 hx, .int .i64 hy, .int .i64 ad, .slice da dn dk, vp] 34)).alloc (.cells #[(.func (.func 36) #[.agg #[vr, va, .slice da dn dk]] #[])] 91)).alloc (.cells #[.slice none 0 0, .slice none 0 0, .int .i64 0, .int .i64 0, .int .i64 0, .int .i64 0] 41) = W1 := ⟨_, rfl⟩
  have bb2 := balloc (Below.refl _ ((W.alloc (.cells #[.slice ca cn ck, .slice aa an ak, .int .i64 hc, .int .i64 hx, .int .i64 hy, .int .i64 ad, .slice da dn dk, vp] 34)).alloc (.cells #[(.func (.func 36) #[.agg #[vr, va, .slice da dn dk]] #[])] 91))) (.cells #[.slice none 0 0, .slice none 0 0, .int .i64 0, .int .i64 0, .int .i64 0, .int .i64 0] 41)
  have bb1 := balloc (balloc (Below.refl _ (W.alloc (.cells #[.slice ca cn ck, .slice aa an ak, .int .i64 hc, .int .i64 hx, .int .i64 hy, .int .i64 ad, .slice da dn dk, vp] 34))) (.cells #[(.func (.func 36) #[.agg #[vr, va, .slice da dn dk]] #[])] 91)) (.cells #[.slice none 0 0, .slice none 0 0, .int .i64 0, .int .i64 0, .int .i64 0, .int .i64 0] 41)
  rw [hW1] at x2 hb3 bb2 bb1
  rw [hB] at x0 x1 x2
  have HB1 := Lib.hid hb3
  have hs1 : W1.heap.size = B + 3 := by rw [← hW1]; simp [hB]
  have HX : Hid (W1.heap[B]? = some (.cells #[.slice ca cn ck, .slice aa an ak, .int .i64 hc, .int .i64 hx, .int .i64 hy, .int .i64 ad, .slice da dn dk, vp] 34) ∧ W1.heap[B + 1]? = some (.cells #[(.func (.func 36) #[.agg #[vr, va, .slice da dn dk]] #[])] 91) ∧ W1.heap[B + 2]? = some (.cells #[.slice none 0 0, .slice none 0 0, .int .i64 0, .int .i64 0, .int .i64 0, .int .i64 0] 41) ∧ W1.heap.size = B + 3 ∧ W.heap.size = B) := Lib.hid ⟨(bb1.block B (by simp [hB])).trans x0, (bb2.block (B + 1) (by simp [hB])).trans x1, x2, hs1, hB⟩
  have HGC : Hid (∀ U : World, U.heap[B]? = W1.heap[B]? → U.cell? ⟨B, 0, none⟩ = some (.slice ca cn ck) ∧ U.cell? ⟨B, 1, none⟩ = some (.slice aa an ak) ∧ U.cell? ⟨B, 2, none⟩ = some (.int .i64 hc) ∧ U.cell? ⟨B, 3, none⟩ = some (.int .i64 hx) ∧ U.cell? ⟨B, 4, none⟩ = some (.int .i64 hy)) := Lib.hid fun U hU => by
    have h1 := hU.trans HX.out.1
    exact ⟨nd_cell h1 rfl, nd_cell h1 rfl, nd_cell h1 rfl, nd_cell h1 rfl, nd_cell h1 rfl⟩
  clear x0 x1 x2 hb3 bb2 bb1 hs1
  refine callsIn_of_wp_marks Try.func35 rfl trivial ?_ rfl
  simp only [Try.ntmps35, List.size_toArray, List.length_cons, List.length_nil, Nat.reduceAdd, Nat.reduceSub, Array.replicate_succ, Array.replicate_zero, List.push_toArray, List.append_toArray, List.nil_append, List.cons_append]
  gi_upto_region 1 with fail
  try rw [show W.heap.size + 1 + 1 = B + 2 by rw [hB]]
  try rw [show W.heap.size + 1 = B + 1 by rw [hB]]
  try rw [hB]
  try rw [hW1]
  clear hW1 hB
  rename_i K hK
  have hK2 : ∀ (X : Nat) (v2 v5 : Value) (vs : List Value) (wx : World) (u12 u13 u14 u15 u16 u17 u18 u19 u20 : Value), (wx.heap[X]? = some (.cells #[v2, v5, .int .i64 hc, .int .i64 hx, .int .i64 hy, .int .i64 0] 41 (0, 0)) ∧ B + 3 ≤ X ∧ (∃ ms ga, Rdy wx (B + 3) v2 v5 C A vs ms ga ∧ ¬ inF ms ga A.length X) ∧ (∀ q, v2.ownBlock = some q → B + 3 ≤ q ∧ q < wx.heap.size ∧ q ≠ X) ∧ Below W1.heap.size W1 wx) → K {tmps := #[.agg #[.slice ca cn ck, .slice aa an ak, .int .i64 hc, .int .i64 hx, .int .i64 hy, .int .i64 ad, .slice da dn dk, vp], (.func (.func 36) #[.agg #[vr, va, .slice da dn dk]] #[]), .pointer (some ⟨B, 0, none⟩), .pointer (some ⟨B + 1, 0, none⟩), .pointer (some ⟨B + 1 + 1, 0, none⟩), .pointer (some ⟨X, 0, none⟩), undef, undef, undef, undef, undef, undef, u12, u13, u14, u15, u16, u17, u18, u19, u20, undef, undef, undef, undef, undef, undef, undef, undef, undef, undef, undef, undef, undef, undef, undef, undef, undef, undef, undef, undef, undef, undef, undef, undef, undef, undef, undef, undef, undef, undef, undef, undef, undef, undef, undef, undef, undef, undef, undef, undef, undef, undef, undef, undef, undef, undef, undef, undef, undef, undef], defers := []} wx := by
    rintro X v2 v5 vs wx u12 u13 u14 u15 u16 u17 u18 u19 u20 ⟨hXX, hXB, ⟨ms, ga, hrdy, hnX⟩, hv2, hbx⟩
    refine hK _ _ ?_
    clear hK K
    have HRDY := Lib.hid hrdy
    have HNX := Lib.hid hnX
    have HV2 := Lib.hid hv2
    obtain ⟨cla, clc, hv2e⟩ := hrdy.src.shape
    obtain ⟨ala, alc, hv5e, hala⟩ := hrdy.vas
    obtain ⟨cln, hcl⟩ : ∃ n, C.length = n := ⟨_, rfl⟩
    rw [hcl] at hv2e
    subst hv2e hv5e
    have HCL := Lib.hid hcl
    have HALA := Lib.hid hala
    clear hrdy hnX hv2 hala hcl
    obtain ⟨P, hP⟩ : ∃ P, wx.heap.size = P := ⟨_, rfl⟩
    have hp0 := heap_alloc_new wx (.cells #[.func (.func 74) #[] #[]] 137)
    have bp0 := balloc (Below.refl _ wx) (.cells #[.func (.func 74) #[] #[]] 137)
    obtain ⟨wy, hwy⟩ : ∃ wy, wx.alloc (.cells #[.func (.func 74) #[] #[]] 137) = wy := ⟨_, rfl⟩
    have hsy : wy.heap.size = P + 1 := by rw [← hwy]; simp [hP]
    rw [hwy] at hp0 bp0
    rw [hP] at hp0
    have hXy := (bp0.block X (Array.getElem?_eq_some_iff.1 hXX).1).trans hXX
    gi_upto_region 3 with fail
    try rw [hwy]
    have c0 : wy.cell? ⟨X, 0, none⟩ = some (.slice cla cln clc) := nd_cell hXy rfl
    have c1 : wy.cell? ⟨X, 1, none⟩ = some (.slice ala A.length alc) := nd_cell hXy rfl
    have c2 : wy.cell? ⟨X, 2, none⟩ = some (.int .i64 hc) := nd_cell hXy rfl
    have c3 : wy.cell? ⟨X, 3, none⟩ = some (.int .i64 hx) := nd_cell hXy rfl
    have c4 : wy.cell? ⟨X, 4, none⟩ = some (.int .i64 hy) := nd_cell hXy rfl
    have c5 : wy.cell? ⟨X, 5, none⟩ = some (.int .i64 0) := nd_cell hXy rfl
    have HP0 := Lib.hid (And.intro hp0 (And.intro bp0 (And.intro hXy (And.intro hsy hP))))
    have HBX := Lib.hid (And.intro hbx hXB)
    clear hp0 bp0 hXy hXX hbx hXB hwy hsy hP
    gi_wp2_with fail
    refine ⟨trivial, ?_⟩
    gi_at_call 48
    refine (callsIn_wide.2 (pts_closure wy (.slice cla cln clc) (.slice ala A.length alc) hc hx hy 0 ⟨_, _, _, rfl⟩ ⟨_, _, _, rfl⟩)).mono ?_
    rintro e w' ⟨rfl, rfl⟩
    clear c0 c1 c2 c3 c4 c5
    have hb7 := heap_alloc_new wy (.cells #[.slice cla cln clc, .slice ala A.length alc, .int .i64 hc, .int .i64 hx, .int .i64 hy, .int .i64 0] 41)
    have bl7 := balloc (Below.refl _ wy) (.cells #[.slice cla cln clc, .slice ala A.length alc, .int .i64 hc, .int .i64 hx, .int .i64 hy, .int .i64 0] 41)
    obtain ⟨wl, hwl⟩ : ∃ wl, wy.alloc (.cells #[.slice cla cln clc, .slice ala A.length alc, .int .i64 hc, .int .i64 hx, .int .i64 hy, .int .i64 0] 41) = wl := ⟨_, rfl⟩
    have hsl : wl.heap.size = P + 2 := by rw [← hwl]; simp [HP0.out.2.2.2.1]
    rw [hwl] at hb7 bl7
    rw [HP0.out.2.2.2.1] at hb7
    rw [HP0.out.2.2.2.1]
    gi_wp2_with fail
    try rw [hwl]
    clear hwl
    have HSL := Lib.hid hsl
    have HLI : Hid (∀ g, inF ms ga A.length g → g < P ∧ B + 3 ≤ g ∧ g ≠ X) := Lib.hid fun g hg => ⟨by have := (HRDY.out.lt g hg).1; rw [HP0.out.2.2.2.2] at this; exact this, (HRDY.out.lt g hg).2.1, fun e => HNX.out (e ▸ hg)⟩
    have HLW : Hid (∀ g, inF ms ga A.length g → g < wl.heap.size) := Lib.hid fun g hg => by have := (HLI.out g hg).1; have := HSL.out; omega
    have HBL := Lib.hid (bnext HP0.out.2.1 bl7)
    have HWL : Hid (wl.heap[B]? = some (.cells #[.slice ca cn ck, .slice aa an ak, .int .i64 hc, .int .i64 hx, .int .i64 hy, .int .i64 ad, .slice da dn dk, vp] 34) ∧ wl.heap[B + 1]? = some (.cells #[(.func (.func 36) #[.agg #[vr, va, .slice da dn dk]] #[])] 91) ∧ wl.heap[B + 2]? = some (.cells #[.slice none 0 0, .slice none 0 0, .int .i64 0, .int .i64 0, .int .i64 0, .int .i64 0] 41) ∧ wl.heap[X]? = some (.cells #[.slice cla cln clc, .slice ala A.length alc, .int .i64 hc, .int .i64 hx, .int .i64 hy, .int .i64 0] 41) ∧ wl.heap[P]? = some (.cells #[.func (.func 74) #[] #[]] 137) ∧ wl.heap[P + 1]? = some (.cells #[.slice cla cln clc, .slice ala A.length alc, .int .i64 hc, .int .i64 hx, .int .i64 hy, .int .i64 0] 41)) := Lib.hid (by
      have h1 := HX.out
      have h2 := bnext HBX.out.1 HBL.out
      refine ⟨(h2.block B (by omega)).trans h1.1, (h2.block (B + 1) (by omega)).trans h1.2.1, (h2.block (B + 2) (by omega)).trans h1.2.2.1, (bl7.block X (Array.getElem?_eq_some_iff.1 HP0.out.2.2.1).1).trans HP0.out.2.2.1, (bl7.block P (by have := HP0.out.2.2.2.1; omega)).trans HP0.out.1, hb7⟩)
    have HNI : Hid (∀ b, b < B + 3 ∨ b = X ∨ P ≤ b → ¬ inF ms ga A.length b) := Lib.hid fun b hb hg => by have := HLI.out b hg; omega
    obtain ⟨f, hf⟩ : ∃ f, OL.sx R at' D = f := ⟨_, rfl⟩
    have HF := Lib.hid hf
    rw [hf] at HDR
    obtain ⟨nv, hnv⟩ : ∃ nv, nvF f (nums C A) = nv := ⟨_, rfl⟩
    have HNV := Lib.hid hnv
    have HI0 : Hid (DI wx wl ms ga A.length nv 0 wl) := Lib.hid ⟨FrS.refl _ _, (Upd.first HRDY.out.fro (fun g hg => (HRDY.out.lt g hg).1)).below (fun t' h => by omega) HBL.out, Nat.zero_le _⟩
    have HBW : Hid (∀ t V, DI wx wl ms ga A.length nv t V → Below W.heap.size W V) := Lib.hid fun t V hd => hd.fr.below W (bnext HB1.out (bnext HBX.out.1 HBL.out)) (fun b hb => by have := HLI.out b hb; have := HX.out.2.2.2.2; omega)
    clear hb7 bl7 hsl hf hnv
    refine range_need rfl h1m (gf := 86) (lb := #[.pointer (some ⟨P + 1, 0, none⟩)]) rfl trivial (enters_of Try.func86 (by kernel_rfl) rfl) (pts_need (m - 1) (by omega) (P + 1) (.slice cla cln clc) ala alc A.length ga cln ms vs (by rw [HRDY.out.lay.len, HCL.out]) (by rw [← HCL.out]; exact HOKC.out.n) HRDY.out.msl HRDY.out.vok HLB.out.1 HALA.out wl) (Below.refl _ _) (fun _ => rfl)
      (fun pre W => DI wx wl ms ga A.length nv (2 * pre.length) W)
      (fun _ _ _ => False) ?hN ?hI (fun _ _ _ _ _ h _ _ => h) ?h0
      (fun pre x a' W => ItG (items ms ga A.length) pre x W ∧ ∃ Bx, wl.heap.size ≤ Bx ∧ W.heap[Bx]? = some (.cells #[.pointer (some ⟨x.2.1, x.2.2, none⟩), .pointer (some ⟨x.2.1, x.2.2 + 1, none⟩)] 108 (0, 0)) ∧ a' = { tmps := #[.agg #[.slice ca cn ck, .slice aa an ak, .int .i64 hc, .int .i64 hx, .int .i64 hy, .int .i64 ad, .slice da dn dk, vp], (.func (.func 36) #[.agg #[vr, va, .slice da dn dk]] #[]), .pointer (some ⟨B, 0, none⟩), .pointer (some ⟨B + 1, 0, none⟩), .pointer (some ⟨B + 1 + 1, 0, none⟩), .pointer (some ⟨X, 0, none⟩), .pointer (some ⟨P, 0, none⟩), .int .i64 (x.1 : Int), .pointer (some ⟨Bx, 0, none⟩), undef, undef, undef, u12, u13, u14, u15, u16, u17, u18, u19, u20, .agg #[.slice cla cln clc, .slice ala A.length alc, .int .i64 hc, .int .i64 hx, .int .i64 hy, .int .i64 0], .func (.func 86) #[] #[.pointer (some ⟨P + 1, 0, none⟩)], .int .i64 (x.1 : Int), .agg #[.pointer (some ⟨x.2.1, x.2.2, none⟩), .pointer (some ⟨x.2.1, x.2.2 + 1, none⟩)], undef, undef, undef, undef, undef, undef, undef, undef, undef, undef, undef, undef, undef, undef, undef, undef, undef, undef, undef, undef, undef, undef, undef, undef, undef, undef, undef, undef, undef, undef, undef, undef, undef, undef, undef, undef, undef, undef, undef, undef, undef, undef, undef, undef, undef, undef], defers := [] })
      ?hAx ?assign ?body ?done ?stop
    case hN =>
      rintro pre W hi
      have h7 := hi.nd HWL.out.2.2.2.2.2 (HNI.out _ (by omega))
      exact ⟨nd_cell h7 rfl, nd_cell h7 rfl, by have h8 := HRDY.out.srcIn HBL.out hi; rw [HCL.out] at h8; exact h8⟩
    case hI => exact DI.own (fun pre : List It => 2 * pre.length) HLW.out
    case h0 => exact HI0.out
    case hAx =>
      rintro pre x a' u A1 A2 row ⟨hg, Bx, h2, h3, h4⟩ hgr hr
      refine ⟨hg, Bx, h2, (hgr.block Bx (Array.getElem?_eq_some_iff.1 h3).1 (fun e => ?_)).trans h3, h4⟩
      obtain ⟨_, o, ho, hc'⟩ := hr Bx e.symm
      rw [h3] at ho
      cases ho
      cases hc'
    case assign =>
      rintro l pre x W Kc hi hG hK
      simp only [encI]
      have HKK := Lib.hid hK
      clear hK
      gi_upto_region 5 with fail
      gi_wp2_with fail
      exact HKK.out _ _ ((FrS.of (S := fun _ => False) (balloc (Below.refl _ W) _)).keepsFrom _ (fun _ _ h => h.elim)) (hi.below HLW.out (balloc (Below.refl _ W) _)) ⟨hG, W.heap.size, hi.fr.size, heap_alloc_new _ _, rfl⟩
    case body =>
      rintro l pre x a' W0 hl ⟨r, hr⟩ hi ⟨⟨hG0, hG1⟩, Bx, hBx, hbx, rfl⟩
      obtain ⟨k, g, o⟩ := x
      dsimp only at hG0 hG1 hbx ⊢
      rw [← hG0] at hG1 hi
      have HL := Lib.hid hG1
      have HKL : Hid (k < OL.pts C + A.length) := Lib.hid (by rw [← HRDY.out.len]; exact (List.getElem?_eq_some_iff.1 hG1).1)
      have HGF : Hid (inF ms ga A.length g) := Lib.hid (by
        have h1 := adr_inF (ms := ms) (ga := ga) (na := A.length) (t := 2 * k + 0) (by have := HKL.out; rw [HRDY.out.len]; omega)
        rw [adr_at hG1 (by decide)] at h1
        exact h1)
      obtain ⟨x0, y0, hnn⟩ := HRDY.out.num hG1
      have HNUM := Lib.hid hnn
      have HII := Lib.hid hi
      have HPK := Lib.hid hG0
      have cb0 : W0.cell? ⟨Bx, 0, none⟩ = some (.pointer (some ⟨g, o, none⟩)) := nd_cell hbx rfl
      have cb1 : W0.cell? ⟨Bx, 1, none⟩ = some (.pointer (some ⟨g, o + 1, none⟩)) := nd_cell hbx rfl
      clear hG0 hG1 hi hbx hnn hr hl hBx
      gi_upto_region 7 with fail
      gi_loopw [26] (fun v26 wr => ((v26 = .int .i64 0 ∧ Hid (DI wx wl ms ga A.length nv (2 * k + 0) wr)) ∨ (v26 = .int .i64 1 ∧ Hid (DI wx wl ms ga A.length nv (2 * k + 1) wr)) ∨ (v26 = .int .i64 2 ∧ Hid (DI wx wl ms ga A.length nv (2 * k + 1 + 1) wr))) ∧ Hid (FrS (inF ms ga A.length) W0 wr)) (fun v26 _ => 2 - (intOf v26).toNat)
      case atStart => exact ⟨.inl ⟨rfl, HII⟩, Lib.hid (FrS.refl _ _)⟩
      case round =>
        clear cb0 cb1
        obtain ⟨hrel, HFR⟩ := hrel
        rcases hrel with ⟨rfl, HDI⟩ | ⟨rfl, HDI⟩ | ⟨rfl, HDI⟩
        · have hnum := HDI.out.num HRDY.out.sep (q := 0) (by decide) HL.out
          have hn1 : wr.cell? ⟨g, o, none⟩ = some (.int .i64 x0) := hnum.1.trans HNUM.out.2.1
          have hcb := HDI.out.nd HWL.out.2.1 (HNI.out _ (by omega))
          have hpb := HDI.out.nd HWL.out.2.2.2.2.1 (HNI.out _ (by omega))
          have HDD : Hid (Below wr.heap.size wr wr.drew) := Lib.hid (Below.drew (Below.refl _ _))
          have HS : Hid (∀ U, Below wr.drew.heap.size wr.drew U → (fun w' => w'.cell? ⟨B + 1, 0, none⟩ = some (.func (.func 36) #[.agg #[vr, va, .slice da dn dk]] #[]) ∧ w'.cell? ⟨P, 0, none⟩ = some (.func (.func 74) #[] #[]) ∧ w'.cell? ⟨g, o, none⟩ = some (.int .i64 x0)) U) := Lib.hid fun U hU => by
            have hb := bnext HDD.out hU
            exact ⟨nd_cell ((hb.block _ (Array.getElem?_eq_some_iff.1 hcb).1).trans hcb) rfl, nd_cell ((hb.block _ (Array.getElem?_eq_some_iff.1 hpb).1).trans hpb) rfl, (hb.cell (World.block_lt_of_cell? _ _ hn1)).trans hn1⟩
          obtain ⟨y, hy⟩ : ∃ y, nv (2 * k + 0) = y := ⟨_, rfl⟩
          have HY := Lib.hid hy
          have HSUM : Hid (∀ (U : World) (K Q : Nat), Below wr.drew.heap.size wr.drew U → U.cell? ⟨K, 0, none⟩ = some (.int .i64 (k : Int)) → U.cell? ⟨Q, 0, none⟩ = some (.int .i64 0) → K < U.heap.size → Q < U.heap.size → Calls Try.prog 36 #[.agg #[vr, va, .slice da dn dk], .int .i64 x0, .func (.func 75) #[] #[.pointer (some ⟨K, 0, none⟩), .pointer (some ⟨Q, 0, none⟩)]] U fun e w' => e = .returned (.int .i64 y) ∧ Below U.heap.size U w') := Lib.hid fun U K Q hU h1 h2 h3 h4 => by
            have hb : Below W.heap.size W U := bnext (HBW.out _ _ HDI.out) (bnext HDD.out hU)
            have h5 := psum_move U vr va (.slice da dn dk) R at' D x0 K Q k 0 (HDS.out.keep hb) HLB.out.2 (HPL.out.1.keep hb) (HPL.out.2.1.keep hb) HPL.out.2.2.1 HPL.out.2.2.2.1 HPL.out.2.2.2.2 (fun d hd => by rw [HMV.out d hd]; have := HKL.out; have := HNP.out; omega) (by have := HKL.out; have := HNP.out; have := HP40.out; omega) (by decide) h1 (by simpa using h2) h3 h4
            have e : (AX.sum x0 (D.map fun d => (d.r, OL.mv k 0 d)) R at').1 = y := by
              rw [← hy, ← HNV.out]
              refine Eq.trans ?_ (nvF_0 (f := f) HNUM.out.1).symm
              rw [← HF.out]
              rfl
            rw [e] at h5
            exact h5
          clear hnum hn1 hcb hpb hy
          have hix := idx_0 wr (.pointer (some ⟨g, o, none⟩)) (.pointer (some ⟨g, o + 1, none⟩))
          gi_upto_region 9 with fail
          clear hix
          rename_i HK9
          refine wpIn_region_last #[{ dst := some 30, op := Op.move (Operand.tmp 10), type := 102, pos := "outline.go:173", after := #[], guard := none }, { dst := some 31, op := Op.load 91 (Operand.tmp 3), type := 91, pos := "outline.go:173", after := #[], guard := none }, { dst := some 32, op := Op.move (Operand.tmp 10), type := 102, pos := "outline.go:173", after := #[], guard := none }, { dst := some 33, op := Op.nilCheck (Operand.tmp 32), type := 0, pos := "outline.go:173", after := #[{ on := 2, ground := Ground.data }], guard := none }, { dst := some 34, op := Op.load 3 (Operand.tmp 33), type := 3, pos := "outline.go:173", after := #[{ on := 3, ground := Ground.data }], guard := none }, { dst := some 35, op := Op.load 137 (Operand.tmp 6), type := 137, pos := "outline.go:173", after := #[], guard := none }, { dst := some 36, op := Op.move (Operand.tmp 7), type := 3, pos := "outline.go:173", after := #[], guard := none }, { dst := some 37, op := Op.move (Operand.tmp 9), type := 3, pos := "outline.go:173", after := #[], guard := none }, { dst := some 38, op := Op.call { callee := Callee.value (Operand.tmp 35), args := #[Operand.tmp 36, Operand.tmp 37], argTypes := #[3, 3] }, type := 136, pos := "outline.go:173", after := #[{ on := 5, ground := Ground.data }, { on := 6, ground := Ground.data }, { on := 7, ground := Ground.data }], guard := none }, { dst := some 39, op := Op.call { callee := Callee.value (Operand.tmp 31), args := #[Operand.tmp 34, Operand.tmp 38], argTypes := #[3, 136] }, type := 3, pos := "outline.go:173", after := #[{ on := 1, ground := Ground.data }, { on := 4, ground := Ground.data }, { on := 8, ground := Ground.data }, { on := 8, ground := Ground.chain }], guard := none }, { dst := some 40, op := Op.nilCheck (Operand.tmp 30), type := 0, pos := "outline.go:173", after := #[{ on := 0, ground := Ground.data }, { on := 0, ground := Ground.phase }, { on := 1, ground := Ground.phase }, { on := 2, ground := Ground.phase }, { on := 3, ground := Ground.phase }, { on := 4, ground := Ground.phase }, { on := 5, ground := Ground.phase }, { on := 6, ground := Ground.phase }, { on := 7, ground := Ground.phase }, { on := 8, ground := Ground.phase }, { on := 9, ground := Ground.phase }], guard := none }] { dst := none, op := Op.store 3 (Operand.tmp 40) (Operand.tmp 39), type := 0, pos := "outline.go:173", after := #[{ on := 10, ground := Ground.data }, { on := 9, ground := Ground.data }, { on := 9, ground := Ground.chain }, { on := 0, ground := Ground.phase }, { on := 1, ground := Ground.phase }, { on := 2, ground := Ground.phase }, { on := 3, ground := Ground.phase }, { on := 4, ground := Ground.phase }, { on := 5, ground := Ground.phase }, { on := 6, ground := Ground.phase }, { on := 7, ground := Ground.phase }, { on := 8, ground := Ground.phase }, { on := 9, ground := Ground.phase }], guard := none } rfl (by kernel_rfl) (by kernel_rfl) (by kernel_rfl) (fun w' => w'.cell? ⟨B + 1, 0, none⟩ = some (.func (.func 36) #[.agg #[vr, va, .slice da dn dk]] #[]) ∧ w'.cell? ⟨P, 0, none⟩ = some (.func (.func 74) #[] #[]) ∧ w'.cell? ⟨g, o, none⟩ = some (.int .i64 x0)) ?_ (fun hHeld => ?_)
          · first | exact HS.out _ B9.out | exact HS.out _ B8.out | exact HS.out _ (Below.refl _ _)
          generalize wr.drew = wd at hHeld HS HSUM HDD ⊢
          refine wpAnyH_take (i := 0) (oi := { dst := some 30, op := Op.move (Operand.tmp 10), type := 102, pos := "outline.go:173", after := #[], guard := none }) (v := ?_) rfl (by kernel_rfl) (by kernel_rfl) (by kernel_rfl) (fun _ _ _ h => h) (Or.inl ⟨by rfl, ?_⟩) (by assumption) ?_
          rotate_left
          · ((intro w hSw; (try dsimp only at hSw); go_simp; (try rw [if_neg (by omega)])); try with_reducible rfl)
          (try simp only [Act.put, List.setIfInBounds_toArray, List.set_cons_zero, List.set_cons_succ])
          refine wpAnyH_take (i := 1) (oi := { dst := some 31, op := Op.load 91 (Operand.tmp 3), type := 91, pos := "outline.go:173", after := #[], guard := none }) (v := ?_) rfl (by kernel_rfl) (by kernel_rfl) (by kernel_rfl) (fun _ _ _ h => h) (Or.inl ⟨by rfl, ?_⟩) (by assumption) ?_
          rotate_left
          · ((intro w hSw; (try dsimp only at hSw); go_simp; (try rw [if_neg (by omega)])); try with_reducible rfl)
          (try simp only [Act.put, List.setIfInBounds_toArray, List.set_cons_zero, List.set_cons_succ])
          refine wpAnyH_take (i := 2) (oi := { dst := some 32, op := Op.move (Operand.tmp 10), type := 102, pos := "outline.go:173", after := #[], guard := none }) (v := ?_) rfl (by kernel_rfl) (by kernel_rfl) (by kernel_rfl) (fun _ _ _ h => h) (Or.inl ⟨by rfl, ?_⟩) (by assumption) ?_
          rotate_left
          · ((intro w hSw; (try dsimp only at hSw); go_simp; (try rw [if_neg (by omega)])); try with_reducible rfl)
          (try simp only [Act.put, List.setIfInBounds_toArray, List.set_cons_zero, List.set_cons_succ])
          refine wpAnyH_take (i := 3) (oi := { dst := some 33, op := Op.nilCheck (Operand.tmp 32), type := 0, pos := "outline.go:173", after := #[{ on := 2, ground := Ground.data }], guard := none }) (v := ?_) rfl (by kernel_rfl) (by kernel_rfl) (by kernel_rfl) (fun _ _ _ h => h) (Or.inl ⟨by rfl, ?_⟩) (by assumption) ?_
          rotate_left
          · ((intro w hSw; (try dsimp only at hSw); go_simp; (try rw [if_neg (by omega)])); try with_reducible rfl)
          (try simp only [Act.put, List.setIfInBounds_toArray, List.set_cons_zero, List.set_cons_succ])
          refine wpAnyH_take (i := 4) (oi := { dst := some 34, op := Op.load 3 (Operand.tmp 33), type := 3, pos := "outline.go:173", after := #[{ on := 3, ground := Ground.data }], guard := none }) (v := ?_) rfl (by kernel_rfl) (by kernel_rfl) (by kernel_rfl) (fun _ _ _ h => h) (Or.inl ⟨by rfl, ?_⟩) (by assumption) ?_
          rotate_left
          · ((intro w hSw; (try dsimp only at hSw); go_simp; (try rw [if_neg (by omega)])); try with_reducible rfl)
          (try simp only [Act.put, List.setIfInBounds_toArray, List.set_cons_zero, List.set_cons_succ])
          refine wpAnyH_take (i := 5) (oi := { dst := some 35, op := Op.load 137 (Operand.tmp 6), type := 137, pos := "outline.go:173", after := #[], guard := none }) (v := ?_) rfl (by kernel_rfl) (by kernel_rfl) (by kernel_rfl) (fun _ _ _ h => h) (Or.inl ⟨by rfl, ?_⟩) (by assumption) ?_
          rotate_left
          · ((intro w hSw; (try dsimp only at hSw); go_simp; (try rw [if_neg (by omega)])); try with_reducible rfl)
          (try simp only [Act.put, List.setIfInBounds_toArray, List.set_cons_zero, List.set_cons_succ])
          refine wpAnyH_take (i := 6) (oi := { dst := some 36, op := Op.move (Operand.tmp 7), type := 3, pos := "outline.go:173", after := #[], guard := none }) (v := ?_) rfl (by kernel_rfl) (by kernel_rfl) (by kernel_rfl) (fun _ _ _ h => h) (Or.inl ⟨by rfl, ?_⟩) (by assumption) ?_
          rotate_left
          · ((intro w hSw; (try dsimp only at hSw); go_simp; (try rw [if_neg (by omega)])); try with_reducible rfl)
          (try simp only [Act.put, List.setIfInBounds_toArray, List.set_cons_zero, List.set_cons_succ])
          refine wpAnyH_take (i := 7) (oi := { dst := some 37, op := Op.move (Operand.tmp 9), type := 3, pos := "outline.go:173", after := #[], guard := none }) (v := ?_) rfl (by kernel_rfl) (by kernel_rfl) (by kernel_rfl) (fun _ _ _ h => h) (Or.inl ⟨by rfl, ?_⟩) (by assumption) ?_
          rotate_left
          · ((intro w hSw; (try dsimp only at hSw); go_simp; (try rw [if_neg (by omega)])); try with_reducible rfl)
          (try simp only [Act.put, List.setIfInBounds_toArray, List.set_cons_zero, List.set_cons_succ])
          refine wpAnyH_ready (rs := [8]) (by kernel_rfl) (by simp) ?_
          refine AllReadyH.cons (o := { dst := some 38, op := Op.call { callee := Callee.value (Operand.tmp 35), args := #[Operand.tmp 36, Operand.tmp 37], argTypes := #[3, 3] }, type := 136, pos := "outline.go:173", after := #[{ on := 5, ground := Ground.data }, { on := 6, ground := Ground.data }, { on := 7, ground := Ground.data }], guard := none }) rfl (fun K hK => ?_) AllReadyH.nil
          (go_simp; go_at_call 74; refine (move_any wd (k : Int) 0).mono ?_; rintro e w8 ⟨rfl, h8a, h8b, b8⟩; have H8 := Lib.hid (And.intro h8a h8b); have B8 := Lib.hid b8; obtain ⟨KB, hKB⟩ : ∃ KB, wd.heap.size = KB := ⟨_, rfl⟩; rw [hKB]; rw [hKB] at H8; clear h8a h8b; dsimp only)
          refine hK.out _ _ ?_ (fun hHeld => ?_)
          · first | exact HS.out _ B9.out | exact HS.out _ B8.out | exact HS.out _ (Below.refl _ _)
          clear hK K
          (try simp only [Act.put, List.setIfInBounds_toArray, List.set_cons_zero, List.set_cons_succ])
          refine wpAnyH_ready (rs := [9]) (by kernel_rfl) (by simp) ?_
          refine AllReadyH.cons (o := { dst := some 39, op := Op.call { callee := Callee.value (Operand.tmp 31), args := #[Operand.tmp 34, Operand.tmp 38], argTypes := #[3, 136] }, type := 3, pos := "outline.go:173", after := #[{ on := 1, ground := Ground.data }, { on := 4, ground := Ground.data }, { on := 8, ground := Ground.data }, { on := 8, ground := Ground.chain }], guard := none }) rfl (fun K hK => ?_) AllReadyH.nil
          (go_simp; go_at_call 36; refine (HSUM.out w8 KB (KB + 1) B8.out (nd_cell H8.out.1 rfl) (nd_cell H8.out.2 rfl) (Array.getElem?_eq_some_iff.1 H8.out.1).1 (Array.getElem?_eq_some_iff.1 H8.out.2).1).mono ?_; rintro e w9 ⟨rfl, b9⟩; have B9 := Lib.hid (bnext B8.out b9); dsimp only)
          refine hK.out _ _ ?_ (fun hHeld => ?_)
          · first | exact HS.out _ B9.out | exact HS.out _ B8.out | exact HS.out _ (Below.refl _ _)
          clear hK K
          (try simp only [Act.put, List.setIfInBounds_toArray, List.set_cons_zero, List.set_cons_succ])
          refine wpAnyH_take (i := 10) (oi := { dst := some 40, op := Op.nilCheck (Operand.tmp 30), type := 0, pos := "outline.go:173", after := #[{ on := 0, ground := Ground.data }, { on := 0, ground := Ground.phase }, { on := 1, ground := Ground.phase }, { on := 2, ground := Ground.phase }, { on := 3, ground := Ground.phase }, { on := 4, ground := Ground.phase }, { on := 5, ground := Ground.phase }, { on := 6, ground := Ground.phase }, { on := 7, ground := Ground.phase }, { on := 8, ground := Ground.phase }, { on := 9, ground := Ground.phase }], guard := none }) (v := ?_) rfl (by kernel_rfl) (by kernel_rfl) (by kernel_rfl) (fun _ _ _ h => h) (Or.inl ⟨by rfl, ?_⟩) (by assumption) ?_
          rotate_left
          · ((intro w hSw; (try dsimp only at hSw); go_simp; (try rw [if_neg (by omega)])); try with_reducible rfl)
          (try simp only [Act.put, List.setIfInBounds_toArray, List.set_cons_zero, List.set_cons_succ])
          refine wpAnyH_done (by kernel_rfl) ?_ _
          show Oper.wp _ _ _ _ _ _

          have hc9 := hHeld.2.2
          have hd9 := HDI.out.below HLW.out (bnext HDD.out B9.out)
          have hf9 : w9.frozen? ⟨g, o, none⟩ = false := (hd9.num HRDY.out.sep (q := 0) (by decide) HL.out).2
          have HD9 : Hid (DI wx wl ms ga A.length nv (2 * k + 0 + 1) (w9.setCell ⟨g, o, none⟩ (.int .i64 y))) := Lib.hid (by rw [← HY.out]; exact hd9.step HRDY.out.sep (q := 0) (by decide) HL.out hc9)
          have HF9 : Hid (FrS (inF ms ga A.length) W0 (w9.setCell ⟨g, o, none⟩ (.int .i64 y))) := Lib.hid ((HFR.out.then (bnext HDD.out B9.out)).trans (FrS.set (S := inF ms ga A.length) w9 (b := g) (i := o) HGF.out _))
          clear hd9 hHeld B8 B9 H8 HS HSUM b8 b9
          go_wp2
          refine HK9 _ _ ?_
          clear HK9
          gi_wp2
          go_roundw
          case rel => exact ⟨.inr (.inl ⟨by go_num, HD9⟩), HF9⟩
          case measure => simp [intOf]
        · have hnum := HDI.out.num HRDY.out.sep (q := 1) (by decide) HL.out
          have hn1 : wr.cell? ⟨g, o + 1, none⟩ = some (.int .i64 y0) := hnum.1.trans HNUM.out.2.2
          have hcb := HDI.out.nd HWL.out.2.1 (HNI.out _ (by omega))
          have hpb := HDI.out.nd HWL.out.2.2.2.2.1 (HNI.out _ (by omega))
          have HDD : Hid (Below wr.heap.size wr wr.drew) := Lib.hid (Below.drew (Below.refl _ _))
          have HS : Hid (∀ U, Below wr.drew.heap.size wr.drew U → (fun w' => w'.cell? ⟨B + 1, 0, none⟩ = some (.func (.func 36) #[.agg #[vr, va, .slice da dn dk]] #[]) ∧ w'.cell? ⟨P, 0, none⟩ = some (.func (.func 74) #[] #[]) ∧ w'.cell? ⟨g, o + 1, none⟩ = some (.int .i64 y0)) U) := Lib.hid fun U hU => by
            have hb := bnext HDD.out hU
            exact ⟨nd_cell ((hb.block _ (Array.getElem?_eq_some_iff.1 hcb).1).trans hcb) rfl, nd_cell ((hb.block _ (Array.getElem?_eq_some_iff.1 hpb).1).trans hpb) rfl, (hb.cell (World.block_lt_of_cell? _ _ hn1)).trans hn1⟩
          obtain ⟨y, hy⟩ : ∃ y, nv (2 * k + 1) = y := ⟨_, rfl⟩
          have HY := Lib.hid hy
          have HSUM : Hid (∀ (U : World) (K Q : Nat), Below wr.drew.heap.size wr.drew U → U.cell? ⟨K, 0, none⟩ = some (.int .i64 (k : Int)) → U.cell? ⟨Q, 0, none⟩ = some (.int .i64 1) → K < U.heap.size → Q < U.heap.size → Calls Try.prog 36 #[.agg #[vr, va, .slice da dn dk], .int .i64 y0, .func (.func 75) #[] #[.pointer (some ⟨K, 0, none⟩), .pointer (some ⟨Q, 0, none⟩)]] U fun e w' => e = .returned (.int .i64 y) ∧ Below U.heap.size U w') := Lib.hid fun U K Q hU h1 h2 h3 h4 => by
            have hb : Below W.heap.size W U := bnext (HBW.out _ _ HDI.out) (bnext HDD.out hU)
            have h5 := psum_move U vr va (.slice da dn dk) R at' D y0 K Q k 1 (HDS.out.keep hb) HLB.out.2 (HPL.out.1.keep hb) (HPL.out.2.1.keep hb) HPL.out.2.2.1 HPL.out.2.2.2.1 HPL.out.2.2.2.2 (fun d hd => by rw [HMV.out d hd]; have := HKL.out; have := HNP.out; omega) (by have := HKL.out; have := HNP.out; have := HP40.out; omega) (by decide) h1 (by simpa using h2) h3 h4
            have e : (AX.sum y0 (D.map fun d => (d.r, OL.mv k 1 d)) R at').1 = y := by
              rw [← hy, ← HNV.out]
              refine Eq.trans ?_ (nvF_1 (f := f) HNUM.out.1).symm
              rw [← HF.out]
              rfl
            rw [e] at h5
            exact h5
          clear hnum hn1 hcb hpb hy
          have hix := idx_1 wr (.pointer (some ⟨g, o, none⟩)) (.pointer (some ⟨g, o + 1, none⟩))
          gi_upto_region 9 with fail
          clear hix
          rename_i HK9
          refine wpIn_region_last #[{ dst := some 30, op := Op.move (Operand.tmp 10), type := 102, pos := "outline.go:173", after := #[], guard := none }, { dst := some 31, op := Op.load 91 (Operand.tmp 3), type := 91, pos := "outline.go:173", after := #[], guard := none }, { dst := some 32, op := Op.move (Operand.tmp 10), type := 102, pos := "outline.go:173", after := #[], guard := none }, { dst := some 33, op := Op.nilCheck (Operand.tmp 32), type := 0, pos := "outline.go:173", after := #[{ on := 2, ground := Ground.data }], guard := none }, { dst := some 34, op := Op.load 3 (Operand.tmp 33), type := 3, pos := "outline.go:173", after := #[{ on := 3, ground := Ground.data }], guard := none }, { dst := some 35, op := Op.load 137 (Operand.tmp 6), type := 137, pos := "outline.go:173", after := #[], guard := none }, { dst := some 36, op := Op.move (Operand.tmp 7), type := 3, pos := "outline.go:173", after := #[], guard := none }, { dst := some 37, op := Op.move (Operand.tmp 9), type := 3, pos := "outline.go:173", after := #[], guard := none }, { dst := some 38, op := Op.call { callee := Callee.value (Operand.tmp 35), args := #[Operand.tmp 36, Operand.tmp 37], argTypes := #[3, 3] }, type := 136, pos := "outline.go:173", after := #[{ on := 5, ground := Ground.data }, { on := 6, ground := Ground.data }, { on := 7, ground := Ground.data }], guard := none }, { dst := some 39, op := Op.call { callee := Callee.value (Operand.tmp 31), args := #[Operand.tmp 34, Operand.tmp 38], argTypes := #[3, 136] }, type := 3, pos := "outline.go:173", after := #[{ on := 1, ground := Ground.data }, { on := 4, ground := Ground.data }, { on := 8, ground := Ground.data }, { on := 8, ground := Ground.chain }], guard := none }, { dst := some 40, op := Op.nilCheck (Operand.tmp 30), type := 0, pos := "outline.go:173", after := #[{ on := 0, ground := Ground.data }, { on := 0, ground := Ground.phase }, { on := 1, ground := Ground.phase }, { on := 2, ground := Ground.phase }, { on := 3, ground := Ground.phase }, { on := 4, ground := Ground.phase }, { on := 5, ground := Ground.phase }, { on := 6, ground := Ground.phase }, { on := 7, ground := Ground.phase }, { on := 8, ground := Ground.phase }, { on := 9, ground := Ground.phase }], guard := none }] { dst := none, op := Op.store 3 (Operand.tmp 40) (Operand.tmp 39), type := 0, pos := "outline.go:173", after := #[{ on := 10, ground := Ground.data }, { on := 9, ground := Ground.data }, { on := 9, ground := Ground.chain }, { on := 0, ground := Ground.phase }, { on := 1, ground := Ground.phase }, { on := 2, ground := Ground.phase }, { on := 3, ground := Ground.phase }, { on := 4, ground := Ground.phase }, { on := 5, ground := Ground.phase }, { on := 6, ground := Ground.phase }, { on := 7, ground := Ground.phase }, { on := 8, ground := Ground.phase }, { on := 9, ground := Ground.phase }], guard := none } rfl (by kernel_rfl) (by kernel_rfl) (by kernel_rfl) (fun w' => w'.cell? ⟨B + 1, 0, none⟩ = some (.func (.func 36) #[.agg #[vr, va, .slice da dn dk]] #[]) ∧ w'.cell? ⟨P, 0, none⟩ = some (.func (.func 74) #[] #[]) ∧ w'.cell? ⟨g, o + 1, none⟩ = some (.int .i64 y0)) ?_ (fun hHeld => ?_)
          · first | exact HS.out _ B9.out | exact HS.out _ B8.out | exact HS.out _ (Below.refl _ _)
          generalize wr.drew = wd at hHeld HS HSUM HDD ⊢
          refine wpAnyH_take (i := 0) (oi := { dst := some 30, op := Op.move (Operand.tmp 10), type := 102, pos := "outline.go:173", after := #[], guard := none }) (v := ?_) rfl (by kernel_rfl) (by kernel_rfl) (by kernel_rfl) (fun _ _ _ h => h) (Or.inl ⟨by rfl, ?_⟩) (by assumption) ?_
          rotate_left
          · ((intro w hSw; (try dsimp only at hSw); go_simp; (try rw [if_neg (by omega)])); try with_reducible rfl)
          (try simp only [Act.put, List.setIfInBounds_toArray, List.set_cons_zero, List.set_cons_succ])
          refine wpAnyH_take (i := 1) (oi := { dst := some 31, op := Op.load 91 (Operand.tmp 3), type := 91, pos := "outline.go:173", after := #[], guard := none }) (v := ?_) rfl (by kernel_rfl) (by kernel_rfl) (by kernel_rfl) (fun _ _ _ h => h) (Or.inl ⟨by rfl, ?_⟩) (by assumption) ?_
          rotate_left
          · ((intro w hSw; (try dsimp only at hSw); go_simp; (try rw [if_neg (by omega)])); try with_reducible rfl)
          (try simp only [Act.put, List.setIfInBounds_toArray, List.set_cons_zero, List.set_cons_succ])
          refine wpAnyH_take (i := 2) (oi := { dst := some 32, op := Op.move (Operand.tmp 10), type := 102, pos := "outline.go:173", after := #[], guard := none }) (v := ?_) rfl (by kernel_rfl) (by kernel_rfl) (by kernel_rfl) (fun _ _ _ h => h) (Or.inl ⟨by rfl, ?_⟩) (by assumption) ?_
          rotate_left
          · ((intro w hSw; (try dsimp only at hSw); go_simp; (try rw [if_neg (by omega)])); try with_reducible rfl)
          (try simp only [Act.put, List.setIfInBounds_toArray, List.set_cons_zero, List.set_cons_succ])
          refine wpAnyH_take (i := 3) (oi := { dst := some 33, op := Op.nilCheck (Operand.tmp 32), type := 0, pos := "outline.go:173", after := #[{ on := 2, ground := Ground.data }], guard := none }) (v := ?_) rfl (by kernel_rfl) (by kernel_rfl) (by kernel_rfl) (fun _ _ _ h => h) (Or.inl ⟨by rfl, ?_⟩) (by assumption) ?_
          rotate_left
          · ((intro w hSw; (try dsimp only at hSw); go_simp; (try rw [if_neg (by omega)])); try with_reducible rfl)
          (try simp only [Act.put, List.setIfInBounds_toArray, List.set_cons_zero, List.set_cons_succ])
          refine wpAnyH_take (i := 4) (oi := { dst := some 34, op := Op.load 3 (Operand.tmp 33), type := 3, pos := "outline.go:173", after := #[{ on := 3, ground := Ground.data }], guard := none }) (v := ?_) rfl (by kernel_rfl) (by kernel_rfl) (by kernel_rfl) (fun _ _ _ h => h) (Or.inl ⟨by rfl, ?_⟩) (by assumption) ?_
          rotate_left
          · ((intro w hSw; (try dsimp only at hSw); go_simp; (try rw [if_neg (by omega)])); try with_reducible rfl)
          (try simp only [Act.put, List.setIfInBounds_toArray, List.set_cons_zero, List.set_cons_succ])
          refine wpAnyH_take (i := 5) (oi := { dst := some 35, op := Op.load 137 (Operand.tmp 6), type := 137, pos := "outline.go:173", after := #[], guard := none }) (v := ?_) rfl (by kernel_rfl) (by kernel_rfl) (by kernel_rfl) (fun _ _ _ h => h) (Or.inl ⟨by rfl, ?_⟩) (by assumption) ?_
          rotate_left
          · ((intro w hSw; (try dsimp only at hSw); go_simp; (try rw [if_neg (by omega)])); try with_reducible rfl)
          (try simp only [Act.put, List.setIfInBounds_toArray, List.set_cons_zero, List.set_cons_succ])
          refine wpAnyH_take (i := 6) (oi := { dst := some 36, op := Op.move (Operand.tmp 7), type := 3, pos := "outline.go:173", after := #[], guard := none }) (v := ?_) rfl (by kernel_rfl) (by kernel_rfl) (by kernel_rfl) (fun _ _ _ h => h) (Or.inl ⟨by rfl, ?_⟩) (by assumption) ?_
          rotate_left
          · ((intro w hSw; (try dsimp only at hSw); go_simp; (try rw [if_neg (by omega)])); try with_reducible rfl)
          (try simp only [Act.put, List.setIfInBounds_toArray, List.set_cons_zero, List.set_cons_succ])
          refine wpAnyH_take (i := 7) (oi := { dst := some 37, op := Op.move (Operand.tmp 9), type := 3, pos := "outline.go:173", after := #[], guard := none }) (v := ?_) rfl (by kernel_rfl) (by kernel_rfl) (by kernel_rfl) (fun _ _ _ h => h) (Or.inl ⟨by rfl, ?_⟩) (by assumption) ?_
          rotate_left
          · ((intro w hSw; (try dsimp only at hSw); go_simp; (try rw [if_neg (by omega)])); try with_reducible rfl)
          (try simp only [Act.put, List.setIfInBounds_toArray, List.set_cons_zero, List.set_cons_succ])
          refine wpAnyH_ready (rs := [8]) (by kernel_rfl) (by simp) ?_
          refine AllReadyH.cons (o := { dst := some 38, op := Op.call { callee := Callee.value (Operand.tmp 35), args := #[Operand.tmp 36, Operand.tmp 37], argTypes := #[3, 3] }, type := 136, pos := "outline.go:173", after := #[{ on := 5, ground := Ground.data }, { on := 6, ground := Ground.data }, { on := 7, ground := Ground.data }], guard := none }) rfl (fun K hK => ?_) AllReadyH.nil
          (go_simp; go_at_call 74; refine (move_any wd (k : Int) 1).mono ?_; rintro e w8 ⟨rfl, h8a, h8b, b8⟩; have H8 := Lib.hid (And.intro h8a h8b); have B8 := Lib.hid b8; obtain ⟨KB, hKB⟩ : ∃ KB, wd.heap.size = KB := ⟨_, rfl⟩; rw [hKB]; rw [hKB] at H8; clear h8a h8b; dsimp only)
          refine hK.out _ _ ?_ (fun hHeld => ?_)
          · first | exact HS.out _ B9.out | exact HS.out _ B8.out | exact HS.out _ (Below.refl _ _)
          clear hK K
          (try simp only [Act.put, List.setIfInBounds_toArray, List.set_cons_zero, List.set_cons_succ])
          refine wpAnyH_ready (rs := [9]) (by kernel_rfl) (by simp) ?_
          refine AllReadyH.cons (o := { dst := some 39, op := Op.call { callee := Callee.value (Operand.tmp 31), args := #[Operand.tmp 34, Operand.tmp 38], argTypes := #[3, 136] }, type := 3, pos := "outline.go:173", after := #[{ on := 1, ground := Ground.data }, { on := 4, ground := Ground.data }, { on := 8, ground := Ground.data }, { on := 8, ground := Ground.chain }], guard := none }) rfl (fun K hK => ?_) AllReadyH.nil
          (go_simp; go_at_call 36; refine (HSUM.out w8 KB (KB + 1) B8.out (nd_cell H8.out.1 rfl) (nd_cell H8.out.2 rfl) (Array.getElem?_eq_some_iff.1 H8.out.1).1 (Array.getElem?_eq_some_iff.1 H8.out.2).1).mono ?_; rintro e w9 ⟨rfl, b9⟩; have B9 := Lib.hid (bnext B8.out b9); dsimp only)
          refine hK.out _ _ ?_ (fun hHeld => ?_)
          · first | exact HS.out _ B9.out | exact HS.out _ B8.out | exact HS.out _ (Below.refl _ _)
          clear hK K
          (try simp only [Act.put, List.setIfInBounds_toArray, List.set_cons_zero, List.set_cons_succ])
          refine wpAnyH_take (i := 10) (oi := { dst := some 40, op := Op.nilCheck (Operand.tmp 30), type := 0, pos := "outline.go:173", after := #[{ on := 0, ground := Ground.data }, { on := 0, ground := Ground.phase }, { on := 1, ground := Ground.phase }, { on := 2, ground := Ground.phase }, { on := 3, ground := Ground.phase }, { on := 4, ground := Ground.phase }, { on := 5, ground := Ground.phase }, { on := 6, ground := Ground.phase }, { on := 7, ground := Ground.phase }, { on := 8, ground := Ground.phase }, { on := 9, ground := Ground.phase }], guard := none }) (v := ?_) rfl (by kernel_rfl) (by kernel_rfl) (by kernel_rfl) (fun _ _ _ h => h) (Or.inl ⟨by rfl, ?_⟩) (by assumption) ?_
          rotate_left
          · ((intro w hSw; (try dsimp only at hSw); go_simp; (try rw [if_neg (by omega)])); try with_reducible rfl)
          (try simp only [Act.put, List.setIfInBounds_toArray, List.set_cons_zero, List.set_cons_succ])
          refine wpAnyH_done (by kernel_rfl) ?_ _
          show Oper.wp _ _ _ _ _ _

          have hc9 := hHeld.2.2
          have hd9 := HDI.out.below HLW.out (bnext HDD.out B9.out)
          have hf9 : w9.frozen? ⟨g, o + 1, none⟩ = false := (hd9.num HRDY.out.sep (q := 1) (by decide) HL.out).2
          have HD9 : Hid (DI wx wl ms ga A.length nv (2 * k + 1 + 1) (w9.setCell ⟨g, o + 1, none⟩ (.int .i64 y))) := Lib.hid (by rw [← HY.out]; exact hd9.step HRDY.out.sep (q := 1) (by decide) HL.out hc9)
          have HF9 : Hid (FrS (inF ms ga A.length) W0 (w9.setCell ⟨g, o + 1, none⟩ (.int .i64 y))) := Lib.hid ((HFR.out.then (bnext HDD.out B9.out)).trans (FrS.set (S := inF ms ga A.length) w9 (b := g) (i := o + 1) HGF.out _))
          clear hd9 hHeld B8 B9 H8 HS HSUM b8 b9
          go_wp2
          refine HK9 _ _ ?_
          clear HK9
          gi_wp2
          go_roundw
          case rel => exact ⟨.inr (.inr ⟨by go_num, HD9⟩), HF9⟩
          case measure => simp [intOf]
        · gi_wp2
          refine ⟨HFR.out.keepsFrom _ (fun b o hb hN _ => by have := HLW.out b hb; omega), trivial, ?_⟩
          show DI wx wl ms ga A.length nv (2 * (pre ++ [(k, g, o)]).length) wr
          rw [List.length_append, List.length_singleton, ← HPK.out, Nat.mul_add]
          exact HDI.out
    case done =>
      rintro DD xs Wd hD hz hi hK
      have hlen : xs.length = (items ms ga A.length).length := hz
      rw [hlen] at hi
      have HDI := Lib.hid hi
      have HKD := Lib.hid hK
      have HDW : Hid (P + 2 ≤ DD ∧ P + 2 ≤ Wd.heap.size) := Lib.hid ⟨by have := HSL.out; omega, by have h1 := hi.fr.size; have := HSL.out; omega⟩
      have HGW : Hid (Wd.heap[B]? = some (.cells #[.slice ca cn ck, .slice aa an ak, .int .i64 hc, .int .i64 hx, .int .i64 hy, .int .i64 ad, .slice da dn dk, vp] 34) ∧ Wd.heap[B + 1]? = some (.cells #[(.func (.func 36) #[.agg #[vr, va, .slice da dn dk]] #[])] 91) ∧ Wd.heap[B + 2]? = some (.cells #[.slice none 0 0, .slice none 0 0, .int .i64 0, .int .i64 0, .int .i64 0, .int .i64 0] 41) ∧ Wd.heap[P]? = some (.cells #[.func (.func 74) #[] #[]] 137) ∧ Wd.heap[X]? = some (.cells #[.slice cla cln clc, .slice ala A.length alc, .int .i64 hc, .int .i64 hx, .int .i64 hy, .int .i64 0] 41)) := Lib.hid ⟨hi.nd HWL.out.1 (HNI.out _ (by omega)), hi.nd HWL.out.2.1 (HNI.out _ (by omega)), hi.nd HWL.out.2.2.1 (HNI.out _ (by omega)), hi.nd HWL.out.2.2.2.2.1 (HNI.out _ (by omega)), hi.nd HWL.out.2.2.2.1 (HNI.out _ (by omega))⟩
      have hXP : X < P ∧ B + 3 ≤ X := ⟨by have h1 := (Array.getElem?_eq_some_iff.1 HP0.out.2.2.1).1; have h2 := HP0.out.2.2.2.1; have h3 := HWL.out.2.2.2.1; have h4 := HWL.out.2.2.2.2.1; have h5 : X ≠ P := (fun e => by rw [e, h4] at h3; cases h3); omega, HBX.out.2⟩
      obtain ⟨hXP1, hXP2⟩ := hXP
      have hDP : P + 2 ≤ DD := HDW.out.1
      have HTB : Hid (∀ V, FrS (fun b => b = X) Wd V → Below W.heap.size W V) := Lib.hid fun V hV => hV.below W (HBW.out _ _ HDI.out) (fun b hb => by have := HX.out.2.2.2.2; omega)
      obtain ⟨kl, hkl⟩ : ∃ kl, OL.points G = kl + 1 := ⟨OL.points G - 1, by have := HNP.out; omega⟩
      have HKL := Lib.hid hkl
      have HPC := Lib.hid (points_any Wd _ G (HGL.out Wd (HBW.out _ _ hi)) HOKG.out)
      rw [hkl] at HPC
      have hki : (((kl + 1 : Nat) : Int)) = (kl : Int) + 1 := by omega
      rw [hki] at HPC
      have hw1 : IntKind.i64.wrap ((kl : Int) + 1 - 1) = (kl : Int) := by rw [show (kl : Int) + 1 - 1 = (kl : Int) by omega]; exact IntWalk.i64_in _ (by have := HP40.out; omega)
      have hw2 : IntKind.i64.wrap (kl : Int) = (kl : Int) := IntWalk.i64_in _ (by have := HP40.out; omega)
      have g0 : Wd.cell? ⟨B, 0, none⟩ = some (.slice ca cn ck) := nd_cell HGW.out.1 rfl
      have g1 : Wd.cell? ⟨B, 1, none⟩ = some (.slice aa an ak) := nd_cell HGW.out.1 rfl
      have g2 : Wd.cell? ⟨B, 2, none⟩ = some (.int .i64 hc) := nd_cell HGW.out.1 rfl
      have g3 : Wd.cell? ⟨B, 3, none⟩ = some (.int .i64 hx) := nd_cell HGW.out.1 rfl
      have g4 : Wd.cell? ⟨B, 4, none⟩ = some (.int .i64 hy) := nd_cell HGW.out.1 rfl
      have g5 : Wd.cell? ⟨B, 5, none⟩ = some (.int .i64 ad) := nd_cell HGW.out.1 rfl
      have g6 : Wd.cell? ⟨B, 6, none⟩ = some (.slice da dn dk) := nd_cell HGW.out.1 rfl
      have g7 : Wd.cell? ⟨B, 7, none⟩ = some vp := nd_cell HGW.out.1 rfl
      clear hi hK hz hlen hD hkl hki
      gi_upto_region 11 with fail
      gi_wp2_with fail
      refine ⟨trivial, ?_⟩
      gi_at_call 27
      refine (callsIn_wide.2 HPC.out).mono ?_
      rintro e w1 ⟨rfl, hb1⟩
      clear g0 g1 g2 g3 g4 g5 g6 g7 HPC
      have HXw1 := Lib.hid ((hb1.block X (Array.getElem?_eq_some_iff.1 HGW.out.2.2.2.2).1).trans HGW.out.2.2.2.2)
      have HTw1 : Hid (FrS (fun b => b = X) Wd w1) := Lib.hid (FrS.of hb1)
      clear hb1
      gi_upto_region 12 with fail
      rename_i K9 HK9'
      have HK9 := Lib.hid HK9'
      clear HK9'
      refine wpIn_mono (Q := Exit.then K9 (fun _ _ _ => False)) ?_ (fun e a w h => by cases e with | normal => exact h | _ => exact h.elim)
      have HDD : Hid (Below w1.heap.size w1 w1.drew) := Lib.hid (Below.drew (Below.refl _ _))
      have HS : Hid (∀ U, Below w1.drew.heap.size w1.drew U → (fun w' => w'.cell? ⟨B + 1, 0, none⟩ = some (.func (.func 36) #[.agg #[vr, va, .slice da dn dk]] #[]) ∧ w'.cell? ⟨P, 0, none⟩ = some (.func (.func 74) #[] #[]) ∧ w'.cell? ⟨B, 3, none⟩ = some (.int .i64 hx)) U) := Lib.hid fun U hU => by
        have hb := bnext HDD.out hU
        have k1 := HTw1.out.nd HGW.out.1 (by omega)
        have k2 := HTw1.out.nd HGW.out.2.1 (by omega)
        have k3 := HTw1.out.nd HGW.out.2.2.2.1 (by omega)
        exact ⟨nd_cell ((hb.block _ (Array.getElem?_eq_some_iff.1 k2).1).trans k2) rfl, nd_cell ((hb.block _ (Array.getElem?_eq_some_iff.1 k3).1).trans k3) rfl, nd_cell ((hb.block _ (Array.getElem?_eq_some_iff.1 k1).1).trans k1) rfl⟩
      obtain ⟨y0, hyq⟩ : ∃ y, f kl 0 hx = y := ⟨_, rfl⟩
      have HY0 := Lib.hid hyq
      have HSUM : Hid (∀ (U : World) (K Q : Nat), Below w1.drew.heap.size w1.drew U → U.cell? ⟨K, 0, none⟩ = some (.int .i64 (kl : Int)) → U.cell? ⟨Q, 0, none⟩ = some (.int .i64 0) → K < U.heap.size → Q < U.heap.size → Calls Try.prog 36 #[.agg #[vr, va, .slice da dn dk], .int .i64 hx, .func (.func 75) #[] #[.pointer (some ⟨K, 0, none⟩), .pointer (some ⟨Q, 0, none⟩)]] U fun e w' => e = .returned (.int .i64 y0) ∧ Below U.heap.size U w') := Lib.hid fun U K Q hU h1 h2 h3 h4 => by
        have hb : Below W.heap.size W U := bnext (HTB.out _ HTw1.out) (bnext HDD.out hU)
        have h5 := psum_move U vr va (.slice da dn dk) R at' D hx K Q kl 0 (HDS.out.keep hb) HLB.out.2 (HPL.out.1.keep hb) (HPL.out.2.1.keep hb) HPL.out.2.2.1 HPL.out.2.2.2.1 HPL.out.2.2.2.2 (fun d hd => by rw [HMV.out d hd, HKL.out]; omega) (by have := HKL.out; have := HP40.out; omega) (by decide) h1 (by simpa using h2) h3 h4
        have e : (AX.sum hx (D.map fun d => (d.r, OL.mv kl 0 d)) R at').1 = y0 := by
          rw [← HY0.out, ← HF.out]
          rfl
        rw [e] at h5
        exact h5
      clear hyq
      refine wpIn_wide.2 (wp_region_last #[{ dst := some 45, op := Op.load 91 (Operand.tmp 3), type := 91, pos := "outline.go:177", after := #[], guard := none }, { dst := some 46, op := Op.fieldAddr 34 (Operand.tmp 2) 2, type := 0, pos := "outline.go:177", after := #[], guard := none }, { dst := some 47, op := Op.fieldAddr 30 (Operand.tmp 46) 1, type := 0, pos := "outline.go:177", after := #[{ on := 1, ground := Ground.data }], guard := none }, { dst := some 48, op := Op.load 3 (Operand.tmp 47), type := 3, pos := "outline.go:177", after := #[{ on := 2, ground := Ground.data }], guard := none }, { dst := some 49, op := Op.load 137 (Operand.tmp 6), type := 137, pos := "outline.go:177", after := #[], guard := none }, { dst := some 50, op := Op.move (Operand.tmp 11), type := 3, pos := "outline.go:177", after := #[], guard := none }, { dst := some 51, op := Op.call { callee := Callee.value (Operand.tmp 49), args := #[Operand.tmp 50, Operand.const (Value.int IntKind.i64 0)], argTypes := #[3, 3] }, type := 136, pos := "outline.go:177", after := #[{ on := 4, ground := Ground.data }, { on := 5, ground := Ground.data }], guard := none }, { dst := some 52, op := Op.call { callee := Callee.value (Operand.tmp 45), args := #[Operand.tmp 48, Operand.tmp 51], argTypes := #[3, 136] }, type := 3, pos := "outline.go:177", after := #[{ on := 0, ground := Ground.data }, { on := 3, ground := Ground.data }, { on := 6, ground := Ground.data }, { on := 6, ground := Ground.chain }], guard := none }, { dst := some 53, op := Op.fieldAddr 41 (Operand.tmp 5) 2, type := 0, pos := "outline.go:177", after := #[{ on := 0, ground := Ground.phase }, { on := 1, ground := Ground.phase }, { on := 2, ground := Ground.phase }, { on := 3, ground := Ground.phase }, { on := 4, ground := Ground.phase }, { on := 5, ground := Ground.phase }, { on := 6, ground := Ground.phase }, { on := 7, ground := Ground.phase }], guard := none }, { dst := some 54, op := Op.fieldAddr 30 (Operand.tmp 53) 1, type := 0, pos := "outline.go:177", after := #[{ on := 8, ground := Ground.data }, { on := 0, ground := Ground.phase }, { on := 1, ground := Ground.phase }, { on := 2, ground := Ground.phase }, { on := 3, ground := Ground.phase }, { on := 4, ground := Ground.phase }, { on := 5, ground := Ground.phase }, { on := 6, ground := Ground.phase }, { on := 7, ground := Ground.phase }], guard := none }] { dst := none, op := Op.store 3 (Operand.tmp 54) (Operand.tmp 52), type := 0, pos := "outline.go:177", after := #[{ on := 9, ground := Ground.data }, { on := 7, ground := Ground.data }, { on := 7, ground := Ground.chain }, { on := 0, ground := Ground.phase }, { on := 1, ground := Ground.phase }, { on := 2, ground := Ground.phase }, { on := 3, ground := Ground.phase }, { on := 4, ground := Ground.phase }, { on := 5, ground := Ground.phase }, { on := 6, ground := Ground.phase }, { on := 7, ground := Ground.phase }], guard := none } rfl (by kernel_rfl) (by kernel_rfl) (fun w' => w'.cell? ⟨B + 1, 0, none⟩ = some (.func (.func 36) #[.agg #[vr, va, .slice da dn dk]] #[]) ∧ w'.cell? ⟨P, 0, none⟩ = some (.func (.func 74) #[] #[]) ∧ w'.cell? ⟨B, 3, none⟩ = some (.int .i64 hx)) ?_ (fun hHeld => ?_))
      · first | exact HS.out _ B9.out | exact HS.out _ B8.out | exact HS.out _ (Below.refl _ _)
      generalize w1.drew = wd at hHeld HS HSUM HDD ⊢
      refine wpAnyH_take (i := 0) (oi := { dst := some 45, op := Op.load 91 (Operand.tmp 3), type := 91, pos := "outline.go:177", after := #[], guard := none }) (v := ?_) rfl (by kernel_rfl) (by kernel_rfl) (by kernel_rfl) (fun _ _ _ h => h) (Or.inl ⟨by rfl, ?_⟩) (by assumption) ?_
      rotate_left
      · ((intro w hSw; (try dsimp only at hSw); go_simp; (try rw [if_neg (by omega)])); try with_reducible rfl)
      (try simp only [Act.put, List.setIfInBounds_toArray, List.set_cons_zero, List.set_cons_succ])
      refine wpAnyH_take (i := 1) (oi := { dst := some 46, op := Op.fieldAddr 34 (Operand.tmp 2) 2, type := 0, pos := "outline.go:177", after := #[], guard := none }) (v := ?_) rfl (by kernel_rfl) (by kernel_rfl) (by kernel_rfl) (fun _ _ _ h => h) (Or.inl ⟨by rfl, ?_⟩) (by assumption) ?_
      rotate_left
      · ((intro w hSw; (try dsimp only at hSw); go_simp; (try rw [if_neg (by omega)])); try with_reducible rfl)
      (try simp only [Act.put, List.setIfInBounds_toArray, List.set_cons_zero, List.set_cons_succ])
      refine wpAnyH_take (i := 2) (oi := { dst := some 47, op := Op.fieldAddr 30 (Operand.tmp 46) 1, type := 0, pos := "outline.go:177", after := #[{ on := 1, ground := Ground.data }], guard := none }) (v := ?_) rfl (by kernel_rfl) (by kernel_rfl) (by kernel_rfl) (fun _ _ _ h => h) (Or.inl ⟨by rfl, ?_⟩) (by assumption) ?_
      rotate_left
      · ((intro w hSw; (try dsimp only at hSw); go_simp; (try rw [if_neg (by omega)])); try with_reducible rfl)
      (try simp only [Act.put, List.setIfInBounds_toArray, List.set_cons_zero, List.set_cons_succ])
      refine wpAnyH_take (i := 3) (oi := { dst := some 48, op := Op.load 3 (Operand.tmp 47), type := 3, pos := "outline.go:177", after := #[{ on := 2, ground := Ground.data }], guard := none }) (v := ?_) rfl (by kernel_rfl) (by kernel_rfl) (by kernel_rfl) (fun _ _ _ h => h) (Or.inl ⟨by rfl, ?_⟩) (by assumption) ?_
      rotate_left
      · ((intro w hSw; (try dsimp only at hSw); go_simp; (try rw [if_neg (by omega)])); try with_reducible rfl)
      (try simp only [Act.put, List.setIfInBounds_toArray, List.set_cons_zero, List.set_cons_succ])
      refine wpAnyH_take (i := 4) (oi := { dst := some 49, op := Op.load 137 (Operand.tmp 6), type := 137, pos := "outline.go:177", after := #[], guard := none }) (v := ?_) rfl (by kernel_rfl) (by kernel_rfl) (by kernel_rfl) (fun _ _ _ h => h) (Or.inl ⟨by rfl, ?_⟩) (by assumption) ?_
      rotate_left
      · ((intro w hSw; (try dsimp only at hSw); go_simp; (try rw [if_neg (by omega)])); try with_reducible rfl)
      (try simp only [Act.put, List.setIfInBounds_toArray, List.set_cons_zero, List.set_cons_succ])
      refine wpAnyH_take (i := 5) (oi := { dst := some 50, op := Op.move (Operand.tmp 11), type := 3, pos := "outline.go:177", after := #[], guard := none }) (v := ?_) rfl (by kernel_rfl) (by kernel_rfl) (by kernel_rfl) (fun _ _ _ h => h) (Or.inl ⟨by rfl, ?_⟩) (by assumption) ?_
      rotate_left
      · ((intro w hSw; (try dsimp only at hSw); go_simp; (try rw [if_neg (by omega)])); try with_reducible rfl)
      (try simp only [Act.put, List.setIfInBounds_toArray, List.set_cons_zero, List.set_cons_succ])
      refine wpAnyH_ready (rs := [6]) (by kernel_rfl) (by simp) ?_
      refine AllReadyH.cons (o := { dst := some 51, op := Op.call { callee := Callee.value (Operand.tmp 49), args := #[Operand.tmp 50, Operand.const (Value.int IntKind.i64 0)], argTypes := #[3, 3] }, type := 136, pos := "outline.go:177", after := #[{ on := 4, ground := Ground.data }, { on := 5, ground := Ground.data }], guard := none }) rfl (fun K hK => ?_) AllReadyH.nil
      (go_simp; go_at_call 74; refine (move_any wd (kl : Int) 0).mono ?_; rintro e w8 ⟨rfl, h8a, h8b, b8⟩; have H8 := Lib.hid (And.intro h8a h8b); have B8 := Lib.hid b8; obtain ⟨KB, hKB⟩ : ∃ KB, wd.heap.size = KB := ⟨_, rfl⟩; rw [hKB]; rw [hKB] at H8; clear h8a h8b; dsimp only)
      refine hK.out _ _ ?_ (fun hHeld => ?_)
      · first | exact HS.out _ B9.out | exact HS.out _ B8.out | exact HS.out _ (Below.refl _ _)
      clear hK K
      (try simp only [Act.put, List.setIfInBounds_toArray, List.set_cons_zero, List.set_cons_succ])
      refine wpAnyH_ready (rs := [7]) (by kernel_rfl) (by simp) ?_
      refine AllReadyH.cons (o := { dst := some 52, op := Op.call { callee := Callee.value (Operand.tmp 45), args := #[Operand.tmp 48, Operand.tmp 51], argTypes := #[3, 136] }, type := 3, pos := "outline.go:177", after := #[{ on := 0, ground := Ground.data }, { on := 3, ground := Ground.data }, { on := 6, ground := Ground.data }, { on := 6, ground := Ground.chain }], guard := none }) rfl (fun K hK => ?_) AllReadyH.nil
      (go_simp; go_at_call 36; refine (HSUM.out w8 KB (KB + 1) B8.out (nd_cell H8.out.1 rfl) (nd_cell H8.out.2 rfl) (Array.getElem?_eq_some_iff.1 H8.out.1).1 (Array.getElem?_eq_some_iff.1 H8.out.2).1).mono ?_; rintro e w9 ⟨rfl, b9⟩; have B9 := Lib.hid (bnext B8.out b9); dsimp only)
      refine hK.out _ _ ?_ (fun hHeld => ?_)
      · first | exact HS.out _ B9.out | exact HS.out _ B8.out | exact HS.out _ (Below.refl _ _)
      clear hK K
      (try simp only [Act.put, List.setIfInBounds_toArray, List.set_cons_zero, List.set_cons_succ])
      refine wpAnyH_take (i := 8) (oi := { dst := some 53, op := Op.fieldAddr 41 (Operand.tmp 5) 2, type := 0, pos := "outline.go:177", after := #[{ on := 0, ground := Ground.phase }, { on := 1, ground := Ground.phase }, { on := 2, ground := Ground.phase }, { on := 3, ground := Ground.phase }, { on := 4, ground := Ground.phase }, { on := 5, ground := Ground.phase }, { on := 6, ground := Ground.phase }, { on := 7, ground := Ground.phase }], guard := none }) (v := ?_) rfl (by kernel_rfl) (by kernel_rfl) (by kernel_rfl) (fun _ _ _ h => h) (Or.inl ⟨by rfl, ?_⟩) (by assumption) ?_
      rotate_left
      · ((intro w hSw; (try dsimp only at hSw); go_simp; (try rw [if_neg (by omega)])); try with_reducible rfl)
      (try simp only [Act.put, List.setIfInBounds_toArray, List.set_cons_zero, List.set_cons_succ])
      refine wpAnyH_take (i := 9) (oi := { dst := some 54, op := Op.fieldAddr 30 (Operand.tmp 53) 1, type := 0, pos := "outline.go:177", after := #[{ on := 8, ground := Ground.data }, { on := 0, ground := Ground.phase }, { on := 1, ground := Ground.phase }, { on := 2, ground := Ground.phase }, { on := 3, ground := Ground.phase }, { on := 4, ground := Ground.phase }, { on := 5, ground := Ground.phase }, { on := 6, ground := Ground.phase }, { on := 7, ground := Ground.phase }], guard := none }) (v := ?_) rfl (by kernel_rfl) (by kernel_rfl) (by kernel_rfl) (fun _ _ _ h => h) (Or.inl ⟨by rfl, ?_⟩) (by assumption) ?_
      rotate_left
      · ((intro w hSw; (try dsimp only at hSw); go_simp; (try rw [if_neg (by omega)])); try with_reducible rfl)
      (try simp only [Act.put, List.setIfInBounds_toArray, List.set_cons_zero, List.set_cons_succ])
      refine wpAnyH_done (by kernel_rfl) ?_ _
      show Oper.wp _ _ _ _ _ _

      have hx9 := (bnext HDD.out B9.out).block X (Array.getElem?_eq_some_iff.1 HXw1.out).1 |>.trans HXw1.out
      have bcX : w9.cell? ⟨X, 3, none⟩ = some (.int .i64 hx) := nd_cell hx9 rfl
      have bfX := nd_froz hx9 3
      have HXw2 : Hid ((w9.setCell ⟨X, 3, none⟩ (.int .i64 y0)).heap[X]? = some (.cells #[.slice cla cln clc, .slice ala A.length alc, .int .i64 hc, .int .i64 y0, .int .i64 hy, .int .i64 0] 41 (0, 0))) := Lib.hid (heap_setCell_same w9 X 3 _ _ (.int .i64 y0) hx9)
      have HTw2 : Hid (FrS (fun b => b = X) Wd (w9.setCell ⟨X, 3, none⟩ (.int .i64 y0))) := Lib.hid ((HTw1.out.then (bnext HDD.out B9.out)).trans (FrS.set (S := (fun b => b = X)) w9 (b := X) (i := 3) rfl _))
      clear hx9 hHeld B8 B9 H8 HS HSUM HDD b8 b9
      go_wp2
      refine HK9.out _ _ ?_
      clear HK9 bcX bfX K9
      generalize w9.setCell ⟨X, 3, none⟩ (.int .i64 y0) = w2 at HXw2 HTw2 ⊢
      iterate 4 (try clear hHeld)
      try clear hKB KB
      clear HXw1 HTw1
      try clear w9
      try clear w8
      try clear wd
      gi_upto_region 13 with fail
      rename_i K9 HK9'
      have HK9 := Lib.hid HK9'
      clear HK9'
      refine wpIn_mono (Q := Exit.then K9 (fun _ _ _ => False)) ?_ (fun e a w h => by cases e with | normal => exact h | _ => exact h.elim)
      have HDD : Hid (Below w2.heap.size w2 w2.drew) := Lib.hid (Below.drew (Below.refl _ _))
      have HS : Hid (∀ U, Below w2.drew.heap.size w2.drew U → (fun w' => w'.cell? ⟨B + 1, 0, none⟩ = some (.func (.func 36) #[.agg #[vr, va, .slice da dn dk]] #[]) ∧ w'.cell? ⟨P, 0, none⟩ = some (.func (.func 74) #[] #[]) ∧ w'.cell? ⟨B, 4, none⟩ = some (.int .i64 hy)) U) := Lib.hid fun U hU => by
        have hb := bnext HDD.out hU
        have k1 := HTw2.out.nd HGW.out.1 (by omega)
        have k2 := HTw2.out.nd HGW.out.2.1 (by omega)
        have k3 := HTw2.out.nd HGW.out.2.2.2.1 (by omega)
        exact ⟨nd_cell ((hb.block _ (Array.getElem?_eq_some_iff.1 k2).1).trans k2) rfl, nd_cell ((hb.block _ (Array.getElem?_eq_some_iff.1 k3).1).trans k3) rfl, nd_cell ((hb.block _ (Array.getElem?_eq_some_iff.1 k1).1).trans k1) rfl⟩
      obtain ⟨y1, hyq⟩ : ∃ y, f kl 1 hy = y := ⟨_, rfl⟩
      have HY1 := Lib.hid hyq
      have HSUM : Hid (∀ (U : World) (K Q : Nat), Below w2.drew.heap.size w2.drew U → U.cell? ⟨K, 0, none⟩ = some (.int .i64 (kl : Int)) → U.cell? ⟨Q, 0, none⟩ = some (.int .i64 1) → K < U.heap.size → Q < U.heap.size → Calls Try.prog 36 #[.agg #[vr, va, .slice da dn dk], .int .i64 hy, .func (.func 75) #[] #[.pointer (some ⟨K, 0, none⟩), .pointer (some ⟨Q, 0, none⟩)]] U fun e w' => e = .returned (.int .i64 y1) ∧ Below U.heap.size U w') := Lib.hid fun U K Q hU h1 h2 h3 h4 => by
        have hb : Below W.heap.size W U := bnext (HTB.out _ HTw2.out) (bnext HDD.out hU)
        have h5 := psum_move U vr va (.slice da dn dk) R at' D hy K Q kl 1 (HDS.out.keep hb) HLB.out.2 (HPL.out.1.keep hb) (HPL.out.2.1.keep hb) HPL.out.2.2.1 HPL.out.2.2.2.1 HPL.out.2.2.2.2 (fun d hd => by rw [HMV.out d hd, HKL.out]; omega) (by have := HKL.out; have := HP40.out; omega) (by decide) h1 (by simpa using h2) h3 h4
        have e : (AX.sum hy (D.map fun d => (d.r, OL.mv kl 1 d)) R at').1 = y1 := by
          rw [← HY1.out, ← HF.out]
          rfl
        rw [e] at h5
        exact h5
      clear hyq
      refine wpIn_wide.2 (wp_region_last #[{ dst := some 55, op := Op.load 91 (Operand.tmp 3), type := 91, pos := "outline.go:178", after := #[], guard := none }, { dst := some 56, op := Op.fieldAddr 34 (Operand.tmp 2) 2, type := 0, pos := "outline.go:178", after := #[], guard := none }, { dst := some 57, op := Op.fieldAddr 30 (Operand.tmp 56) 2, type := 0, pos := "outline.go:178", after := #[{ on := 1, ground := Ground.data }], guard := none }, { dst := some 58, op := Op.load 3 (Operand.tmp 57), type := 3, pos := "outline.go:178", after := #[{ on := 2, ground := Ground.data }], guard := none }, { dst := some 59, op := Op.load 137 (Operand.tmp 6), type := 137, pos := "outline.go:178", after := #[], guard := none }, { dst := some 60, op := Op.move (Operand.tmp 11), type := 3, pos := "outline.go:178", after := #[], guard := none }, { dst := some 61, op := Op.call { callee := Callee.value (Operand.tmp 59), args := #[Operand.tmp 60, Operand.const (Value.int IntKind.i64 1)], argTypes := #[3, 3] }, type := 136, pos := "outline.go:178", after := #[{ on := 4, ground := Ground.data }, { on := 5, ground := Ground.data }], guard := none }, { dst := some 62, op := Op.call { callee := Callee.value (Operand.tmp 55), args := #[Operand.tmp 58, Operand.tmp 61], argTypes := #[3, 136] }, type := 3, pos := "outline.go:178", after := #[{ on := 0, ground := Ground.data }, { on := 3, ground := Ground.data }, { on := 6, ground := Ground.data }, { on := 6, ground := Ground.chain }], guard := none }, { dst := some 63, op := Op.fieldAddr 41 (Operand.tmp 5) 2, type := 0, pos := "outline.go:178", after := #[{ on := 0, ground := Ground.phase }, { on := 1, ground := Ground.phase }, { on := 2, ground := Ground.phase }, { on := 3, ground := Ground.phase }, { on := 4, ground := Ground.phase }, { on := 5, ground := Ground.phase }, { on := 6, ground := Ground.phase }, { on := 7, ground := Ground.phase }], guard := none }, { dst := some 64, op := Op.fieldAddr 30 (Operand.tmp 63) 2, type := 0, pos := "outline.go:178", after := #[{ on := 8, ground := Ground.data }, { on := 0, ground := Ground.phase }, { on := 1, ground := Ground.phase }, { on := 2, ground := Ground.phase }, { on := 3, ground := Ground.phase }, { on := 4, ground := Ground.phase }, { on := 5, ground := Ground.phase }, { on := 6, ground := Ground.phase }, { on := 7, ground := Ground.phase }], guard := none }] { dst := none, op := Op.store 3 (Operand.tmp 64) (Operand.tmp 62), type := 0, pos := "outline.go:178", after := #[{ on := 9, ground := Ground.data }, { on := 7, ground := Ground.data }, { on := 7, ground := Ground.chain }, { on := 0, ground := Ground.phase }, { on := 1, ground := Ground.phase }, { on := 2, ground := Ground.phase }, { on := 3, ground := Ground.phase }, { on := 4, ground := Ground.phase }, { on := 5, ground := Ground.phase }, { on := 6, ground := Ground.phase }, { on := 7, ground := Ground.phase }], guard := none } rfl (by kernel_rfl) (by kernel_rfl) (fun w' => w'.cell? ⟨B + 1, 0, none⟩ = some (.func (.func 36) #[.agg #[vr, va, .slice da dn dk]] #[]) ∧ w'.cell? ⟨P, 0, none⟩ = some (.func (.func 74) #[] #[]) ∧ w'.cell? ⟨B, 4, none⟩ = some (.int .i64 hy)) ?_ (fun hHeld => ?_))
      · first | exact HS.out _ B9.out | exact HS.out _ B8.out | exact HS.out _ (Below.refl _ _)
      generalize w2.drew = wd at hHeld HS HSUM HDD ⊢
      refine wpAnyH_take (i := 0) (oi := { dst := some 55, op := Op.load 91 (Operand.tmp 3), type := 91, pos := "outline.go:178", after := #[], guard := none }) (v := ?_) rfl (by kernel_rfl) (by kernel_rfl) (by kernel_rfl) (fun _ _ _ h => h) (Or.inl ⟨by rfl, ?_⟩) (by assumption) ?_
      rotate_left
      · ((intro w hSw; (try dsimp only at hSw); go_simp; (try rw [if_neg (by omega)])); try with_reducible rfl)
      (try simp only [Act.put, List.setIfInBounds_toArray, List.set_cons_zero, List.set_cons_succ])
      refine wpAnyH_take (i := 1) (oi := { dst := some 56, op := Op.fieldAddr 34 (Operand.tmp 2) 2, type := 0, pos := "outline.go:178", after := #[], guard := none }) (v := ?_) rfl (by kernel_rfl) (by kernel_rfl) (by kernel_rfl) (fun _ _ _ h => h) (Or.inl ⟨by rfl, ?_⟩) (by assumption) ?_
      rotate_left
      · ((intro w hSw; (try dsimp only at hSw); go_simp; (try rw [if_neg (by omega)])); try with_reducible rfl)
      (try simp only [Act.put, List.setIfInBounds_toArray, List.set_cons_zero, List.set_cons_succ])
      refine wpAnyH_take (i := 2) (oi := { dst := some 57, op := Op.fieldAddr 30 (Operand.tmp 56) 2, type := 0, pos := "outline.go:178", after := #[{ on := 1, ground := Ground.data }], guard := none }) (v := ?_) rfl (by kernel_rfl) (by kernel_rfl) (by kernel_rfl) (fun _ _ _ h => h) (Or.inl ⟨by rfl, ?_⟩) (by assumption) ?_
      rotate_left
      · ((intro w hSw; (try dsimp only at hSw); go_simp; (try rw [if_neg (by omega)])); try with_reducible rfl)
      (try simp only [Act.put, List.setIfInBounds_toArray, List.set_cons_zero, List.set_cons_succ])
      refine wpAnyH_take (i := 3) (oi := { dst := some 58, op := Op.load 3 (Operand.tmp 57), type := 3, pos := "outline.go:178", after := #[{ on := 2, ground := Ground.data }], guard := none }) (v := ?_) rfl (by kernel_rfl) (by kernel_rfl) (by kernel_rfl) (fun _ _ _ h => h) (Or.inl ⟨by rfl, ?_⟩) (by assumption) ?_
      rotate_left
      · ((intro w hSw; (try dsimp only at hSw); go_simp; (try rw [if_neg (by omega)])); try with_reducible rfl)
      (try simp only [Act.put, List.setIfInBounds_toArray, List.set_cons_zero, List.set_cons_succ])
      refine wpAnyH_take (i := 4) (oi := { dst := some 59, op := Op.load 137 (Operand.tmp 6), type := 137, pos := "outline.go:178", after := #[], guard := none }) (v := ?_) rfl (by kernel_rfl) (by kernel_rfl) (by kernel_rfl) (fun _ _ _ h => h) (Or.inl ⟨by rfl, ?_⟩) (by assumption) ?_
      rotate_left
      · ((intro w hSw; (try dsimp only at hSw); go_simp; (try rw [if_neg (by omega)])); try with_reducible rfl)
      (try simp only [Act.put, List.setIfInBounds_toArray, List.set_cons_zero, List.set_cons_succ])
      refine wpAnyH_take (i := 5) (oi := { dst := some 60, op := Op.move (Operand.tmp 11), type := 3, pos := "outline.go:178", after := #[], guard := none }) (v := ?_) rfl (by kernel_rfl) (by kernel_rfl) (by kernel_rfl) (fun _ _ _ h => h) (Or.inl ⟨by rfl, ?_⟩) (by assumption) ?_
      rotate_left
      · ((intro w hSw; (try dsimp only at hSw); go_simp; (try rw [if_neg (by omega)])); try with_reducible rfl)
      (try simp only [Act.put, List.setIfInBounds_toArray, List.set_cons_zero, List.set_cons_succ])
      refine wpAnyH_ready (rs := [6]) (by kernel_rfl) (by simp) ?_
      refine AllReadyH.cons (o := { dst := some 61, op := Op.call { callee := Callee.value (Operand.tmp 59), args := #[Operand.tmp 60, Operand.const (Value.int IntKind.i64 1)], argTypes := #[3, 3] }, type := 136, pos := "outline.go:178", after := #[{ on := 4, ground := Ground.data }, { on := 5, ground := Ground.data }], guard := none }) rfl (fun K hK => ?_) AllReadyH.nil
      (go_simp; go_at_call 74; refine (move_any wd (kl : Int) 1).mono ?_; rintro e w8 ⟨rfl, h8a, h8b, b8⟩; have H8 := Lib.hid (And.intro h8a h8b); have B8 := Lib.hid b8; obtain ⟨KB, hKB⟩ : ∃ KB, wd.heap.size = KB := ⟨_, rfl⟩; rw [hKB]; rw [hKB] at H8; clear h8a h8b; dsimp only)
      refine hK.out _ _ ?_ (fun hHeld => ?_)
      · first | exact HS.out _ B9.out | exact HS.out _ B8.out | exact HS.out _ (Below.refl _ _)
      clear hK K
      (try simp only [Act.put, List.setIfInBounds_toArray, List.set_cons_zero, List.set_cons_succ])
      refine wpAnyH_ready (rs := [7]) (by kernel_rfl) (by simp) ?_
      refine AllReadyH.cons (o := { dst := some 62, op := Op.call { callee := Callee.value (Operand.tmp 55), args := #[Operand.tmp 58, Operand.tmp 61], argTypes := #[3, 136] }, type := 3, pos := "outline.go:178", after := #[{ on := 0, ground := Ground.data }, { on := 3, ground := Ground.data }, { on := 6, ground := Ground.data }, { on := 6, ground := Ground.chain }], guard := none }) rfl (fun K hK => ?_) AllReadyH.nil
      (go_simp; go_at_call 36; refine (HSUM.out w8 KB (KB + 1) B8.out (nd_cell H8.out.1 rfl) (nd_cell H8.out.2 rfl) (Array.getElem?_eq_some_iff.1 H8.out.1).1 (Array.getElem?_eq_some_iff.1 H8.out.2).1).mono ?_; rintro e w9 ⟨rfl, b9⟩; have B9 := Lib.hid (bnext B8.out b9); dsimp only)
      refine hK.out _ _ ?_ (fun hHeld => ?_)
      · first | exact HS.out _ B9.out | exact HS.out _ B8.out | exact HS.out _ (Below.refl _ _)
      clear hK K
      (try simp only [Act.put, List.setIfInBounds_toArray, List.set_cons_zero, List.set_cons_succ])
      refine wpAnyH_take (i := 8) (oi := { dst := some 63, op := Op.fieldAddr 41 (Operand.tmp 5) 2, type := 0, pos := "outline.go:178", after := #[{ on := 0, ground := Ground.phase }, { on := 1, ground := Ground.phase }, { on := 2, ground := Ground.phase }, { on := 3, ground := Ground.phase }, { on := 4, ground := Ground.phase }, { on := 5, ground := Ground.phase }, { on := 6, ground := Ground.phase }, { on := 7, ground := Ground.phase }], guard := none }) (v := ?_) rfl (by kernel_rfl) (by kernel_rfl) (by kernel_rfl) (fun _ _ _ h => h) (Or.inl ⟨by rfl, ?_⟩) (by assumption) ?_
      rotate_left
      · ((intro w hSw; (try dsimp only at hSw); go_simp; (try rw [if_neg (by omega)])); try with_reducible rfl)
      (try simp only [Act.put, List.setIfInBounds_toArray, List.set_cons_zero, List.set_cons_succ])
      refine wpAnyH_take (i := 9) (oi := { dst := some 64, op := Op.fieldAddr 30 (Operand.tmp 63) 2, type := 0, pos := "outline.go:178", after := #[{ on := 8, ground := Ground.data }, { on := 0, ground := Ground.phase }, { on := 1, ground := Ground.phase }, { on := 2, ground := Ground.phase }, { on := 3, ground := Ground.phase }, { on := 4, ground := Ground.phase }, { on := 5, ground := Ground.phase }, { on := 6, ground := Ground.phase }, { on := 7, ground := Ground.phase }], guard := none }) (v := ?_) rfl (by kernel_rfl) (by kernel_rfl) (by kernel_rfl) (fun _ _ _ h => h) (Or.inl ⟨by rfl, ?_⟩) (by assumption) ?_
      rotate_left
      · ((intro w hSw; (try dsimp only at hSw); go_simp; (try rw [if_neg (by omega)])); try with_reducible rfl)
      (try simp only [Act.put, List.setIfInBounds_toArray, List.set_cons_zero, List.set_cons_succ])
      refine wpAnyH_done (by kernel_rfl) ?_ _
      show Oper.wp _ _ _ _ _ _

      have hx9 := (bnext HDD.out B9.out).block X (Array.getElem?_eq_some_iff.1 HXw2.out).1 |>.trans HXw2.out
      have bcX : w9.cell? ⟨X, 4, none⟩ = some (.int .i64 hy) := nd_cell hx9 rfl
      have bfX := nd_froz hx9 4
      have HXw3 : Hid ((w9.setCell ⟨X, 4, none⟩ (.int .i64 y1)).heap[X]? = some (.cells #[.slice cla cln clc, .slice ala A.length alc, .int .i64 hc, .int .i64 y0, .int .i64 y1, .int .i64 0] 41 (0, 0))) := Lib.hid (heap_setCell_same w9 X 4 _ _ (.int .i64 y1) hx9)
      have HTw3 : Hid (FrS (fun b => b = X) Wd (w9.setCell ⟨X, 4, none⟩ (.int .i64 y1))) := Lib.hid ((HTw2.out.then (bnext HDD.out B9.out)).trans (FrS.set (S := (fun b => b = X)) w9 (b := X) (i := 4) rfl _))
      clear hx9 hHeld B8 B9 H8 HS HSUM HDD b8 b9
      go_wp2
      refine HK9.out _ _ ?_
      clear HK9 bcX bfX K9
      generalize w9.setCell ⟨X, 4, none⟩ (.int .i64 y1) = w3 at HXw3 HTw3 ⊢
      iterate 4 (try clear hHeld)
      try clear hKB KB
      clear HXw2 HTw2
      try clear w9
      try clear w8
      try clear wd
      gi_upto_region 14 with fail
      have k1 := HTw3.out.nd HGW.out.1 (by omega)
      have k2 := HTw3.out.nd HGW.out.2.1 (by omega)
      have g1 : w3.cell? ⟨B + 1, 0, none⟩ = some (.func (.func 36) #[.agg #[vr, va, .slice da dn dk]] #[]) := nd_cell k2 rfl
      have g5 : w3.cell? ⟨B, 5, none⟩ = some (.int .i64 ad) := nd_cell k1 rfl
      obtain ⟨y2, hy2⟩ : ∃ y, (AX.sum ad (D.map fun d => (d.r, OL.av d)) R at').1 = y := ⟨_, rfl⟩
      have HY2 := Lib.hid hy2
      have HADV := Lib.hid (psum_adv w3 vr va (.slice da dn dk) R at' D ad (HDS.out.keep (HTB.out _ HTw3.out)) HLB.out.2 (HPL.out.1.keep (HTB.out _ HTw3.out)) (HPL.out.2.1.keep (HTB.out _ HTw3.out)) HPL.out.2.2.1 HPL.out.2.2.2.1 HPL.out.2.2.2.2)
      rw [hy2] at HADV
      clear k1 k2 hy2
      gi_wp2_with fail
      refine ⟨trivial, ?_⟩
      gi_at_call 36
      refine (callsIn_wide.2 HADV.out).mono ?_
      rintro e w4 ⟨rfl, hb4⟩
      clear g1 g5
      have hx4 := (hb4.block X (Array.getElem?_eq_some_iff.1 HXw3.out).1).trans HXw3.out
      have bcX : w4.cell? ⟨X, 5, none⟩ = some (.int .i64 0) := nd_cell hx4 rfl
      have bfX := nd_froz hx4 5
      have HXw5 : Hid ((w4.setCell ⟨X, 5, none⟩ (.int .i64 y2)).heap[X]? = some (.cells #[.slice cla cln clc, .slice ala A.length alc, .int .i64 hc, .int .i64 y0, .int .i64 y1, .int .i64 y2] 41 (0, 0))) := Lib.hid (heap_setCell_same w4 X 5 _ _ (.int .i64 y2) hx4)
      have HTw5 : Hid (FrS (fun b => b = X) Wd (w4.setCell ⟨X, 5, none⟩ (.int .i64 y2))) := Lib.hid ((HTw3.out.then hb4).trans (FrS.set (S := (fun b => b = X)) w4 (b := X) (i := 5) rfl _))
      clear hx4 hb4
      gi_upto_region 15 with fail
      clear bcX bfX HADV
      generalize w4.setCell ⟨X, 5, none⟩ (.int .i64 y2) = w5 at HXw5 HTw5 ⊢
      have c0 : w5.cell? ⟨X, 0, none⟩ = some (.slice cla cln clc) := nd_cell HXw5.out rfl
      have c1 : w5.cell? ⟨X, 1, none⟩ = some (.slice ala A.length alc) := nd_cell HXw5.out rfl
      have c2 : w5.cell? ⟨X, 2, none⟩ = some (.int .i64 hc) := nd_cell HXw5.out rfl
      have c3 : w5.cell? ⟨X, 3, none⟩ = some (.int .i64 y0) := nd_cell HXw5.out rfl
      have c4 : w5.cell? ⟨X, 4, none⟩ = some (.int .i64 y1) := nd_cell HXw5.out rfl
      have c5 : w5.cell? ⟨X, 5, none⟩ = some (.int .i64 y2) := nd_cell HXw5.out rfl
      have hz := HTw5.out.nd HGW.out.2.2.1 (by omega)
      have hkd := HTw5.out.nd HKD.out (by omega)
      have z0 : w5.cell? ⟨B + 2, 0, none⟩ = some (.slice none 0 0) := nd_cell hz rfl
      have zf0 := nd_froz hz 0
      have z1 : w5.cell? ⟨B + 2, 1, none⟩ = some (.slice none 0 0) := nd_cell hz rfl
      have zf1 := nd_froz hz 1
      have z2 : w5.cell? ⟨B + 2, 2, none⟩ = some (.int .i64 0) := nd_cell hz rfl
      have zf2 := nd_froz hz 2
      have z3 : w5.cell? ⟨B + 2, 3, none⟩ = some (.int .i64 0) := nd_cell hz rfl
      have zf3 := nd_froz hz 3
      have z4 : w5.cell? ⟨B + 2, 4, none⟩ = some (.int .i64 0) := nd_cell hz rfl
      have zf4 := nd_froz hz 4
      have z5 : w5.cell? ⟨B + 2, 5, none⟩ = some (.int .i64 0) := nd_cell hz rfl
      have zf5 := nd_froz hz 5
      obtain ⟨w6, hw6, hz6, hf6⟩ := sto6 hz (.slice cla cln clc) (.slice ala A.length alc) (.int .i64 hc) (.int .i64 y0) (.int .i64 y1) (.int .i64 y2)
      have HZ6 := Lib.hid hz6
      have HT6 : Hid (FrS (fun b => b = X ∨ b = B + 2 ∨ b = DD) Wd w6) := Lib.hid ((HTw5.out.mono (fun b e => .inl e)).trans (hf6.mono (fun b e => .inr (.inl e))))
      have HKW : Hid (w6.heap[DD]? = some (.deferred (some []))) := Lib.hid (hf6.nd hkd (by omega))
      clear hz hz6 hf6 hkd
      gi_wp2_with fail
      try rw [hw6]
      refine ⟨by simp, .inl ⟨_, _, rfl, run_takeDeferred HKW.out, ?_⟩⟩
      have hfd : FrS (fun b => b = DD) w6 (w6.putObj DD (.deferred none)) := FrS.grown (S := fun b => b = DD) (grownBy_putObj' w6 DD (.deferred none)) (fun r e => (Option.some.inj e).symm)
      generalize w6.putObj DD (.deferred none) = wf at hfd ⊢
      have HFF : FrS (fun b => b = X ∨ b = B + 2 ∨ b = DD) Wd wf := HT6.out.trans (hfd.mono (fun b e => .inr (.inr e)))
      have hkk : OL.points G - 1 = kl := by have := HKL.out; omega
      refine ⟨_, results_cell_row Try.results35 _ _ (B + 2) 41 _ (0, 0) _ rfl (hfd.nd HZ6.out (by omega)) Try.underlying41 rfl (by kernel_rfl), ?_⟩
      refine ⟨_, rfl, fun U hU => ?_, HFF.below W (HBW.out _ _ HDI.out) (fun b hb => by have := HX.out.2.2.2.2; rcases hb with e | e | e <;> omega)⟩
      have HFU : FrS (fun b => b = X ∨ b = B + 2 ∨ b = DD ∨ b < B) Wd U := (HFF.mono (fun b e => by rcases e with e | e | e <;> simp [e])).trans (hU.mono (fun b e => .inr (.inr (.inr (by have := HX.out.2.2.2.2; omega)))))
      have hTI : ∀ g, inF ms ga A.length g → ¬ (fun b => b = X ∨ b = B + 2 ∨ b = DD ∨ b < B) g := fun g hg e => by
        have h1 := HLI.out g hg
        rcases e with e | e | e | e <;> omega
      have hup := HDI.out.up.fr HFU hTI (fun t' ht => adr_inF ht)
      have hsr := HRDY.out.srcAt (S := fun b => inF ms ga A.length b ∨ (fun b => b = X ∨ b = B + 2 ∨ b = DD ∨ b < B) b) HBL.out ((HDI.out.fr.mono (fun b e => .inl e)).trans (HFU.mono (fun b e => .inr e))) (fun g e hg => by
        rcases hg with hg | hg | hg | hg | hg
        · exact (HRDY.out.lt g hg).2.2 e
        · exact (HV2.out g e).2.2 hg
        · rw [hg] at e
          have h1 := HV2.out _ e
          omega
        · rw [hg] at e
          have h1 := HV2.out _ e
          have h2 := HP0.out.2.2.2.2
          omega
        · have h1 := HV2.out _ e
          omega)
      rw [← HNV.out] at hup
      obtain ⟨hcs, han⟩ := finish HRDY.out hup hsr
      rw [HDR.out, hkk, HY0.out, HY1.out, HY2.out]
      exact ⟨_, _, rfl, hcs, han⟩
    case stop =>
      rintro D c pre W _ _ h _
      exact h.elim
  clear hK
  refine wpIn_mono (Q := Exit.then K (fun _ _ _ => False)) ?_ (fun e a w h => by cases e with | normal => exact h | _ => exact h.elim)
  exact draw_first m W W1 vr va vp hc hx hy ad ca aa da ck ak dk cn an dn B C A D HOKC HLB HLN HCS HAN HB1 HX HGC K hK2
end Go.Proofs.Ytanppbdlcinpfaa
