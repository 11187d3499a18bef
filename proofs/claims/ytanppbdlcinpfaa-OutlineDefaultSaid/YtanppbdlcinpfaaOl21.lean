/- Scaling an outline. No conditions. -/
import Derived.Test.YtanppbdlcinpfaaOl21z
set_option linter.unusedSimpArgs false
set_option linter.unusedVariables false
namespace Go.Proofs.Ytanppbdlcinpfaa
set_option maxRecDepth 100000
set_option linter.unusedVariables false
open Go.RowKit Go.Shelf Go.Deep
attribute [local go_sem] Oper.semAt_some
theorem set_two {W V w' : World} {X P i : Nat} {cs : Array Value} {T T2 : TypeId} {a b' u : Value} (hx : W.heap[X]? = some (.cells cs T (0, 0))) (hp : W.heap[P]? = some (.cells #[u] T2 (0, 0))) (hXP : X ≠ P) (hb : Below W.heap.size W V) (hw : w' = (V.setCell ⟨X, i, none⟩ a).setCell ⟨P, 0, none⟩ b') : w'.heap[X]? = some (.cells (cs.setIfInBounds i a) T (0, 0)) ∧ w'.heap[P]? = some (.cells #[b'] T2 (0, 0)) ∧ FrS (fun b => b = X ∨ b = P) W w' := by
  subst hw
  have x1 := heap_setCell_same V X i cs T a ((hb.block X (Array.getElem?_eq_some_iff.1 hx).1).trans hx)
  have f1 : FrS (fun b => b = X) V (V.setCell ⟨X, i, none⟩ a) := FrS.set (S := fun b => b = X) V (b := X) (i := i) rfl a
  have p1 := f1.nd ((hb.block P (Array.getElem?_eq_some_iff.1 hp).1).trans hp) (fun e => hXP e.symm)
  generalize V.setCell ⟨X, i, none⟩ a = V1 at x1 f1 p1 ⊢
  have f2 : FrS (fun b => b = P) V1 (V1.setCell ⟨P, 0, none⟩ b') := FrS.set (S := fun b => b = P) V1 (b := P) (i := 0) rfl b'
  exact ⟨f2.nd x1 (fun e => hXP e), heap_setCell_same V1 P 0 _ _ b' p1, ((FrS.of hb).trans (f1.mono fun b e => .inl e)).trans (f2.mono fun b e => .inr e)⟩
set_option maxHeartbeats 16000000 in
theorem scale_in (m : Nat) (hm : 3 ≤ m) (W : World) (v : Value) (d : Dr) (size : Int) (hv : DrAt W v d) (hok : CsOk d.cs) (hla : d.an.length ≤ 1000) :
    CallsIn Fence.wide m Try.prog 18 #[v, .int .i64 size] W fun e W' => ∃ v', e = .returned v' ∧ (∀ U, FrS (fun b => b < W.heap.size) W' U → DrAt U v' (OL.scale d size)) ∧ Below W.heap.size W W' := by
  have h1m : 1 ≤ m := by omega
  obtain ⟨C, A, ⟨hc, hx, hy⟩, ad⟩ := d
  obtain ⟨vc, vA, rfl, h1, h2⟩ := hv
  dsimp only at h1 h2 hok hla ⊢
  obtain ⟨ca, ck, rfl⟩ := h1.shape
  obtain ⟨aa, ak, rfl⟩ := h2.shape
  obtain ⟨cn, hcn⟩ : ∃ cn, C.length = cn := ⟨_, rfl⟩
  obtain ⟨an, han⟩ : ∃ an, A.length = an := ⟨_, rfl⟩
  rw [hcn] at h1 ⊢
  rw [han] at h2 ⊢
  have HLN : Hid (C.length = cn ∧ A.length = an ∧ 0 = 0) := Lib.hid ⟨hcn, han, rfl⟩
  have HLB : Hid (A.length ≤ 1000 ∧ 0 ≤ 1000) := Lib.hid ⟨hla, by decide⟩
  have HOKC := Lib.hid hok
  have HCS := Lib.hid h1
  have HAN := Lib.hid h2
  have HSC : Hid (OL.scale ⟨C, A, ⟨hc, hx, hy⟩, ad⟩ size = if size < 4 ∨ 32 < size then OL.zd else if (okb (okF (nums C A) size) (2 * (OL.pts C + A.length)) && (F.FP.mulS hx size).2 && (F.FP.mulS hy size).2 && (F.FP.mulS ad size).2) = true then ⟨tcs (OL.sz size) 0 C, tan (OL.sz size) (OL.pts C) A, ⟨hc, (F.FP.mulS hx size).1, (F.FP.mulS hy size).1⟩, (F.FP.mulS ad size).1⟩ else OL.zd) := Lib.hid rfl
  obtain ⟨SD, hSD⟩ : ∃ s, OL.scale ⟨C, A, ⟨hc, hx, hy⟩, ad⟩ size = s := ⟨_, rfl⟩
  rw [hSD] at HSC ⊢
  clear hok hla h1 h2 hcn han hSD
  obtain ⟨B, hB⟩ : ∃ B, W.heap.size = B := ⟨_, rfl⟩
  have x0 := heap_alloc_new W (.cells #[.slice ca cn ck, .slice aa an ak, .int .i64 hc, .int .i64 hx, .int .i64 hy, .int .i64 ad] 41)
  have x1 := heap_alloc_new (W.alloc (.cells #[.slice ca cn ck, .slice aa an ak, .int .i64 hc, .int .i64 hx, .int .i64 hy, .int .i64 ad] 41)) (.cells #[.int .i64 size] 3)
  have x2 := heap_alloc_new ((W.alloc (.cells #[.slice ca cn ck, .slice aa an ak, .int .i64 hc, .int .i64 hx, .int .i64 hy, .int .i64 ad] 41)).alloc (.cells #[.int .i64 size] 3)) (.cells #[.slice none 0 0, .slice none 0 0, .int .i64 0, .int .i64 0, .int .i64 0, .int .i64 0] 41)
  simp only [World.size_alloc] at x1 x2
  have hb3 := balloc (balloc (balloc (Below.refl _ W) (.cells #[.slice ca cn ck, .slice aa an ak, .int .i64 hc, .int .i64 hx, .int .i64 hy, .int .i64 ad] 41)) (.cells #[.int .i64 size] 3)) (.cells #[.slice none 0 0, .slice none 0 0, .int .i64 0, .int .i64 0, .int .i64 0, .int .i64 0] 41)
  obtain ⟨W1, hW1⟩ : ∃ W1, ((W.alloc (.cells #[.slice ca cn ck, .slice aa an ak, .int .i64 hc, .int .i64 hx, .int .i64 hy, .int .i64 ad] 41)).alloc (.cells #[.int .i64 size] 3)).alloc (.cells #[.slice none 0 0, .slice none 0 0, .int .i64 0, .int .i64 0, .int .i64 0, .int .i64 0] 41) = W1 := ⟨_, rfl⟩
  have bb2 := balloc (Below.refl _ ((W.alloc (.cells #[.slice ca cn ck, .slice aa an ak, .int .i64 hc, .int .i64 hx, .int .i64 hy, .int .i64 ad] 41)).alloc (.cells #[.int .i64 size] 3))) (.cells #[.slice none 0 0, .slice none 0 0, .int .i64 0, .int .i64 0, .int .i64 0, .int .i64 0] 41)
  have bb1 := balloc (balloc (Below.refl _ (W.alloc (.cells #[.slice ca cn ck, .slice aa an ak, .int .i64 hc, .int .i64 hx, .int .i64 hy, .int .i64 ad] 41))) (.cells #[.int .i64 size] 3)) (.cells #[.slice none 0 0, .slice none 0 0, .int .i64 0, .int .i64 0, .int .i64 0, .int .i64 0] 41)
  rw [hW1] at x2 hb3 bb2 bb1
  rw [hB] at x0 x1 x2
  have HB1 := Lib.hid hb3
  have hs1 : W1.heap.size = B + 3 := by rw [← hW1]; simp [hB]
  have HX : Hid (W1.heap[B]? = some (.cells #[.slice ca cn ck, .slice aa an ak, .int .i64 hc, .int .i64 hx, .int .i64 hy, .int .i64 ad] 41) ∧ W1.heap[B + 1]? = some (.cells #[.int .i64 size] 3) ∧ W1.heap[B + 2]? = some (.cells #[.slice none 0 0, .slice none 0 0, .int .i64 0, .int .i64 0, .int .i64 0, .int .i64 0] 41) ∧ W1.heap.size = B + 3 ∧ W.heap.size = B) := Lib.hid ⟨(bb1.block B (by simp [hB])).trans x0, (bb2.block (B + 1) (by simp [hB])).trans x1, x2, hs1, hB⟩
  have HGC : Hid (∀ U : World, U.heap[B]? = W1.heap[B]? → U.cell? ⟨B, 0, none⟩ = some (.slice ca cn ck) ∧ U.cell? ⟨B, 1, none⟩ = some (.slice aa an ak) ∧ U.cell? ⟨B, 2, none⟩ = some (.int .i64 hc) ∧ U.cell? ⟨B, 3, none⟩ = some (.int .i64 hx) ∧ U.cell? ⟨B, 4, none⟩ = some (.int .i64 hy) ∧ U.cell? ⟨B, 5, none⟩ = some (.int .i64 ad)) := Lib.hid fun U hU => by
    have h1 := hU.trans HX.out.1
    exact ⟨nd_cell h1 rfl, nd_cell h1 rfl, nd_cell h1 rfl, nd_cell h1 rfl, nd_cell h1 rfl, nd_cell h1 rfl⟩
  clear x0 x1 x2 hb3 bb2 bb1 hs1
  refine callsIn_of_wp_marks Try.func18 rfl trivial ?_ rfl
  simp only [Try.ntmps18, List.size_toArray, List.length_cons, List.length_nil, Nat.reduceAdd, Nat.reduceSub, Array.replicate_succ, Array.replicate_zero, List.push_toArray, List.append_toArray, List.nil_append, List.cons_append]
  gi_upto_region 1 with fail
  try rw [show W.heap.size + 1 + 1 = B + 2 by rw [hB]]
  try rw [show W.heap.size + 1 = B + 1 by rw [hB]]
  try rw [hB]
  try rw [hW1]
  clear hW1 hB
  have csz : W1.cell? ⟨B + 1, 0, none⟩ = some (.int .i64 size) := nd_cell HX.out.2.1 rfl
  by_cases hbad : size < 4 ∨ 32 < size
  · have HSZ : Hid (SD = OL.zd) := Lib.hid (by rw [HSC.out, if_pos hbad])
    have hz := HX.out.2.2.1
    have z0 : W1.cell? ⟨B + 2, 0, none⟩ = some (.slice none 0 0) := nd_cell hz rfl
    have zf0 := nd_froz hz 0
    have z1 : W1.cell? ⟨B + 2, 1, none⟩ = some (.slice none 0 0) := nd_cell hz rfl
    have zf1 := nd_froz hz 1
    have z2 : W1.cell? ⟨B + 2, 2, none⟩ = some (.int .i64 0) := nd_cell hz rfl
    have zf2 := nd_froz hz 2
    have z3 : W1.cell? ⟨B + 2, 3, none⟩ = some (.int .i64 0) := nd_cell hz rfl
    have zf3 := nd_froz hz 3
    have z4 : W1.cell? ⟨B + 2, 4, none⟩ = some (.int .i64 0) := nd_cell hz rfl
    have zf4 := nd_froz hz 4
    have z5 : W1.cell? ⟨B + 2, 5, none⟩ = some (.int .i64 0) := nd_cell hz rfl
    have zf5 := nd_froz hz 5
    obtain ⟨wz, hwz, hzz, hfz⟩ := sto6 hz (.slice none 0 0) (.slice none 0 0) (.int .i64 0) (.int .i64 0) (.int .i64 0) (.int .i64 0)
    have HZZ := Lib.hid hzz
    have HBZ : Hid (Below W.heap.size W wz) := Lib.hid (hfz.below W HB1.out (fun b hb => by have := HX.out.2.2.2.2; omega))
    clear hz hzz hfz
    by_cases h4 : size < 4
    · clear hbad
      gi_wp2
      try rw [hwz]
      refine retM (results_cell_row Try.results18 _ _ (B + 2) 41 _ (0, 0) _ rfl HZZ.out Try.underlying41 rfl (by kernel_rfl)) ?_
      exact ⟨_, rfl, fun U _ => by rw [HSZ.out]; exact zd_at U, HBZ.out⟩
    · have h32 : size > 32 := by omega
      clear hbad
      gi_wp2
      try rw [hwz]
      refine retM (results_cell_row Try.results18 _ _ (B + 2) 41 _ (0, 0) _ rfl HZZ.out Try.underlying41 rfl (by kernel_rfl)) ?_
      exact ⟨_, rfl, fun U _ => by rw [HSZ.out]; exact zd_at U, HBZ.out⟩
  · have h4 : ¬ size < 4 := by omega
    have h32 : ¬ size > 32 := by omega
    have HSZ : Hid (SD = if (okb (okF (nums C A) size) (2 * (OL.pts C + A.length)) && (F.FP.mulS hx size).2 && (F.FP.mulS hy size).2 && (F.FP.mulS ad size).2) = true then ⟨tcs (OL.sz size) 0 C, tan (OL.sz size) (OL.pts C) A, ⟨hc, (F.FP.mulS hx size).1, (F.FP.mulS hy size).1⟩, (F.FP.mulS ad size).1⟩ else OL.zd) := Lib.hid (by rw [HSC.out, if_neg hbad])
    clear hbad HSC
    gi_upto_region 3 with fail
    clear csz h4 h32
    rename_i K hK
    have hK2 : ∀ (X : Nat) (v2 v5 : Value) (vs : List Value) (wx : World) (u17 u18 u19 u20 u21 u22 u23 u24 u25 u26 u27 : Value), (wx.heap[X]? = some (.cells #[v2, v5, .int .i64 hc, .int .i64 hx, .int .i64 hy, .int .i64 ad] 41 (0, 0)) ∧ B + 3 ≤ X ∧ (∃ ms ga, Rdy wx (B + 3) v2 v5 C A vs ms ga ∧ ¬ inF ms ga A.length X) ∧ (∀ q, v2.ownBlock = some q → B + 3 ≤ q ∧ q < wx.heap.size ∧ q ≠ X) ∧ Below W1.heap.size W1 wx) → K {tmps := #[.agg #[.slice ca cn ck, .slice aa an ak, .int .i64 hc, .int .i64 hx, .int .i64 hy, .int .i64 ad], .int .i64 size, .pointer (some ⟨B, 0, none⟩), .pointer (some ⟨B + 1, 0, none⟩), .pointer (some ⟨B + 1 + 1, 0, none⟩), .pointer (some ⟨X, 0, none⟩), undef, undef, undef, undef, .int .i64 size, .bool false, .bool false, .int .i64 size, .bool false, .bool false, undef, u17, u18, u19, u20, u21, u22, u23, u24, u25, u26, u27, undef, undef, undef, undef, undef, undef, undef, undef, undef, undef, undef, undef, undef, undef, undef, undef, undef, undef, undef, undef, undef, undef, undef, undef, undef, undef, undef, undef], defers := []} wx := by
      rintro X v2 v5 vs wx u17 u18 u19 u20 u21 u22 u23 u24 u25 u26 u27 ⟨hXX, hXB, ⟨ms, ga, hrdy, hnX⟩, hv2, hbx⟩
      refine hK _ _ ?_
      clear hK K
      have HRDY := Lib.hid hrdy
      have HNX := Lib.hid hnX
      have HV2 := Lib.hid hv2
      obtain ⟨cla, clc, hv2e⟩ := hrdy.src.shape
      obtain ⟨ala, alc, hv5e, hala⟩ := hrdy.vas
      obtain ⟨cln, hcl⟩ : ∃ n, C.length = n := ⟨_, rfl⟩
      rw [hcl] at hv2e
      subst hv2e hv5e
      have HCL := Lib.hid hcl
      have HALA := Lib.hid hala
      clear hrdy hnX hv2 hala hcl
      obtain ⟨P, hP⟩ : ∃ P, wx.heap.size = P := ⟨_, rfl⟩
      have hp0 := heap_alloc_new wx (.cells #[.bool true] 4)
      have hp1 := heap_alloc_new (wx.alloc (.cells #[.bool true] 4)) (.cells #[(.func (.func 46) #[] #[.pointer (some ⟨B + 1, 0, none⟩), .pointer (some ⟨P, 0, none⟩)])] 104)
      have bp1 := balloc (Below.refl _ (wx.alloc (.cells #[.bool true] 4))) (.cells #[(.func (.func 46) #[] #[.pointer (some ⟨B + 1, 0, none⟩), .pointer (some ⟨P, 0, none⟩)])] 104)
      have bp0 := balloc (balloc (Below.refl _ wx) (.cells #[.bool true] 4)) (.cells #[(.func (.func 46) #[] #[.pointer (some ⟨B + 1, 0, none⟩), .pointer (some ⟨P, 0, none⟩)])] 104)
      simp only [World.size_alloc] at hp1 bp1
      obtain ⟨wy, hwy⟩ : ∃ wy, (wx.alloc (.cells #[.bool true] 4)).alloc (.cells #[(.func (.func 46) #[] #[.pointer (some ⟨B + 1, 0, none⟩), .pointer (some ⟨P, 0, none⟩)])] 104) = wy := ⟨_, rfl⟩
      have hsy : wy.heap.size = P + 2 := by rw [← hwy]; simp [hP]
      rw [hwy] at hp1 bp0 bp1
      rw [hP] at hp0 hp1 bp1
      have hp0' := (bp1.block P (by omega)).trans hp0
      have hXy := (bp0.block X (Array.getElem?_eq_some_iff.1 hXX).1).trans hXX
      gi_upto_region 6 with fail
      try rw [show wx.heap.size + 1 = P + 1 by rw [hP]]
      try rw [hP]
      try rw [hwy]
      have c0 : wy.cell? ⟨X, 0, none⟩ = some (.slice cla cln clc) := nd_cell hXy rfl
      have c1 : wy.cell? ⟨X, 1, none⟩ = some (.slice ala A.length alc) := nd_cell hXy rfl
      have c2 : wy.cell? ⟨X, 2, none⟩ = some (.int .i64 hc) := nd_cell hXy rfl
      have c3 : wy.cell? ⟨X, 3, none⟩ = some (.int .i64 hx) := nd_cell hXy rfl
      have c4 : wy.cell? ⟨X, 4, none⟩ = some (.int .i64 hy) := nd_cell hXy rfl
      have c5 : wy.cell? ⟨X, 5, none⟩ = some (.int .i64 ad) := nd_cell hXy rfl
      have HP0 := Lib.hid (And.intro hp0' (And.intro hp1 (And.intro bp0 (And.intro hXy (And.intro hsy hP)))))
      have HBX := Lib.hid (And.intro hbx hXB)
      clear hp0 hp0' hp1 bp0 bp1 hXy hXX hbx hXB hwy hsy hP
      gi_wp2_with fail
      refine ⟨trivial, ?_⟩
      gi_at_call 48
      refine (callsIn_wide.2 (pts_closure wy (.slice cla cln clc) (.slice ala A.length alc) hc hx hy ad ⟨_, _, _, rfl⟩ ⟨_, _, _, rfl⟩)).mono ?_
      rintro e w' ⟨rfl, rfl⟩
      clear c0 c1 c2 c3 c4 c5
      have hb7 := heap_alloc_new wy (.cells #[.slice cla cln clc, .slice ala A.length alc, .int .i64 hc, .int .i64 hx, .int .i64 hy, .int .i64 ad] 41)
      have bl7 := balloc (Below.refl _ wy) (.cells #[.slice cla cln clc, .slice ala A.length alc, .int .i64 hc, .int .i64 hx, .int .i64 hy, .int .i64 ad] 41)
      obtain ⟨wl, hwl⟩ : ∃ wl, wy.alloc (.cells #[.slice cla cln clc, .slice ala A.length alc, .int .i64 hc, .int .i64 hx, .int .i64 hy, .int .i64 ad] 41) = wl := ⟨_, rfl⟩
      have hsl : wl.heap.size = P + 3 := by rw [← hwl]; simp [HP0.out.2.2.2.2.1]
      rw [hwl] at hb7 bl7
      rw [HP0.out.2.2.2.2.1] at hb7
      rw [HP0.out.2.2.2.2.1]
      gi_wp2_with fail
      try rw [hwl]
      clear hwl
      have HSL := Lib.hid hsl
      have HLI : Hid (∀ g, inF ms ga A.length g → g < P ∧ B + 3 ≤ g ∧ g ≠ X) := Lib.hid fun g hg => ⟨by have := (HRDY.out.lt g hg).1; rw [HP0.out.2.2.2.2.2] at this; exact this, (HRDY.out.lt g hg).2.1, fun e => HNX.out (e ▸ hg)⟩
      have HLW : Hid (∀ g, inF ms ga A.length g → g < wl.heap.size) := Lib.hid fun g hg => by have := (HLI.out g hg).1; have := HSL.out; omega
      have HBL := Lib.hid (bnext HP0.out.2.2.1 bl7)
      have HWL : Hid (wl.heap[B]? = some (.cells #[.slice ca cn ck, .slice aa an ak, .int .i64 hc, .int .i64 hx, .int .i64 hy, .int .i64 ad] 41) ∧ wl.heap[B + 1]? = some (.cells #[.int .i64 size] 3) ∧ wl.heap[B + 2]? = some (.cells #[.slice none 0 0, .slice none 0 0, .int .i64 0, .int .i64 0, .int .i64 0, .int .i64 0] 41) ∧ wl.heap[X]? = some (.cells #[.slice cla cln clc, .slice ala A.length alc, .int .i64 hc, .int .i64 hx, .int .i64 hy, .int .i64 ad] 41) ∧ wl.heap[P]? = some (.cells #[.bool true] 4) ∧ wl.heap[P + 1]? = some (.cells #[(.func (.func 46) #[] #[.pointer (some ⟨B + 1, 0, none⟩), .pointer (some ⟨P, 0, none⟩)])] 104) ∧ wl.heap[P + 2]? = some (.cells #[.slice cla cln clc, .slice ala A.length alc, .int .i64 hc, .int .i64 hx, .int .i64 hy, .int .i64 ad] 41)) := Lib.hid (by
        have h1 := HX.out
        have h2 := bnext HBX.out.1 HBL.out
        have h3 := HP0.out.2.2.2.2.1
        refine ⟨(h2.block B (by omega)).trans h1.1, (h2.block (B + 1) (by omega)).trans h1.2.1, (h2.block (B + 2) (by omega)).trans h1.2.2.1, (bl7.block X (Array.getElem?_eq_some_iff.1 HP0.out.2.2.2.1).1).trans HP0.out.2.2.2.1, (bl7.block P (by omega)).trans HP0.out.1, (bl7.block (P + 1) (by omega)).trans HP0.out.2.1, hb7⟩)
      have HNI : Hid (∀ b, b < B + 3 ∨ b = X ∨ P ≤ b → ¬ inF ms ga A.length b) := Lib.hid fun b hb hg => by have := HLI.out b hg; omega
      have HPW : Hid (P < wl.heap.size) := Lib.hid (by have := HSL.out; omega)
      have hXP1 : X < P := by have h1 := (Array.getElem?_eq_some_iff.1 HP0.out.2.2.2.1).1; have h2 := HP0.out.2.2.2.2.1; have h3 := HWL.out.2.2.2.1; have h5 : X ≠ P := (fun e => by rw [e, HWL.out.2.2.2.2.1] at h3; cases h3); have h6 : X ≠ P + 1 := (fun e => by rw [e, HWL.out.2.2.2.2.2.1] at h3; cases h3); omega
      have hXB2 := HBX.out.2
      obtain ⟨nv, hnv⟩ : ∃ nv, nvF (OL.sz size) (nums C A) = nv := ⟨_, rfl⟩
      have HNV := Lib.hid hnv
      obtain ⟨ok, hok⟩ : ∃ ok, okF (nums C A) size = ok := ⟨_, rfl⟩
      have HOK := Lib.hid hok
      rw [hok] at HSZ
      have HI0 : Hid (SI wx wl ms ga A.length P nv ok 0 wl) := Lib.hid ⟨FrS.refl _ _, (Upd.first HRDY.out.fro (fun g hg => (HRDY.out.lt g hg).1)).below (fun t' h => by omega) HBL.out, Nat.zero_le _, HWL.out.2.2.2.2.1⟩
      have HBW : Hid (∀ t V, SI wx wl ms ga A.length P nv ok t V → Below W.heap.size W V) := Lib.hid fun t V hd => hd.fr.below W (bnext HB1.out (bnext HBX.out.1 HBL.out)) (fun b hb => by have := HX.out.2.2.2.2; rcases hb with hb | hb; have := HLI.out b hb; all_goals omega)
      clear hb7 bl7 hsl hnv hok
      refine range_need rfl h1m (gf := 86) (lb := #[.pointer (some ⟨P + 2, 0, none⟩)]) rfl trivial (enters_of Try.func86 (by kernel_rfl) rfl) (pts_need (m - 1) (by omega) (P + 2) (.slice cla cln clc) ala alc A.length ga cln ms vs (by rw [HRDY.out.lay.len, HCL.out]) (by rw [← HCL.out]; exact HOKC.out.n) HRDY.out.msl HRDY.out.vok HLB.out.1 HALA.out wl) (Below.refl _ _) (fun _ => rfl)
        (fun pre W => SI wx wl ms ga A.length P nv ok (2 * pre.length) W)
        (fun _ _ _ => False) ?hN ?hI (fun _ _ _ _ _ h _ _ => h) ?h0
        (fun pre x a' W => ItG (items ms ga A.length) pre x W ∧ ∃ Bx, wl.heap.size ≤ Bx ∧ W.heap[Bx]? = some (.cells #[.pointer (some ⟨x.2.1, x.2.2, none⟩), .pointer (some ⟨x.2.1, x.2.2 + 1, none⟩)] 108 (0, 0)) ∧ a' = { tmps := #[.agg #[.slice ca cn ck, .slice aa an ak, .int .i64 hc, .int .i64 hx, .int .i64 hy, .int .i64 ad], .int .i64 size, .pointer (some ⟨B, 0, none⟩), .pointer (some ⟨B + 1, 0, none⟩), .pointer (some ⟨B + 1 + 1, 0, none⟩), .pointer (some ⟨X, 0, none⟩), .pointer (some ⟨P, 0, none⟩), .pointer (some ⟨P + 1, 0, none⟩), undef, .pointer (some ⟨Bx, 0, none⟩), .int .i64 size, .bool false, .bool false, .int .i64 size, .bool false, .bool false, undef, u17, u18, u19, u20, u21, u22, u23, u24, u25, u26, u27, (.func (.func 46) #[] #[.pointer (some ⟨B + 1, 0, none⟩), .pointer (some ⟨P, 0, none⟩)]), .agg #[.slice cla cln clc, .slice ala A.length alc, .int .i64 hc, .int .i64 hx, .int .i64 hy, .int .i64 ad], .func (.func 86) #[] #[.pointer (some ⟨P + 2, 0, none⟩)], .int .i64 (x.1 : Int), .agg #[.pointer (some ⟨x.2.1, x.2.2, none⟩), .pointer (some ⟨x.2.1, x.2.2 + 1, none⟩)], undef, undef, undef, undef, undef, undef, undef, undef, undef, undef, undef, undef, undef, undef, undef, undef, undef, undef, undef, undef, undef, undef, undef], defers := [] })
        ?hAx ?assign ?body ?done ?stop
      case hN =>
        rintro pre W hi
        have h7 := hi.nd HWL.out.2.2.2.2.2.2 (HNI.out _ (by omega)) (by omega)
        have h8 := HRDY.out.srcAt HBL.out hi.fr (fun g e hg => by
          rcases hg with hg | hg
          · exact (HRDY.out.lt g hg).2.2 e
          · have h1 := (HV2.out g e).2.1
            have h2 := HP0.out.2.2.2.2.2
            omega)
        exact ⟨nd_cell h7 rfl, nd_cell h7 rfl, by rw [HCL.out] at h8; exact h8⟩
      case hI => exact SI.own (fun pre : List It => 2 * pre.length) HLW.out HPW.out
      case h0 => exact HI0.out
      case hAx =>
        rintro pre x a' u A1 A2 row ⟨hg, Bx, h2, h3, h4⟩ hgr hr
        refine ⟨hg, Bx, h2, (hgr.block Bx (Array.getElem?_eq_some_iff.1 h3).1 (fun e => ?_)).trans h3, h4⟩
        obtain ⟨_, o, ho, hc'⟩ := hr Bx e.symm
        rw [h3] at ho
        cases ho
        cases hc'
      case assign =>
        rintro l pre x W0 Kc hi hG hK
        simp only [encI]
        have HKK := Lib.hid hK
        clear hK
        gi_wp2_with fail
        exact HKK.out _ _ ((FrS.of (S := fun _ => False) (balloc (Below.refl _ W0) _)).keepsFrom _ (fun _ _ h => h.elim)) (hi.below HLW.out HPW.out (balloc (Below.refl _ W0) _)) ⟨hG, W0.heap.size, hi.fr.size, heap_alloc_new _ _, rfl⟩
      case body =>
        rintro l pre x a' w0 hl ⟨r, hr⟩ hi ⟨⟨hG0, hG1⟩, Bx, hBx, hbx, rfl⟩
        obtain ⟨k, g, o⟩ := x
        dsimp only at hG0 hG1 hbx ⊢
        rw [← hG0] at hG1 hi
        have HL := Lib.hid hG1
        have HKL : Hid (k < OL.pts C + A.length) := Lib.hid (by rw [← HRDY.out.len]; exact (List.getElem?_eq_some_iff.1 hG1).1)
        have HGF : Hid (inF ms ga A.length g) := Lib.hid (by
          have h1 := adr_inF (ms := ms) (ga := ga) (na := A.length) (t := 2 * k + 0) (by have := HKL.out; rw [HRDY.out.len]; omega)
          rw [adr_at hG1 (by decide)] at h1
          exact h1)
        obtain ⟨x0, y0, hnn⟩ := HRDY.out.num hG1
        have HNUM := Lib.hid hnn
        clear HI0
        have HI0 : Hid (SI wx wl ms ga A.length P nv ok (2 * k + 0) w0) := Lib.hid hi
        have HPK := Lib.hid hG0
        have HBXX := Lib.hid (And.intro hBx hbx)
        have cb0 : w0.cell? ⟨Bx, 0, none⟩ = some (.pointer (some ⟨g, o, none⟩)) := nd_cell hbx rfl
        have cf0 : w0.cell? ⟨P + 1, 0, none⟩ = some (.func (.func 46) #[] #[.pointer (some ⟨B + 1, 0, none⟩), .pointer (some ⟨P, 0, none⟩)]) := nd_cell (hi.nd HWL.out.2.2.2.2.2.1 (HNI.out _ (by omega)) (by omega)) rfl
        clear hG0 hG1 hi hbx hnn hr hl hBx
        have hn0 := HI0.out.num HRDY.out.sep (q := 0) (by decide) HL.out
        have hc0 : w0.cell? ⟨g, o, none⟩ = some (.int .i64 x0) := hn0.1.trans HNUM.out.2.1
        have hs0 : w0.cell? ⟨B + 1, 0, none⟩ = some (.int .i64 size) := nd_cell (HI0.out.nd HWL.out.2.1 (HNI.out _ (by omega)) (by omega)) rfl
        have HSC0 := Lib.hid (sc_any w0 g o (B + 1) P x0 size (okb ok (2 * k + 0)) hc0 hn0.2 hs0 (nd_cell HI0.out.bx rfl) (nd_froz HI0.out.bx 0) (fun e => HNI.out P (by omega) (e ▸ HGF.out)))
        have HCC0 := Lib.hid hc0
        have HE0 : Hid (nv (2 * k + 0) = (F.FP.mulS x0 size).1 ∧ ok (2 * k + 0) = (F.FP.mulS x0 size).2) := Lib.hid ⟨by rw [← HNV.out, nvF_0 HNUM.out.1]; rfl, by rw [← HOK.out]; unfold okF; rw [num_0 HNUM.out.1]⟩
        clear hn0 hc0 hs0
        gi_wp2_with fail
        refine ⟨trivial, fun _ => by omega, ?_⟩
        refine (CallsIn.inRound _ (callsIn_wide.2 HSC0.out)).mono ?_
        rintro e w1 ⟨⟨u0, rfl⟩, V, hbV, hw1⟩
        have hst := HI0.out.sc HRDY.out.sep HLW.out HPW.out (HNI.out _ (by omega)) hbV (q := 0) (by decide) HL.out HCC0.out
        rw [HE0.out.1, HE0.out.2] at hst
        have hst1 : SI wx wl ms ga A.length P nv ok (2 * k + 0 + 1) w1 := by rw [hw1]; exact hst.1
        have hst2 : FrS (fun b => inF ms ga A.length b ∨ b = P) w0 w1 := by rw [hw1]; exact hst.2
        have HI1 := Lib.hid hst1
        have HF1 := Lib.hid hst2
        clear hst hst1 hst2 hw1 hbV HSC0 HCC0
        have hbx1 := HF1.out.nd HBXX.out.2 (fun e => by have h1 := HBXX.out.1; have h2 := HPW.out; rcases e with e | e; have := HLW.out _ e; all_goals omega)
        have cb1 : w1.cell? ⟨Bx, 1, none⟩ = some (.pointer (some ⟨g, o + 1, none⟩)) := nd_cell hbx1 rfl
        have cf1 : w1.cell? ⟨P + 1, 0, none⟩ = some (.func (.func 46) #[] #[.pointer (some ⟨B + 1, 0, none⟩), .pointer (some ⟨P, 0, none⟩)]) := nd_cell (HI1.out.nd HWL.out.2.2.2.2.2.1 (HNI.out _ (by omega)) (by omega)) rfl
        clear hbx1 cb0 cf0
        have hn1 := HI1.out.num HRDY.out.sep (q := 1) (by decide) HL.out
        have hc1 : w1.cell? ⟨g, o + 1, none⟩ = some (.int .i64 y0) := hn1.1.trans HNUM.out.2.2
        have hs1 : w1.cell? ⟨B + 1, 0, none⟩ = some (.int .i64 size) := nd_cell (HI1.out.nd HWL.out.2.1 (HNI.out _ (by omega)) (by omega)) rfl
        have HSC1 := Lib.hid (sc_any w1 g (o + 1) (B + 1) P y0 size (okb ok (2 * k + 1)) hc1 hn1.2 hs1 (nd_cell HI1.out.bx rfl) (nd_froz HI1.out.bx 0) (fun e => HNI.out P (by omega) (e ▸ HGF.out)))
        have HCC1 := Lib.hid hc1
        have HE1 : Hid (nv (2 * k + 1) = (F.FP.mulS y0 size).1 ∧ ok (2 * k + 1) = (F.FP.mulS y0 size).2) := Lib.hid ⟨by rw [← HNV.out, nvF_1 HNUM.out.1]; rfl, by rw [← HOK.out]; unfold okF; rw [num_1 HNUM.out.1]⟩
        clear hn1 hc1 hs1
        gi_wp2_with fail
        refine ⟨trivial, fun _ => by omega, ?_⟩
        refine (CallsIn.inRound _ (callsIn_wide.2 HSC1.out)).mono ?_
        rintro e w2 ⟨⟨u1, rfl⟩, V, hbV, hw2⟩
        have hst := HI1.out.sc HRDY.out.sep HLW.out HPW.out (HNI.out _ (by omega)) hbV (q := 1) (by decide) HL.out HCC1.out
        rw [HE1.out.1, HE1.out.2] at hst
        have hst1 : SI wx wl ms ga A.length P nv ok (2 * k + 1 + 1) w2 := by rw [hw2]; exact hst.1
        have hst2 : FrS (fun b => inF ms ga A.length b ∨ b = P) w1 w2 := by rw [hw2]; exact hst.2
        have HI2 := Lib.hid hst1
        have HF2 := Lib.hid hst2
        clear hst hst1 hst2 hw2 hbV HSC1 HCC1
        gi_wp2
        refine ⟨(HF1.out.trans HF2.out).keepsFrom _ (fun b o hb hN _ => by have h2 := HPW.out; rcases hb with hb | hb; have := HLW.out b hb; all_goals omega), trivial, ?_⟩
        show SI wx wl ms ga A.length P nv ok (2 * (pre ++ [(k, g, o)]).length) w2
        rw [List.length_append, List.length_singleton, ← HPK.out, Nat.mul_add]
        exact HI2.out
      case done =>
        rintro DD xs Wd hD hz hi hK
        have hlen : xs.length = (items ms ga A.length).length := hz
        rw [hlen] at hi
        have HDI := Lib.hid hi
        have HKD := Lib.hid hK
        have hDP : P + 3 ≤ DD := by have := HSL.out; omega
        have HGW : Hid (Wd.heap[B + 1]? = some (.cells #[.int .i64 size] 3) ∧ Wd.heap[B + 2]? = some (.cells #[.slice none 0 0, .slice none 0 0, .int .i64 0, .int .i64 0, .int .i64 0, .int .i64 0] 41) ∧ Wd.heap[P + 1]? = some (.cells #[(.func (.func 46) #[] #[.pointer (some ⟨B + 1, 0, none⟩), .pointer (some ⟨P, 0, none⟩)])] 104)) := Lib.hid ⟨hi.nd HWL.out.2.1 (HNI.out _ (by omega)) (by omega), hi.nd HWL.out.2.2.1 (HNI.out _ (by omega)) (by omega), hi.nd HWL.out.2.2.2.2.2.1 (HNI.out _ (by omega)) (by omega)⟩
        have HXWd : Hid (Wd.heap[X]? = some (.cells #[.slice cla cln clc, .slice ala A.length alc, .int .i64 hc, .int .i64 hx, .int .i64 hy, .int .i64 ad] 41)) := Lib.hid (hi.nd HWL.out.2.2.2.1 (HNI.out _ (by omega)) (by omega))
        obtain ⟨b0, hb0⟩ : ∃ b, okb ok (2 * (items ms ga A.length).length) = b := ⟨_, rfl⟩
        have HPWd : Hid (Wd.heap[P]? = some (.cells #[.bool b0] 4 (0, 0))) := Lib.hid (by rw [← hb0]; exact hi.bx)
        have HTWd : Hid (FrS (fun b => b = X ∨ b = P) Wd Wd) := Lib.hid (FrS.refl _ _)
        rw [HRDY.out.len] at hb0
        rw [hb0] at HSZ
        obtain ⟨⟨y3, k3⟩, hm3⟩ : ∃ r, F.FP.mulS hx size = r := ⟨_, rfl⟩
        obtain ⟨⟨y4, k4⟩, hm4⟩ : ∃ r, F.FP.mulS hy size = r := ⟨_, rfl⟩
        obtain ⟨⟨y5, k5⟩, hm5⟩ : ∃ r, F.FP.mulS ad size = r := ⟨_, rfl⟩
        have HM3 := Lib.hid hm3
        have HM4 := Lib.hid hm4
        have HM5 := Lib.hid hm5
        rw [hm3, hm4, hm5] at HSZ
        clear hi hK hz hlen hD hb0 hm3 hm4 hm5 HI0
        have cf : Wd.cell? ⟨P + 1, 0, none⟩ = some (.func (.func 46) #[] #[.pointer (some ⟨B + 1, 0, none⟩), .pointer (some ⟨P, 0, none⟩)]) := nd_cell (HTWd.out.nd HGW.out.2.2 (by omega)) rfl
        have cs : Wd.cell? ⟨B + 1, 0, none⟩ = some (.int .i64 size) := nd_cell (HTWd.out.nd HGW.out.1 (by omega)) rfl
        have hsc := sc_any Wd X 3 (B + 1) P hx size b0 (nd_cell HXWd.out rfl) (nd_froz HXWd.out 3) cs (nd_cell HPWd.out rfl) (nd_froz HPWd.out 0) (by omega)
        rw [HM3.out] at hsc
        have HSC := Lib.hid hsc
        clear hsc cs
        gi_wp2_with fail
        refine ⟨trivial, ?_⟩
        refine (callsIn_wide.2 HSC.out).mono ?_
        rintro e w1 ⟨⟨u, rfl⟩, V, hbV, hw⟩
        have hs2 := set_two HXWd.out HPWd.out (by omega) hbV hw
        have HXw1 : Hid (w1.heap[X]? = some (.cells #[.slice cla cln clc, .slice ala A.length alc, .int .i64 hc, .int .i64 y3, .int .i64 hy, .int .i64 ad] 41 (0, 0))) := Lib.hid hs2.1
        obtain ⟨b1, hbn⟩ : ∃ c, (b0 && k3) = c := ⟨_, rfl⟩
        have HPw1 : Hid (w1.heap[P]? = some (.cells #[.bool b1] 4 (0, 0))) := Lib.hid (by rw [← hbn]; exact hs2.2.1)
        have HTw1 := Lib.hid (HTWd.out.trans hs2.2.2)
        have HEb1 := Lib.hid hbn
        clear hs2 hw hbV HSC cf hbn
        have cf : w1.cell? ⟨P + 1, 0, none⟩ = some (.func (.func 46) #[] #[.pointer (some ⟨B + 1, 0, none⟩), .pointer (some ⟨P, 0, none⟩)]) := nd_cell (HTw1.out.nd HGW.out.2.2 (by omega)) rfl
        have cs : w1.cell? ⟨B + 1, 0, none⟩ = some (.int .i64 size) := nd_cell (HTw1.out.nd HGW.out.1 (by omega)) rfl
        have hsc := sc_any w1 X 4 (B + 1) P hy size b1 (nd_cell HXw1.out rfl) (nd_froz HXw1.out 4) cs (nd_cell HPw1.out rfl) (nd_froz HPw1.out 0) (by omega)
        rw [HM4.out] at hsc
        have HSC := Lib.hid hsc
        clear hsc cs
        gi_wp2_with fail
        refine ⟨trivial, ?_⟩
        refine (callsIn_wide.2 HSC.out).mono ?_
        rintro e w2 ⟨⟨u, rfl⟩, V, hbV, hw⟩
        have hs2 := set_two HXw1.out HPw1.out (by omega) hbV hw
        have HXw2 : Hid (w2.heap[X]? = some (.cells #[.slice cla cln clc, .slice ala A.length alc, .int .i64 hc, .int .i64 y3, .int .i64 y4, .int .i64 ad] 41 (0, 0))) := Lib.hid hs2.1
        obtain ⟨b2, hbn⟩ : ∃ c, (b1 && k4) = c := ⟨_, rfl⟩
        have HPw2 : Hid (w2.heap[P]? = some (.cells #[.bool b2] 4 (0, 0))) := Lib.hid (by rw [← hbn]; exact hs2.2.1)
        have HTw2 := Lib.hid (HTw1.out.trans hs2.2.2)
        have HEb2 := Lib.hid hbn
        clear hs2 hw hbV HSC cf hbn
        have cf : w2.cell? ⟨P + 1, 0, none⟩ = some (.func (.func 46) #[] #[.pointer (some ⟨B + 1, 0, none⟩), .pointer (some ⟨P, 0, none⟩)]) := nd_cell (HTw2.out.nd HGW.out.2.2 (by omega)) rfl
        have cs : w2.cell? ⟨B + 1, 0, none⟩ = some (.int .i64 size) := nd_cell (HTw2.out.nd HGW.out.1 (by omega)) rfl
        have hsc := sc_any w2 X 5 (B + 1) P ad size b2 (nd_cell HXw2.out rfl) (nd_froz HXw2.out 5) cs (nd_cell HPw2.out rfl) (nd_froz HPw2.out 0) (by omega)
        rw [HM5.out] at hsc
        have HSC := Lib.hid hsc
        clear hsc cs
        gi_wp2_with fail
        refine ⟨trivial, ?_⟩
        refine (callsIn_wide.2 HSC.out).mono ?_
        rintro e w3 ⟨⟨u, rfl⟩, V, hbV, hw⟩
        have hs2 := set_two HXw2.out HPw2.out (by omega) hbV hw
        have HXw3 : Hid (w3.heap[X]? = some (.cells #[.slice cla cln clc, .slice ala A.length alc, .int .i64 hc, .int .i64 y3, .int .i64 y4, .int .i64 y5] 41 (0, 0))) := Lib.hid hs2.1
        obtain ⟨b3, hbn⟩ : ∃ c, (b2 && k5) = c := ⟨_, rfl⟩
        have HPw3 : Hid (w3.heap[P]? = some (.cells #[.bool b3] 4 (0, 0))) := Lib.hid (by rw [← hbn]; exact hs2.2.1)
        have HTw3 := Lib.hid (HTw2.out.trans hs2.2.2)
        have HEb3 := Lib.hid hbn
        clear hs2 hw hbV HSC cf hbn
        have HFIN : Hid (∀ wf U, FrS (fun b => b = X ∨ b = P ∨ b = B + 2 ∨ b = DD) Wd wf → FrS (fun b => b < W.heap.size) wf U → CsAt U (.slice cla cln clc) (tcs (OL.sz size) 0 C) ∧ AcAt U (.slice ala A.length alc) (tan (OL.sz size) (OL.pts C) A)) := Lib.hid fun wf U hF hU => by
          have HFU : FrS (fun b => b = X ∨ b = P ∨ b = B + 2 ∨ b = DD ∨ b < B) Wd U := (hF.mono (fun b e => by rcases e with e | e | e | e <;> simp [e])).trans (hU.mono (fun b e => .inr (.inr (.inr (.inr (by have := HX.out.2.2.2.2; omega))))))
          have hTI : ∀ g, inF ms ga A.length g → ¬ (g = X ∨ g = P ∨ g = B + 2 ∨ g = DD ∨ g < B) := fun g hg e => by
            have h1 := HLI.out g hg
            rcases e with e | e | e | e | e <;> omega
          have hup := HDI.out.up.fr HFU hTI (fun t' ht => adr_inF ht)
          have hsr := HRDY.out.srcAt (S := fun b => (inF ms ga A.length b ∨ b = P) ∨ (b = X ∨ b = P ∨ b = B + 2 ∨ b = DD ∨ b < B)) HBL.out ((HDI.out.fr.mono (fun b e => .inl e)).trans (HFU.mono (fun b e => .inr e))) (fun g e hg => by
            have h1 := HV2.out g e
            have h2 := HP0.out.2.2.2.2.2
            rcases hg with (hg | hg) | hg | hg | hg | hg | hg
            · exact (HRDY.out.lt g hg).2.2 e
            all_goals omega)
          rw [← HNV.out] at hup
          exact finish HRDY.out hup hsr
        have cp : w3.cell? ⟨P, 0, none⟩ = some (.bool b3) := nd_cell HPw3.out rfl
        have hz := HTw3.out.nd HGW.out.2.1 (by omega)
        have hkd := HTw3.out.nd HKD.out (by omega)
        have z0 : w3.cell? ⟨B + 2, 0, none⟩ = some (.slice none 0 0) := nd_cell hz rfl
        have zf0 := nd_froz hz 0
        have z1 : w3.cell? ⟨B + 2, 1, none⟩ = some (.slice none 0 0) := nd_cell hz rfl
        have zf1 := nd_froz hz 1
        have z2 : w3.cell? ⟨B + 2, 2, none⟩ = some (.int .i64 0) := nd_cell hz rfl
        have zf2 := nd_froz hz 2
        have z3 : w3.cell? ⟨B + 2, 3, none⟩ = some (.int .i64 0) := nd_cell hz rfl
        have zf3 := nd_froz hz 3
        have z4 : w3.cell? ⟨B + 2, 4, none⟩ = some (.int .i64 0) := nd_cell hz rfl
        have zf4 := nd_froz hz 4
        have z5 : w3.cell? ⟨B + 2, 5, none⟩ = some (.int .i64 0) := nd_cell hz rfl
        have zf5 := nd_froz hz 5
        cases b3 with
        | false =>
          have HSF : Hid (SD = OL.zd) := Lib.hid (by rw [HSZ.out, if_neg]; rw [HEb1.out, HEb2.out, HEb3.out]; decide)
          obtain ⟨w6, hw6, hz6, hf6⟩ := sto6 hz (.slice none 0 0) (.slice none 0 0) (.int .i64 0) (.int .i64 0) (.int .i64 0) (.int .i64 0)
          have HZ6 := Lib.hid hz6
          have HT6 : Hid (FrS (fun b => b = X ∨ b = P ∨ b = B + 2 ∨ b = DD) Wd w6) := Lib.hid ((HTw3.out.mono (fun b e => by rcases e with e | e <;> simp [e])).trans (hf6.mono (fun b e => .inr (.inr (.inl e)))))
          have HKW : Hid (w6.heap[DD]? = some (.deferred (some []))) := Lib.hid (hf6.nd hkd (by omega))
          clear hz hz6 hf6 hkd
          gi_wp2_with fail
          try rw [hw6]
          refine ⟨by simp, .inl ⟨_, _, rfl, run_takeDeferred HKW.out, ?_⟩⟩
          have hfd : FrS (fun b => b = DD) w6 (w6.putObj DD (.deferred none)) := FrS.grown (S := fun b => b = DD) (grownBy_putObj' w6 DD (.deferred none)) (fun r e => (Option.some.inj e).symm)
          generalize w6.putObj DD (.deferred none) = wf at hfd ⊢
          have HFF : FrS (fun b => b = X ∨ b = P ∨ b = B + 2 ∨ b = DD) Wd wf := HT6.out.trans (hfd.mono (fun b e => .inr (.inr (.inr e))))
          refine ⟨_, results_cell_row Try.results18 _ _ (B + 2) 41 _ (0, 0) _ rfl (hfd.nd HZ6.out (by omega)) Try.underlying41 rfl (by kernel_rfl), ?_⟩
          refine ⟨_, rfl, fun U hU => ?_, HFF.below W (HBW.out _ _ HDI.out) (fun b hb => by have := HX.out.2.2.2.2; rcases hb with e | e | e | e <;> omega)⟩
          rw [HSF.out]
          exact zd_at U
        | true =>
          have HSF : Hid (SD = ⟨tcs (OL.sz size) 0 C, tan (OL.sz size) (OL.pts C) A, ⟨hc, y3, y4⟩, y5⟩) := Lib.hid (by rw [HSZ.out, if_pos (by rw [HEb1.out, HEb2.out, HEb3.out])])
          have c0 : w3.cell? ⟨X, 0, none⟩ = some (.slice cla cln clc) := nd_cell HXw3.out rfl
          have c1 : w3.cell? ⟨X, 1, none⟩ = some (.slice ala A.length alc) := nd_cell HXw3.out rfl
          have c2 : w3.cell? ⟨X, 2, none⟩ = some (.int .i64 hc) := nd_cell HXw3.out rfl
          have c3 : w3.cell? ⟨X, 3, none⟩ = some (.int .i64 y3) := nd_cell HXw3.out rfl
          have c4 : w3.cell? ⟨X, 4, none⟩ = some (.int .i64 y4) := nd_cell HXw3.out rfl
          have c5 : w3.cell? ⟨X, 5, none⟩ = some (.int .i64 y5) := nd_cell HXw3.out rfl
          obtain ⟨w6, hw6, hz6, hf6⟩ := sto6 hz (.slice cla cln clc) (.slice ala A.length alc) (.int .i64 hc) (.int .i64 y3) (.int .i64 y4) (.int .i64 y5)
          have HZ6 := Lib.hid hz6
          have HT6 : Hid (FrS (fun b => b = X ∨ b = P ∨ b = B + 2 ∨ b = DD) Wd w6) := Lib.hid ((HTw3.out.mono (fun b e => by rcases e with e | e <;> simp [e])).trans (hf6.mono (fun b e => .inr (.inr (.inl e)))))
          have HKW : Hid (w6.heap[DD]? = some (.deferred (some []))) := Lib.hid (hf6.nd hkd (by omega))
          clear hz hz6 hf6 hkd
          gi_wp2_with fail
          try rw [hw6]
          refine ⟨by simp, .inl ⟨_, _, rfl, run_takeDeferred HKW.out, ?_⟩⟩
          have hfd : FrS (fun b => b = DD) w6 (w6.putObj DD (.deferred none)) := FrS.grown (S := fun b => b = DD) (grownBy_putObj' w6 DD (.deferred none)) (fun r e => (Option.some.inj e).symm)
          generalize w6.putObj DD (.deferred none) = wf at hfd ⊢
          have HFF : FrS (fun b => b = X ∨ b = P ∨ b = B + 2 ∨ b = DD) Wd wf := HT6.out.trans (hfd.mono (fun b e => .inr (.inr (.inr e))))
          refine ⟨_, results_cell_row Try.results18 _ _ (B + 2) 41 _ (0, 0) _ rfl (hfd.nd HZ6.out (by omega)) Try.underlying41 rfl (by kernel_rfl), ?_⟩
          refine ⟨_, rfl, fun U hU => ?_, HFF.below W (HBW.out _ _ HDI.out) (fun b hb => by have := HX.out.2.2.2.2; rcases hb with e | e | e | e <;> omega)⟩
          rw [HSF.out]
          obtain ⟨h1, h2⟩ := HFIN.out wf U HFF hU
          exact ⟨_, _, rfl, h1, h2⟩
      case stop =>
        rintro D c pre W _ _ h _
        exact h.elim
    clear hK
    refine wpIn_mono (Q := Exit.then K (fun _ _ _ => False)) ?_ (fun e a w h => by cases e with | normal => exact h | _ => exact h.elim)
    exact scale_first m W W1 size hc hx hy ad ca aa ck ak cn an 0 B C A _ _ _ _ _ _ _ HOKC HLB HLN HCS HAN HB1 HX HGC K hK2
end Go.Proofs.Ytanppbdlcinpfaa
