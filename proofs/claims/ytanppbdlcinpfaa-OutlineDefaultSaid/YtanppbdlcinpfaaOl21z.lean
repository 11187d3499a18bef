/- What scaling an outline wants. No conditions. -/
import Derived.Test.YtanppbdlcinpfaaOl20
set_option linter.unusedSimpArgs false
set_option linter.unusedVariables false
namespace Go.Proofs.Ytanppbdlcinpfaa
set_option maxRecDepth 100000
set_option linter.unusedVariables false
open Go.RowKit Go.Shelf Go.Deep
def okb (f : Nat → Bool) : Nat → Bool
  | 0 => true
  | t + 1 => okb f t && f t
def numAt (N : List (Int × Int)) (t : Nat) : Int := if t % 2 = 0 then (N.getD (t / 2) (0, 0)).1 else (N.getD (t / 2) (0, 0)).2
def okF (N : List (Int × Int)) (size : Int) (t : Nat) : Bool := (F.FP.mulS (numAt N t) size).2
def OL.sz (size : Int) (k q : Nat) (x : Int) : Int := (F.FP.mulS x size).1
def OL.scale (d : Dr) (size : Int) : Dr := if size < 4 ∨ 32 < size then OL.zd else if (okb (okF (nums d.cs d.an) size) (2 * (OL.pts d.cs + d.an.length)) && (F.FP.mulS d.hg.x size).2 && (F.FP.mulS d.hg.y size).2 && (F.FP.mulS d.ad size).2) = true then ⟨tcs (OL.sz size) 0 d.cs, tan (OL.sz size) (OL.pts d.cs) d.an, ⟨d.hg.c, (F.FP.mulS d.hg.x size).1, (F.FP.mulS d.hg.y size).1⟩, (F.FP.mulS d.ad size).1⟩ else OL.zd
theorem num_0 {N : List (Int × Int)} {k : Nat} {x y : Int} (h : N[k]? = some (x, y)) : numAt N (2 * k + 0) = x := by
  unfold numAt
  rw [show (2 * k + 0) % 2 = 0 by omega, show (2 * k + 0) / 2 = k by omega, if_pos rfl, List.getD_eq_getElem?_getD, h]
  rfl
theorem num_1 {N : List (Int × Int)} {k : Nat} {x y : Int} (h : N[k]? = some (x, y)) : numAt N (2 * k + 1) = y := by
  unfold numAt
  rw [show (2 * k + 1) % 2 = 1 by omega, show (2 * k + 1) / 2 = k by omega, if_neg (by decide), List.getD_eq_getElem?_getD, h]
  rfl
/-- What a round of scaling may rely on. -/
structure SI (wx wl : World) (ms : List (Nat × Nat)) (ga na M : Nat) (nv : Nat → Int) (ok : Nat → Bool) (t : Nat) (W : World) : Prop where
  fr : FrS (fun b => inF ms ga na b ∨ b = M) wl W
  up : Upd (inF ms ga na) (items ms ga na) nv wx W t
  le : t ≤ 2 * (items ms ga na).length
  bx : W.heap[M]? = some (.cells #[.bool (okb ok t)] 4 (0, 0))
section
variable {wx wl W V : World} {ms : List (Nat × Nat)} {ga na M : Nat} {nv : Nat → Int} {ok : Nat → Bool} {t : Nat}
theorem SI.frs {T : Nat → Prop} (h : SI wx wl ms ga na M nv ok t W) (hl : ∀ g, inF ms ga na g → g < wl.heap.size) (hM : M < wl.heap.size) (hf : FrS T W V) (hT : ∀ g, T g → wl.heap.size ≤ g) : SI wx wl ms ga na M nv ok t V :=
  ⟨h.fr.over hf (fun b hb => .inr (hT b hb)), h.up.fr hf (fun g hg e => by have := hl g hg; have := hT g e; omega) (fun t' ht => adr_inF (Nat.lt_of_lt_of_le ht h.le)), h.le, hf.nd h.bx (fun e => by have := hT M e; omega)⟩
theorem SI.below (h : SI wx wl ms ga na M nv ok t W) (hl : ∀ g, inF ms ga na g → g < wl.heap.size) (hM : M < wl.heap.size) (hb : Below W.heap.size W V) : SI wx wl ms ga na M nv ok t V :=
  h.frs hl hM (T := fun _ => False) (FrS.of hb) (fun _ x => x.elim)
theorem SI.own {α : Type} (f : List α → Nat) (hl : ∀ g, inF ms ga na g → g < wl.heap.size) (hM : M < wl.heap.size) : OwnFrom wl.heap.size (fun (pre : List α) W => SI wx wl ms ga na M nv ok (f pre) W) := fun pre A B row h hg hr =>
  h.frs hl hM (FrS.grown (S := fun b => row = some b) hg (fun r e => e)) (fun g e => (hr g e).1)
theorem SI.nd {b : Nat} {o : Obj} (h : SI wx wl ms ga na M nv ok t W) (hb : wl.heap[b]? = some o) (hn : ¬ inF ms ga na b) (hm : b ≠ M) : W.heap[b]? = some o := h.fr.nd hb (fun e => e.elim hn hm)
theorem SI.num {k g o q : Nat} (hs : SepB ms ga) (h : SI wx wl ms ga na M nv ok (2 * k + q) W) (hq : q < 2) (hk : (items ms ga na)[k]? = some (g, o)) : W.cell? ⟨g, o + q, none⟩ = wx.cell? ⟨g, o + q, none⟩ ∧ W.frozen? ⟨g, o + q, none⟩ = false := by
  have hlt := (List.getElem?_eq_some_iff.1 hk).1
  have ha := adr_at hk hq
  have hF := adr_inF (ms := ms) (ga := ga) (na := na) (t := 2 * k + q) (by omega)
  rw [ha] at hF
  refine ⟨h.up.old g (o + q) hF (fun t' ht e => ?_), h.up.fro g _ hF⟩
  rw [← ha] at e
  have := adr_inj hs (by omega) (by omega) e
  omega
/-- The next number is scaled. -/
theorem SI.sc {k g o q : Nat} {u : Value} (hs : SepB ms ga) (h : SI wx wl ms ga na M nv ok (2 * k + q) W) (hl : ∀ g, inF ms ga na g → g < wl.heap.size) (hM : M < wl.heap.size) (hMF : ¬ inF ms ga na M) (hb : Below W.heap.size W V) (hq : q < 2) (hk : (items ms ga na)[k]? = some (g, o)) (hc : W.cell? ⟨g, o + q, none⟩ = some u) :
    SI wx wl ms ga na M nv ok (2 * k + q + 1) ((V.setCell ⟨g, o + q, none⟩ (.int .i64 (nv (2 * k + q)))).setCell ⟨M, 0, none⟩ (.bool (okb ok (2 * k + q) && ok (2 * k + q)))) ∧ FrS (fun b => inF ms ga na b ∨ b = M) W ((V.setCell ⟨g, o + q, none⟩ (.int .i64 (nv (2 * k + q)))).setCell ⟨M, 0, none⟩ (.bool (okb ok (2 * k + q) && ok (2 * k + q)))) := by
  have hV := h.below hl hM hb
  have hlt := (List.getElem?_eq_some_iff.1 hk).1
  have ha := adr_at hk hq
  have hF := adr_inF (ms := ms) (ga := ga) (na := na) (t := 2 * k + q) (by omega)
  rw [ha] at hF
  have hcV : V.cell? ⟨g, o + q, none⟩ = some u := (hb.cell (World.block_lt_of_cell? _ _ hc)).trans hc
  have hgM : M ≠ g := fun e => hMF (e ▸ hF)
  have f1 : FrS (fun b => inF ms ga na b ∨ b = M) V (V.setCell ⟨g, o + q, none⟩ (.int .i64 (nv (2 * k + q)))) := FrS.set (S := fun b => inF ms ga na b ∨ b = M) V (b := g) (i := o + q) (.inl hF) _
  have f1' : FrS (fun b => b = g) V (V.setCell ⟨g, o + q, none⟩ (.int .i64 (nv (2 * k + q)))) := FrS.set (S := fun b => b = g) V (b := g) (i := o + q) rfl _
  have hu := hV.up.step (T := 2 * (items ms ga na).length) (by omega) (fun a b ha hb e => adr_inj hs ha hb e) (u := u) (by rw [ha]; exact hcV)
  rw [ha] at hu
  have hbx := f1'.nd hV.bx (fun e => hgM e)
  generalize V.setCell ⟨g, o + q, none⟩ (.int .i64 (nv (2 * k + q))) = V1 at hu hbx f1 ⊢
  have f2 : FrS (fun b => inF ms ga na b ∨ b = M) V1 (V1.setCell ⟨M, 0, none⟩ (.bool (okb ok (2 * k + q) && ok (2 * k + q)))) := FrS.set (S := fun b => inF ms ga na b ∨ b = M) V1 (b := M) (i := 0) (.inr rfl) _
  have f2' : FrS (fun b => b = M) V1 (V1.setCell ⟨M, 0, none⟩ (.bool (okb ok (2 * k + q) && ok (2 * k + q)))) := FrS.set (S := fun b => b = M) V1 (b := M) (i := 0) rfl _
  refine ⟨⟨(hV.fr.trans f1).trans f2, hu.fr f2' (fun g' hg' e => hMF (e ▸ hg')) (fun t' ht => adr_inF (by omega)), by omega, ?_⟩, ((FrS.of hb).trans f1).trans f2⟩
  exact heap_setCell_same V1 M 0 _ _ _ hbx
end
end Go.Proofs.Ytanppbdlcinpfaa
