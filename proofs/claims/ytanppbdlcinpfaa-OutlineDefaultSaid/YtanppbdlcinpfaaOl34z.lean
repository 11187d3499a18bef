/- Texts merged: Ol17z, Ol34z. No conditions. -/
import Derived.Test.YtanppbdlcinpfaaOl16
import Derived.Test.YtanppbdlcinpfaaRoundIn
set_option linter.unusedSimpArgs false
set_option linter.unusedVariables false
/- What drawing an outline wants. No conditions. -/
section
namespace Go.Proofs.Ytanppbdlcinpfaa
set_option maxRecDepth 100000
set_option linter.unusedVariables false
open Go.RowKit Go.Shelf Go.Deep
def OL.sx (R : List (List AX.Tn)) (at' : List Int) (D : List Dl) (k q : Nat) (x : Int) : Int := (AX.sum x (D.map fun d => (d.r, OL.mv k q d)) R at').1
def OL.draw (G : Gl) (R : List (List AX.Tn)) (at' : List Int) : Dr := ⟨tcs (OL.sx R at' G.ds) 0 G.cs, tan (OL.sx R at' G.ds) (OL.pts G.cs) G.an, ⟨G.hg.c, OL.sx R at' G.ds (OL.points G - 1) 0 G.hg.x, OL.sx R at' G.ds (OL.points G - 1) 1 G.hg.y⟩, (AX.sum G.ad (G.ds.map fun d => (d.r, OL.av d)) R at').1⟩
theorem sto6 {w : World} {X : Nat} {u0 u1 u2 u3 u4 u5 : Value} {T : TypeId} (h : w.heap[X]? = some (.cells #[u0, u1, u2, u3, u4, u5] T (0, 0))) (a b c d e f : Value) :
    ∃ V, (((((w.setCell ⟨X, 0, none⟩ a).setCell ⟨X, 1, none⟩ b).setCell ⟨X, 2, none⟩ c).setCell ⟨X, 3, none⟩ d).setCell ⟨X, 4, none⟩ e).setCell ⟨X, 5, none⟩ f = V ∧ V.heap[X]? = some (.cells #[a, b, c, d, e, f] T (0, 0)) ∧ FrS (fun y => y = X) w V := by
  have s := fun (V : World) (i : Nat) (u : Value) => FrS.set (S := fun b => b = X) V (b := X) (i := i) rfl u
  refine ⟨_, rfl, ?_, (((((s _ _ _).trans (s _ _ _)).trans (s _ _ _)).trans (s _ _ _)).trans (s _ _ _)).trans (s _ _ _)⟩
  exact heap_setCell_same _ X 5 _ T f (heap_setCell_same _ X 4 _ T e (heap_setCell_same _ X 3 _ T d (heap_setCell_same _ X 2 _ T c (heap_setCell_same _ X 1 _ T b (heap_setCell_same w X 0 _ T a h)))))
theorem CnS.fr {W V : World} {Y X : Nat} {v : Value} {C : List (List Pt)} {vs : List Value} (h : CnS W Y v C vs) (hf : FrS (fun y => y = X) W V) (hv : v.ownBlock ≠ some X) (hvs : ∀ (i : Nat) (u : Value), vs[i]? = some u → u.ownBlock ≠ some X) : CnS V Y v C vs :=
  ⟨hf.own h.out (fun q hq e => hv (by rw [hq, e])), fun i c hc => by
    obtain ⟨u, h1, h2⟩ := h.inn i c hc
    exact ⟨u, h1, hf.own h2 (fun q hq e => hvs i u h1 (by rw [hq, e]))⟩, h.sep, fun i u q h1 h2 => ⟨(h.sep2 i u q h1 h2).1, Nat.lt_of_lt_of_le (h.sep2 i u q h1 h2).2 hf.size⟩⟩
theorem rdy_of {w2 w5 wf V : World} {Y Y2 X N : Nat} {v va : Value} {C : List (List Pt)} {A : List Ac} {vs : List Value} (hc : CnS w2 Y v C vs) (hb2 : Below w2.heap.size w2 wf) (ha : w5.ownsRow Y2 30 3 va A.length (acc A)) (hb5 : Below w5.heap.size w5 wf)
    (hYY : Y ≤ Y2) (hN : N ≤ Y) (h2 : w2.heap.size ≤ Y2) (hx : X < Y ∨ w2.heap.size ≤ X) (hx2 : X < Y2 ∨ w5.heap.size ≤ X) (hf : FrS (fun y => y = X) wf V) (hok : CsOk C) :
    (∃ ms ga, Rdy V N v va C A vs ms ga ∧ ¬ inF ms ga A.length X) ∧ ∀ q, v.ownBlock = some q → N ≤ q ∧ q < V.heap.size ∧ q ≠ X := by
  have hq : ∀ (i : Nat) (u : Value) (q : Nat), vs[i]? = some u → u.ownBlock = some q → q < Y2 ∧ q ≠ X := fun i u q h1 h3 => by
    obtain ⟨c, hcc⟩ : ∃ c, C[i]? = some c := ⟨_, List.getElem?_eq_getElem (by rw [← hc.len]; exact (List.getElem?_eq_some_iff.1 h1).1)⟩
    obtain ⟨u', h4, h5⟩ := hc.inn i c hcc
    rw [h1] at h4
    obtain rfl := Option.some.inj h4
    have := own_lt h5 h3
    omega
  have hvq : ∀ q, v.ownBlock = some q → q < Y2 ∧ q ≠ X := fun q h1 => by
    have := own_lt hc.out h1
    omega
  have haq : ∀ q, va.ownBlock = some q → q ≠ X := fun q h1 => by
    have := own_lt ha h1
    omega
  have hvX : v.ownBlock ≠ some X := fun e => (hvq X e).2 rfl
  have hvs : ∀ (i : Nat) (u : Value), vs[i]? = some u → u.ownBlock ≠ some X := fun i u h1 e => (hq i u X h1 e).2 rfl
  obtain ⟨ms, ga, hr⟩ := set_up ((hc.below hb2).fr hf hvX hvs) (hf.own (own_below ha hb5) (fun q h1 e => haq q h1 e)) hYY (fun i u q h1 h3 => (hq i u q h1 h3).1) (fun q h1 => (hvq q h1).1) hok
  refine ⟨⟨ms, ga, { hr with lt := fun g hg => ⟨(hr.lt g hg).1, Nat.le_trans hN (hr.lt g hg).2.1, (hr.lt g hg).2.2⟩ }, fun hX => ?_⟩, fun q h1 => ⟨by have := own_lt hc.out h1; omega, by have h2 := own_lt hc.out h1; have h3 := hb2.size; have h4 := hf.size; omega, (hvq q h1).2⟩⟩
  rcases hX with ⟨i, n, h1, h3⟩ | ⟨e, h3⟩
  · obtain ⟨a, k, h4, h5⟩ := hr.vok i X n h1
    exact hvs i _ h4 (by rw [h5 h3]; rfl)
  · obtain ⟨aa, ac, h4, h5⟩ := hr.vas
    exact haq X (by rw [h4, h5 h3, e]; rfl) rfl
theorem idx_0 (w : World) (a b : Value) : (Instr.index 108 (.agg #[a, b]) (.int .i64 0)).run Try.prog w = .ok a w := by kernel_rfl
theorem idx_1 (w : World) (a b : Value) : (Instr.index 108 (.agg #[a, b]) (.int .i64 1)).run Try.prog w = .ok b w := by kernel_rfl
theorem FrS.keepsFrom {S : Nat → Prop} {A B : World} (h : FrS S A B) (N : Nat) (hN : ∀ b o, S b → N ≤ b → A.heap[b]? = some o → o.isCells = true) : KeepsFrom N A B :=
  ⟨h.size, fun k o hk ho hc => (h.block k (Array.getElem?_eq_some_iff.1 ho).1 (fun x => by have := hN k o x hk ho; rw [hc] at this; cases this)).trans ho⟩
theorem heap_cell {W V : World} {g : Nat} (h : V.heap[g]? = W.heap[g]?) (o : Nat) : V.cell? ⟨g, o, none⟩ = W.cell? ⟨g, o, none⟩ := by
  unfold World.cell?
  simp only [h]
theorem heap_froz {W V : World} {g : Nat} (h : V.heap[g]? = W.heap[g]?) (o : Nat) : V.frozen? ⟨g, o, none⟩ = W.frozen? ⟨g, o, none⟩ := by
  unfold World.frozen?
  simp only [h]
theorem Upd.fr {F T : Nat → Prop} {L : List (Nat × Nat)} {nv : Nat → Int} {W0 W V : World} {t : Nat} (h : Upd F L nv W0 W t) (hf : FrS T W V) (hT : ∀ g, F g → ¬ T g) (hF : ∀ t', t' < t → F (adr L t').1) : Upd F L nv W0 V t :=
  ⟨fun t' ht => (heap_cell (hf.block _ (h.lt _ (hF t' ht)) (hT _ (hF t' ht))) _).trans (h.new t' ht), fun g o hg hn => (heap_cell (hf.block g (h.lt g hg) (hT g hg)) o).trans (h.old g o hg hn), fun g o hg => (heap_froz (hf.block g (h.lt g hg) (hT g hg)) o).trans (h.fro g o hg), fun g hg => Nat.lt_of_lt_of_le (h.lt g hg) hf.size⟩
section
variable {W0 W V wl : World} {Y : Nat} {v va : Value} {C : List (List Pt)} {A : List Ac} {vs : List Value} {ms : List (Nat × Nat)} {ga : Nat} {nv : Nat → Int}
theorem Rdy.len (h : Rdy W0 Y v va C A vs ms ga) : (items ms ga A.length).length = OL.pts C + A.length := by
  rw [items_len]
  have := h.lay.offs ms.length (Nat.le_refl _)
  rw [List.take_length, h.lay.len, List.take_length] at this
  rw [this]
theorem Rdy.num (h : Rdy W0 Y v va C A vs ms ga) {k g o : Nat} (hk : (items ms ga A.length)[k]? = some (g, o)) : ∃ x y, (nums C A)[k]? = some (x, y) ∧ W0.cell? ⟨g, o, none⟩ = some (.int .i64 x) ∧ W0.cell? ⟨g, o + 1, none⟩ = some (.int .i64 y) := by
  rcases items_inv hk with ⟨i, n, j, a1, a2, a3, a4⟩ | ⟨j, a2, a3, a4, a5⟩
  · obtain ⟨c, hc, hln, hcl⟩ := h.lay.row i g n a1
    have hio := h.lay.offs i (by have := (List.getElem?_eq_some_iff.1 a1).1; omega)
    obtain ⟨p, hp⟩ : ∃ p, c[j]? = some p := ⟨_, List.getElem?_eq_getElem (by omega)⟩
    have hn := nums_pt (A := A) hc hp
    rw [← hio, ← a3] at hn
    obtain ⟨e0, e1, -⟩ := hcl j p hp
    exact ⟨_, _, hn, by rw [a4]; exact e0, by rw [a4]; exact e1⟩
  · have hio := h.lay.offs ms.length (Nat.le_refl _)
    rw [List.take_length, h.lay.len, List.take_length] at hio
    obtain ⟨a, ha⟩ : ∃ a, A[j]? = some a := ⟨_, List.getElem?_eq_getElem (by omega)⟩
    have hn := nums_an (C := C) ha
    rw [← hio, ← a3] at hn
    obtain ⟨-, e0, e1⟩ := h.lay.anc j a ha
    exact ⟨_, _, hn, by rw [a4, a5]; exact e0, by rw [a4, a5]; exact e1⟩
/-- What a round of drawing may rely on. -/
structure DI (wx wl : World) (ms : List (Nat × Nat)) (ga na : Nat) (nv : Nat → Int) (t : Nat) (W : World) : Prop where
  fr : FrS (inF ms ga na) wl W
  up : Upd (inF ms ga na) (items ms ga na) nv wx W t
  le : t ≤ 2 * (items ms ga na).length
theorem DI.frs {T : Nat → Prop} {wx wl W V : World} {na t : Nat} (h : DI wx wl ms ga na nv t W) (hl : ∀ g, inF ms ga na g → g < wl.heap.size) (hf : FrS T W V) (hT : ∀ g, T g → wl.heap.size ≤ g) : DI wx wl ms ga na nv t V :=
  ⟨h.fr.over hf (fun b hb => .inr (hT b hb)), h.up.fr hf (fun g hg e => by have := hl g hg; have := hT g e; omega) (fun t' ht => adr_inF (Nat.lt_of_lt_of_le ht h.le)), h.le⟩
theorem DI.below {wx wl W V : World} {na t : Nat} (h : DI wx wl ms ga na nv t W) (hl : ∀ g, inF ms ga na g → g < wl.heap.size) (hb : Below W.heap.size W V) : DI wx wl ms ga na nv t V :=
  h.frs hl (T := fun _ => False) (FrS.of hb) (fun _ x => x.elim)
theorem DI.own {wx wl : World} {na : Nat} {α : Type} (f : List α → Nat) (hl : ∀ g, inF ms ga na g → g < wl.heap.size) : OwnFrom wl.heap.size (fun (pre : List α) W => DI wx wl ms ga na nv (f pre) W) := fun pre A B row h hg hr =>
  h.frs hl (FrS.grown (S := fun b => row = some b) hg (fun r e => e)) (fun g e => (hr g e).1)
theorem DI.nd {wx wl W : World} {na t b : Nat} {o : Obj} (h : DI wx wl ms ga na nv t W) (hb : wl.heap[b]? = some o) (hn : ¬ inF ms ga na b) : W.heap[b]? = some o := h.fr.nd hb hn
/-- The next number is written. -/
theorem DI.step {wx wl W : World} {k g o q : Nat} {u : Value} (hs : SepB ms ga) {na : Nat} (h : DI wx wl ms ga na nv (2 * k + q) W) (hq : q < 2) (hk : (items ms ga na)[k]? = some (g, o)) (hc : W.cell? ⟨g, o + q, none⟩ = some u) : DI wx wl ms ga na nv (2 * k + q + 1) (W.setCell ⟨g, o + q, none⟩ (.int .i64 (nv (2 * k + q)))) := by
  have hlt := (List.getElem?_eq_some_iff.1 hk).1
  have ha := adr_at hk hq
  have hF := adr_inF (ms := ms) (ga := ga) (na := na) (t := 2 * k + q) (by omega)
  rw [ha] at hF
  refine ⟨h.fr.trans (FrS.set (S := inF ms ga na) W (b := g) (i := o + q) hF _), ?_, by omega⟩
  have := h.up.step (T := 2 * (items ms ga na).length) (by omega) (fun a b ha hb e => adr_inj hs ha hb e) (u := u) (by rw [ha]; exact hc)
  rw [ha] at this
  exact this
/-- A number that is not written yet. -/
theorem DI.num {wx wl W : World} {k g o q na : Nat} (hs : SepB ms ga) (h : DI wx wl ms ga na nv (2 * k + q) W) (hq : q < 2) (hk : (items ms ga na)[k]? = some (g, o)) : W.cell? ⟨g, o + q, none⟩ = wx.cell? ⟨g, o + q, none⟩ ∧ W.frozen? ⟨g, o + q, none⟩ = false := by
  have hlt := (List.getElem?_eq_some_iff.1 hk).1
  have ha := adr_at hk hq
  have hF := adr_inF (ms := ms) (ga := ga) (na := na) (t := 2 * k + q) (by omega)
  rw [ha] at hF
  refine ⟨h.up.old g (o + q) hF (fun t' ht e => ?_), h.up.fro g _ hF⟩
  rw [← ha] at e
  have := adr_inj hs (by omega) (by omega) e
  omega
theorem Rdy.srcAt {S : Nat → Prop} {wx : World} (h : Rdy wx Y v va C A vs ms ga) (hb : Below wx.heap.size wx wl) (hd : FrS S wl W) (hS : ∀ g, v.ownBlock = some g → ¬ S g) : SrcN 1 W v C.length vs := by
  have hs := h.src
  obtain ⟨ao, c, e, hl, h1⟩ := hs
  refine SrcN.re h.src hl fun g o ⟨c', e'⟩ h0 => ?_
  rcases h1 with ⟨h2, h3⟩ | ⟨g', o', e2, h3, h4⟩
  · omega
  · rw [e, e2] at e'
    injection e' with e1 _ _
    injection e1 with e1
    injection e1 with e3 e4 _
    subst e3 e4
    have hn : ¬ S g' := hS g' (by rw [e, e2]; rfl)
    have hk : W.heap[g']? = wx.heap[g']? := (hd.block g' (Nat.lt_of_lt_of_le h3 hb.size) hn).trans (hb.block g' h3)
    refine ⟨Nat.lt_of_lt_of_le h3 (Nat.le_trans hb.size hd.size), fun j u hj => ?_⟩
    rw [heap_cell hk]
    exact h4 j u hj
theorem Rdy.srcIn {wx : World} (h : Rdy wx Y v va C A vs ms ga) (hb : Below wx.heap.size wx wl) {t : Nat} (hd : DI wx wl ms ga A.length nv t W) : SrcN 1 W v C.length vs :=
  h.srcAt hb hd.fr (fun g e hg => (h.lt g hg).2.2 e)
end
end Go.Proofs.Ytanppbdlcinpfaa
end
/- An outline in memory of its own. No conditions. -/
section
namespace Go.Proofs.Ytanppbdlcinpfaa
set_option maxRecDepth 100000
set_option linter.unusedVariables false
open Go.RowKit Go.Deep
/-- Contours and anchors in memory of our own, all in blocks from N on. -/
structure RwS (W : World) (N : Nat) (vc va : Value) (C : List (List Pt)) (A : List Ac) (vs : List Value) : Prop where
  cs : CnS W N vc C vs
  an : W.ownsRow N 30 3 va A.length (acc A)
  sep : ∀ q, va.ownBlock = some q → vc.ownBlock ≠ some q ∧ ∀ (i : Nat) (u : Value), vs[i]? = some u → u.ownBlock ≠ some q
theorem CnS.nil (W : World) (Y : Nat) : CnS W Y (.slice none 0 0) [] [] := ⟨⟨rfl, .inl ⟨rfl, rfl⟩⟩, fun i c h => by simp at h, fun i j u u' q _ h => by simp at h, fun i u q h => by simp at h⟩
theorem RwS.nil (W : World) (N : Nat) : RwS W N (.slice none 0 0) (.slice none 0 0) [] [] [] := ⟨CnS.nil W N, ⟨rfl, .inl ⟨rfl, rfl⟩⟩, fun q h => by simp [Value.ownBlock] at h⟩
theorem RwS.keep {W V : World} {N : Nat} {vc va : Value} {C : List (List Pt)} {A : List Ac} {vs : List Value} (h : RwS W N vc va C A vs) (hb : Below W.heap.size W V) : RwS V N vc va C A vs := ⟨h.cs.below hb, own_below h.an hb, h.sep⟩
theorem CnS.frN {S : Nat → Prop} {W V : World} {Y : Nat} {v : Value} {C : List (List Pt)} {vs : List Value} (h : CnS W Y v C vs) (hf : FrS S W V) (hS : ∀ q, S q → q < Y ∨ W.heap.size ≤ q) : CnS V Y v C vs :=
  ⟨hf.own h.out (fun q hq hs => by have := own_lt h.out hq; have := hS q hs; omega), fun i c hc => by
    obtain ⟨u, h1, h2⟩ := h.inn i c hc
    exact ⟨u, h1, hf.own h2 (fun q hq hs => by have := own_lt h2 hq; have := hS q hs; omega)⟩, h.sep, fun i u q h1 h2 => ⟨(h.sep2 i u q h1 h2).1, Nat.lt_of_lt_of_le (h.sep2 i u q h1 h2).2 hf.size⟩⟩
theorem RwS.fr {S : Nat → Prop} {W V : World} {N : Nat} {vc va : Value} {C : List (List Pt)} {A : List Ac} {vs : List Value} (h : RwS W N vc va C A vs) (hf : FrS S W V) (hS : ∀ q, S q → q < N ∨ W.heap.size ≤ q) : RwS V N vc va C A vs :=
  ⟨h.cs.frN hf hS, hf.own h.an (fun q hq hs => by have := own_lt h.an hq; have := hS q hs; omega), h.sep⟩
theorem CnS.snoc {w w2 w3 w4 : World} {Y : Nat} {v v' u : Value} {C : List (List Pt)} {c : List Pt} {vs : List Value} (h : CnS w Y v C vs) (hu : w2.ownsRow w.heap.size 81 3 u c.length (ptc c)) (hY : Y ≤ w.heap.size)
    (hb : Below w.heap.size w w2) (hb3 : Below w2.heap.size w2 w3) (hown : w4.ownsRow Y 53 1 v' (C.length + 1) (vs ++ [u])) (hg : w3.grownBy w4 v.ownBlock) (hor : v'.ownBlock = v.ownBlock ∨ v'.ownBlock = some w3.heap.size) : CnS w4 Y v' (C ++ [c]) (vs ++ [u]) := by
  have h0 : CnS w Y v ((C ++ [c]).take C.length) vs := by rw [List.take_left]; exact h
  have := h0.next (C := C ++ [c]) (i := C.length) (c := c) (by simp) hu hY hb hb3 hown hg hor
  rwa [List.take_of_length_le (by simp)] at this
theorem RwS.pushC {w w2 w3 w4 : World} {N : Nat} {vc va v' u : Value} {C : List (List Pt)} {A : List Ac} {c : List Pt} {vs : List Value} (h : RwS w N vc va C A vs) (hu : w2.ownsRow w.heap.size 81 3 u c.length (ptc c)) (hN : N ≤ w.heap.size)
    (hb : Below w.heap.size w w2) (hb3 : Below w2.heap.size w2 w3) (hown : w4.ownsRow N 53 1 v' (C.length + 1) (vs ++ [u])) (hg : w3.grownBy w4 vc.ownBlock) (hor : v'.ownBlock = vc.ownBlock ∨ v'.ownBlock = some w3.heap.size) : RwS w4 N v' va (C ++ [c]) A (vs ++ [u]) := by
  refine ⟨h.cs.snoc hu hN hb hb3 hown hg hor, own_kept' (own_below h.an (bnext hb hb3)) hg (fun q hq => (h.sep q hq).1), fun q hq => ⟨fun e => ?_, fun i x hx e => ?_⟩⟩
  · have h1 := (own_lt h.an hq).2
    rcases hor with h2 | h2
    · exact (h.sep q hq).1 (h2.symm.trans e)
    · have h3 := Option.some.inj (h2.symm.trans e)
      have := hb.size
      have := hb3.size
      omega
  · by_cases hi : i < vs.length
    · rw [List.getElem?_append_left hi] at hx
      exact (h.sep q hq).2 i x hx e
    · have h1 := (List.getElem?_eq_some_iff.1 hx).1
      rw [List.length_append, List.length_singleton] at h1
      rw [List.getElem?_append_right (by omega), show i - vs.length = 0 by omega] at hx
      obtain rfl := Option.some.inj hx
      have h2 := (own_lt h.an hq).2
      have h3 := (own_lt hu e).1
      omega
theorem RwS.pushA {w w3 w4 : World} {N : Nat} {vc va v' : Value} {C : List (List Pt)} {A : List Ac} {a : Ac} {vs : List Value} (h : RwS w N vc va C A vs) (hb3 : Below w.heap.size w w3)
    (hown : w4.ownsRow N 30 3 v' (A.length + 1) (acc A ++ acv a)) (hg : w3.grownBy w4 va.ownBlock) (hor : v'.ownBlock = va.ownBlock ∨ v'.ownBlock = some w3.heap.size) : RwS w4 N vc v' C (A ++ [a]) vs := by
  have h3 := h.keep hb3
  refine ⟨⟨own_kept' h3.cs.out hg (fun q hq e => (h.sep q e).1 hq), fun i c hc => ?_, h.cs.sep, fun i u q h1 h2 => ⟨(h.cs.sep2 i u q h1 h2).1, Nat.lt_of_lt_of_le (h3.cs.sep2 i u q h1 h2).2 hg.size⟩⟩, ?_, fun q hq => ⟨fun e => ?_, fun i x hx e => ?_⟩⟩
  · obtain ⟨u, h1, h2⟩ := h3.cs.inn i c hc
    exact ⟨u, h1, own_kept' h2 hg (fun q hq e => (h.sep q e).2 i u h1 hq)⟩
  · rw [List.length_append, List.length_singleton, acc_app]
    have : acc [a] = acv a := by unfold acc; simp
    rw [this]
    exact hown
  · rcases hor with h2 | h2
    · exact (h.sep q (h2.symm.trans hq)).1 e
    · have h4 := Option.some.inj (h2.symm.trans hq)
      have h5 := (own_lt h3.cs.out e).2
      omega
  · rcases hor with h2 | h2
    · exact (h.sep q (h2.symm.trans hq)).2 i x hx e
    · have h4 := Option.some.inj (h2.symm.trans hq)
      have h5 := (h3.cs.sep2 i x q hx e).2
      omega
theorem CnS.at {W : World} {Y : Nat} {v : Value} {C : List (List Pt)} {vs : List Value} (h : CnS W Y v C vs) : CsAt W v C := by
  refine ⟨vs, own_srcN h.out, fun i c hc => ?_⟩
  obtain ⟨u, h1, h2⟩ := h.inn i c hc
  obtain ⟨a, k, rfl⟩ := own_shape h2
  exact ⟨a, k, h1, own_srcN h2⟩
theorem RwS.dr {W : World} {N : Nat} {vc va : Value} {C : List (List Pt)} {A : List Ac} {vs : List Value} (h : RwS W N vc va C A vs) (a : Ac) (ad : Int) : DrAt W (.agg #[vc, va, .int .i64 a.c, .int .i64 a.x, .int .i64 a.y, .int .i64 ad]) ⟨C, A, a, ad⟩ := ⟨vc, va, rfl, h.cs.at, own_srcN h.an⟩
/-- A store into one block. -/
theorem FrS.one (W : World) (b i : Nat) (u : Value) : FrS (fun q => q = b) W (W.setCell ⟨b, i, none⟩ u) := FrS.set W (S := fun q => q = b) rfl u
/-- An outline that is being made: its numbers in block X, its rows behind it. -/
structure DwS (W0 W : World) (X : Nat) (vc va : Value) (h : Ac) (ad : Int) (C : List (List Pt)) (A : List Ac) (vs : List Value) : Prop where
  box : W.heap[X]? = some (.cells #[vc, va, .int .i64 h.c, .int .i64 h.x, .int .i64 h.y, .int .i64 ad] 41 (0, 0))
  rw : RwS W (X + 1) vc va C A vs
  bel : Below W0.heap.size W0 W
  le : W0.heap.size ≤ X
section
variable {W0 W V : World} {X : Nat} {vc va : Value} {h : Ac} {ad : Int} {C : List (List Pt)} {A : List Ac} {vs : List Value}
theorem DwS.lt (s : DwS W0 W X vc va h ad C A vs) : X < W.heap.size := (Array.getElem?_eq_some_iff.1 s.box).1
theorem DwS.keep (s : DwS W0 W X vc va h ad C A vs) (hb : Below W.heap.size W V) : DwS W0 V X vc va h ad C A vs := ⟨(hb.block X s.lt).trans s.box, s.rw.keep hb, bnext s.bel hb, s.le⟩
theorem DwS.drew (s : DwS W0 W X vc va h ad C A vs) : DwS W0 W.drew X vc va h ad C A vs := s.keep (Below.drew (Below.refl _ _))
theorem DwS.cells (s : DwS W0 W X vc va h ad C A vs) : W.cell? ⟨X, 0, none⟩ = some vc ∧ W.cell? ⟨X, 1, none⟩ = some va ∧ W.cell? ⟨X, 2, none⟩ = some (.int .i64 h.c) ∧ W.cell? ⟨X, 3, none⟩ = some (.int .i64 h.x) ∧ W.cell? ⟨X, 4, none⟩ = some (.int .i64 h.y) ∧ W.cell? ⟨X, 5, none⟩ = some (.int .i64 ad) :=
  ⟨nd_cell s.box rfl, nd_cell s.box rfl, nd_cell s.box rfl, nd_cell s.box rfl, nd_cell s.box rfl, nd_cell s.box rfl⟩
theorem DwS.froz (s : DwS W0 W X vc va h ad C A vs) (i : Nat) : W.frozen? ⟨X, i, none⟩ = false := nd_froz s.box i
theorem DwS.set (s : DwS W0 W X vc va h ad C A vs) (i : Nat) (u : Value) : RwS (W.setCell ⟨X, i, none⟩ u) (X + 1) vc va C A vs ∧ Below W0.heap.size W0 (W.setCell ⟨X, i, none⟩ u) :=
  ⟨s.rw.fr (FrS.one W X i u) (fun q hq => .inl (by omega)), bset s.bel s.le u⟩
theorem DwS.hang (s : DwS W0 W X vc va h ad C A vs) (x y : Int) : DwS W0 ((W.setCell ⟨X, 3, none⟩ (.int .i64 x)).setCell ⟨X, 4, none⟩ (.int .i64 y)) X vc va ⟨h.c, x, y⟩ ad C A vs := by
  have h1 := s.set 3 (.int .i64 x)
  have s1 : DwS W0 (W.setCell ⟨X, 3, none⟩ (.int .i64 x)) X vc va ⟨h.c, x, h.y⟩ ad C A vs := ⟨heap_setCell_same W X 3 _ _ _ s.box, h1.1, h1.2, s.le⟩
  have h2 := s1.set 4 (.int .i64 y)
  exact ⟨heap_setCell_same _ X 4 _ _ _ s1.box, h2.1, h2.2, s.le⟩
theorem DwS.adv (s : DwS W0 W X vc va h ad C A vs) (x : Int) : DwS W0 (W.setCell ⟨X, 5, none⟩ (.int .i64 x)) X vc va h x C A vs := by
  have h1 := s.set 5 (.int .i64 x)
  exact ⟨heap_setCell_same W X 5 _ _ _ s.box, h1.1, h1.2, s.le⟩
theorem DwS.pushC {w2 w3 w4 : World} {v' u : Value} {c : List Pt} (s : DwS W0 W X vc va h ad C A vs) (hu : w2.ownsRow W.heap.size 81 3 u c.length (ptc c))
    (hb : Below W.heap.size W w2) (hb3 : Below w2.heap.size w2 w3) (hown : w4.ownsRow (X + 1) 53 1 v' (C.length + 1) (vs ++ [u])) (hg : w3.grownBy w4 vc.ownBlock) (hor : v'.ownBlock = vc.ownBlock ∨ v'.ownBlock = some w3.heap.size) :
    w4.heap[X]? = some (.cells #[vc, va, .int .i64 h.c, .int .i64 h.x, .int .i64 h.y, .int .i64 ad] 41 (0, 0)) ∧ DwS W0 (w4.setCell ⟨X, 0, none⟩ v') X v' va h ad (C ++ [c]) A (vs ++ [u]) := by
  have hbb := bnext hb hb3
  have hlt := Nat.lt_of_lt_of_le s.lt hbb.size
  have hx := (hg.block X hlt (fun e => by have := (own_lt s.rw.cs.out e.symm).1; omega)).trans ((hbb.block X s.lt).trans s.box)
  have h1 := s.rw.pushC hu s.lt hb hb3 hown hg hor
  have hbl : Below W0.heap.size W0 w4 := (bnext s.bel hbb).grown hg (Nat.le_trans s.bel.size hbb.size) (fun q e => by have := (own_lt s.rw.cs.out e).1; have := s.le; omega)
  exact ⟨hx, heap_setCell_same w4 X 0 _ _ v' hx, h1.fr (FrS.one w4 X 0 v') (fun q hq => .inl (by omega)), bset hbl s.le v', s.le⟩
theorem DwS.pushA {w3 w4 : World} {v' : Value} {a : Ac} (s : DwS W0 W X vc va h ad C A vs) (hb3 : Below W.heap.size W w3)
    (hown : w4.ownsRow (X + 1) 30 3 v' (A.length + 1) (acc A ++ acv a)) (hg : w3.grownBy w4 va.ownBlock) (hor : v'.ownBlock = va.ownBlock ∨ v'.ownBlock = some w3.heap.size) :
    w4.heap[X]? = some (.cells #[vc, va, .int .i64 h.c, .int .i64 h.x, .int .i64 h.y, .int .i64 ad] 41 (0, 0)) ∧ DwS W0 (w4.setCell ⟨X, 1, none⟩ v') X vc v' h ad C (A ++ [a]) vs := by
  have hlt := Nat.lt_of_lt_of_le s.lt hb3.size
  have hx := (hg.block X hlt (fun e => by have := (own_lt s.rw.an e.symm).1; omega)).trans ((hb3.block X s.lt).trans s.box)
  have h1 := s.rw.pushA hb3 hown hg hor
  have hbl : Below W0.heap.size W0 w4 := (bnext s.bel hb3).grown hg (Nat.le_trans s.bel.size hb3.size) (fun q e => by have := (own_lt s.rw.an e).1; have := s.le; omega)
  exact ⟨hx, heap_setCell_same w4 X 1 _ _ v' hx, h1.fr (FrS.one w4 X 1 v') (fun q hq => .inl (by omega)), bset hbl s.le v', s.le⟩
theorem DwS.dr (s : DwS W0 W X vc va h ad C A vs) : DrAt W (.agg #[vc, va, .int .i64 h.c, .int .i64 h.x, .int .i64 h.y, .int .i64 ad]) ⟨C, A, h, ad⟩ := s.rw.dr h ad
end
theorem tct_take {f : Nat → Nat → Int → Int} {k0 j : Nat} {c : List Pt} {p : Pt} (h : c[j]? = some p) : (tct f k0 c).take (j + 1) = (tct f k0 c).take j ++ [tpt f (k0 + j) p] := by
  rw [List.take_add_one, tct_at, h]
  rfl
theorem tan_take {f : Nat → Nat → Int → Int} {k0 j : Nat} {c : List Ac} {p : Ac} (h : c[j]? = some p) : (tan f k0 c).take (j + 1) = (tan f k0 c).take j ++ [tac f (k0 + j) p] := by
  rw [List.take_add_one, tan_at, h]
  rfl
theorem tcs_take {f : Nat → Nat → Int → Int} {k0 i : Nat} {C : List (List Pt)} {c : List Pt} (h : C[i]? = some c) : (tcs f k0 C).take (i + 1) = (tcs f k0 C).take i ++ [tct f (k0 + OL.pts (C.take i)) c] := by
  rw [List.take_add_one, tcs_at f C k0 i c h]
  rfl
end Go.Proofs.Ytanppbdlcinpfaa
end
