/- A region that is made in a statement that draws. No conditions. -/
import Derived.Test.YtbhkbjnmpaebdaaAx31
namespace Go.Proofs.Ytbhkbjnmpaebdaa
set_option maxRecDepth 100000
set_option linter.unusedVariables false
open Go.RowKit Go.Deep
/-- Rows of tents and of numbers of our own, and perhaps an empty region's block. -/
structure RS (wb W : World) (va : Value) (n : Nat) (U : List Value) (vt : Value) (m : Nat) (T : List Value) (E : Option Nat) : Prop where
  own1 : W.ownsRow wb.heap.size 71 3 va n U
  own2 : W.ownsRow wb.heap.size 3 1 vt m T
  bel : Below wb.heap.size wb W
  box : ∀ e, E = some e → W.heap[e]? = some (.cells #[.slice none 0 0] 42 (0, 0)) ∧ va.ownBlock ≠ some e ∧ vt.ownBlock ≠ some e ∧ wb.heap.size ≤ e
theorem RS.nil (wb : World) : RS wb wb.drew (.slice none 0 0) 0 [] (.slice none 0 0) 0 [] none :=
  ⟨⟨rfl, .inl ⟨rfl, rfl⟩⟩, ⟨rfl, .inl ⟨rfl, rfl⟩⟩, Below.drew (Below.refl _ _), fun e h => by simp at h⟩
theorem RS.elt {wb W : World} {va vt : Value} {n m : Nat} {U T : List Value} {e : Nat} (h : RS wb W va n U vt m T (some e)) : e < W.heap.size := (Array.getElem?_eq_some_iff.1 (h.box e rfl).1).1
theorem RS.reg {wb W W' : World} {va vt va' : Value} {n m n' : Nat} {U T U' : List Value} {E : Option Nat} (h : RS wb W va n U vt m T E) (hb : Below W.heap.size W W') (ho : W'.ownsRow W.heap.size 71 3 va' n' U') : RS wb W' va' n' U' vt m T E := by
  refine ⟨own_base ho h.bel.size, own_below h.own2 hb, bnext h.bel hb, fun e he => ?_⟩
  obtain ⟨h1, h2, h3, h4⟩ := h.box e he
  have hlt := (Array.getElem?_eq_some_iff.1 h1).1
  exact ⟨(hb.block e hlt).trans h1, fun e' => by have := (ho.lt e e').1; omega, h3, h4⟩
theorem RS.ints {wb W W' : World} {va vt vt' : Value} {n m m' : Nat} {U T T' : List Value} {E : Option Nat} (h : RS wb W va n U vt m T E) (hb : Below W.heap.size W W') (ho : W'.ownsRow W.heap.size 3 1 vt' m' T') : RS wb W' va n U vt' m' T' E := by
  refine ⟨own_below h.own1 hb, own_base ho h.bel.size, bnext h.bel hb, fun e he => ?_⟩
  obtain ⟨h1, h2, h3, h4⟩ := h.box e he
  have hlt := (Array.getElem?_eq_some_iff.1 h1).1
  exact ⟨(hb.block e hlt).trans h1, h2, fun e' => by have := (ho.lt e e').1; omega, h4⟩
theorem RS.bx {wb W : World} {va vt : Value} {n m b : Nat} {U T : List Value} (h : RS wb W va n U vt m T none) (hb : W.heap.size = b) : RS wb (W.alloc (.cells #[.slice none 0 0] 42)) va n U vt m T (some b) := by
  subst hb
  refine ⟨own_below h.own1 (balloc (Below.refl _ _) _), own_below h.own2 (balloc (Below.refl _ _) _), balloc h.bel _, fun e he => ?_⟩
  have he' := Option.some.inj he
  subst he'
  exact ⟨heap_alloc_new W _, fun e => by have := (h.own1.lt _ e).2; omega, fun e => by have := (h.own2.lt _ e).2; omega, h.bel.size⟩
theorem RS.lit {wb W : World} {va vt : Value} {n m b : Nat} {U T : List Value} {E : Option Nat} (h : RS wb W va n U vt m T E) (hb : W.heap.size = b) : RS wb (W.alloc (.cells #[] 71)) (.slice (some ⟨b, 0, none⟩) 0 0) 0 [] vt m T E := by
  subst hb
  refine ⟨own_empty W _ 3 _ h.bel.size, own_below h.own2 (balloc (Below.refl _ _) _), balloc h.bel _, fun e he => ?_⟩
  obtain ⟨h1, h2, h3, h4⟩ := h.box e he
  have hlt := (Array.getElem?_eq_some_iff.1 h1).1
  exact ⟨(Below.block (balloc (Below.refl _ W) _) e hlt).trans h1, fun e' => by have : W.heap.size = e := Option.some.inj e'; omega, h3, h4⟩
theorem RS.app {wb W W' : World} {va va' : Value} {n n' : Nat} {U U' : List Value} {E : Option Nat} (h : RS wb W va n U (.slice none 0 0) 0 [] E) (hg : W.grownBy W' va.ownBlock) (ho : W'.ownsRow wb.heap.size 71 3 va' n' U') (hat : va'.ownBlock = va.ownBlock ∨ va'.ownBlock = some W.heap.size) : RS wb W' va' n' U' (.slice none 0 0) 0 [] E := by
  refine ⟨ho, ⟨rfl, .inl ⟨rfl, rfl⟩⟩, h.bel.grown hg h.bel.size (fun j e => (h.own1.lt j e).1), fun e he => ?_⟩
  obtain ⟨h1, h2, h3, h4⟩ := h.box e he
  have hlt := (Array.getElem?_eq_some_iff.1 h1).1
  refine ⟨(hg.block e hlt (fun e' => h2 e'.symm)).trans h1, fun e' => ?_, h3, h4⟩
  rcases hat with h5 | h5
  · exact h2 (h5.symm.trans e')
  · have := Option.some.inj (h5.symm.trans e')
    omega
theorem RS.cell {wb W : World} {va vt : Value} {n m e : Nat} {U T : List Value} (h : RS wb W va n U vt m T (some e)) : W.cell? ⟨e, 0, none⟩ = some (.slice none 0 0) := cell_of (h.box e rfl).1 rfl
theorem RS.frozen {wb W : World} {va vt : Value} {n m e : Nat} {U T : List Value} (h : RS wb W va n U vt m T (some e)) : W.frozen? ⟨e, 0, none⟩ = false := frozen_of (h.box e rfl).1 0
theorem RS.fin {wb W : World} {va vt : Value} {n m e : Nat} {U T : List Value} (h : RS wb W va n U vt m T (some e)) (u : Value) : (W.setCell ⟨e, 0, none⟩ u).heap[e]? = some (.cells #[u] 42 (0, 0)) ∧ SrcN 3 (W.setCell ⟨e, 0, none⟩ u) va n U ∧ (W.setCell ⟨e, 0, none⟩ u).ownsRow wb.heap.size 3 1 vt m T ∧ Below wb.heap.size wb (W.setCell ⟨e, 0, none⟩ u) := by
  obtain ⟨h1, h2, h3, h4⟩ := h.box e rfl
  exact ⟨heap_setCell_same W e 0 _ _ u h1, own_srcN (own_of_grown h.own1 (set_kept W e 0 u) (fun q hq e' => h2 (by rw [hq]; exact e'.symm))), own_of_grown h.own2 (set_kept W e 0 u) (fun q hq e' => h3 (by rw [hq]; exact e'.symm)), bset h.bel h4 u⟩
/-- .. where its block comes last. -/
theorem RS.fin2 {wb W : World} {va vt : Value} {n m b : Nat} {U T : List Value} (h : RS wb W va n U vt m T none) (u : Value) (hb : W.heap.size = b) : (W.alloc (.cells #[u] 42)).heap[b]? = some (.cells #[u] 42 (0, 0)) ∧ SrcN 3 (W.alloc (.cells #[u] 42)) va n U ∧ (W.alloc (.cells #[u] 42)).ownsRow wb.heap.size 3 1 vt m T ∧ Below wb.heap.size wb (W.alloc (.cells #[u] 42)) := by
  subst hb
  exact ⟨heap_alloc_new W _, (own_srcN h.own1).keep (balloc (Below.refl _ _) _), own_below h.own2 (balloc (Below.refl _ _) _), balloc h.bel _⟩
end Go.Proofs.Ytbhkbjnmpaebdaa
