/- Two rows of changes in an array. No conditions. -/
import Derived.Test.YtbhkbjnmpaebdaaAx37
namespace Go.Proofs.Ytbhkbjnmpaebdaa
set_option maxRecDepth 100000
set_option linter.unusedVariables false
open Go.RowKit Go.Deep
/-- An array of two rows of our own, each in a block of its own. -/
structure AdS (W0 W : World) (BB : Nat) (v0 v1 : Value) (A B : List AX.Pr) : Prop where
  box : W.heap[BB]? = some (.cells #[v0, v1] 77 (0, 0))
  own0 : W.ownsRow (BB + 1) 60 2 v0 A.length (AX.prc A)
  own1 : W.ownsRow (BB + 1) 60 2 v1 B.length (AX.prc B)
  off : ∀ q, v0.ownBlock = some q → v1.ownBlock ≠ some q
  bel : Below W0.heap.size W0 W
  le : W0.heap.size ≤ BB
theorem AdS.lt {W0 W : World} {BB : Nat} {v0 v1 : Value} {A B : List AX.Pr} (s : AdS W0 W BB v0 v1 A B) : BB < W.heap.size := (Array.getElem?_eq_some_iff.1 s.box).1
theorem AdS.keep {W0 W W' : World} {BB : Nat} {v0 v1 : Value} {A B : List AX.Pr} (s : AdS W0 W BB v0 v1 A B) (hb : Below W.heap.size W W') : AdS W0 W' BB v0 v1 A B :=
  ⟨(hb.block BB s.lt).trans s.box, own_below s.own0 hb, own_below s.own1 hb, s.off, bnext s.bel hb, s.le⟩
theorem AdS.drew {W0 W : World} {BB : Nat} {v0 v1 : Value} {A B : List AX.Pr} (s : AdS W0 W BB v0 v1 A B) : AdS W0 W.drew BB v0 v1 A B := ⟨s.box, s.own0, s.own1, s.off, s.bel.drew, s.le⟩
theorem AdS.cell0 {W0 W : World} {BB : Nat} {v0 v1 : Value} {A B : List AX.Pr} (s : AdS W0 W BB v0 v1 A B) : W.cell? ⟨BB, 0, none⟩ = some v0 := cell_of s.box rfl
theorem AdS.cell1 {W0 W : World} {BB : Nat} {v0 v1 : Value} {A B : List AX.Pr} (s : AdS W0 W BB v0 v1 A B) : W.cell? ⟨BB, 1, none⟩ = some v1 := cell_of s.box rfl
theorem AdS.frozen {W0 W : World} {BB : Nat} {v0 v1 : Value} {A B : List AX.Pr} (s : AdS W0 W BB v0 v1 A B) (j : Nat) : W.frozen? ⟨BB, j, none⟩ = false := frozen_of s.box j
theorem AdS.push0 {W0 W W' : World} {BB : Nat} {v0 v1 v' : Value} {A B : List AX.Pr} {g : AX.Pr} (s : AdS W0 W BB v0 v1 A B) (hg : W.grownBy W' v0.ownBlock) (hown : W'.ownsRow (BB + 1) 60 2 v' (A.length + 1) (AX.prc A ++ AX.prv g)) (hat : v'.ownBlock = v0.ownBlock ∨ v'.ownBlock = some W.heap.size) :
    W'.heap[BB]? = some (.cells #[v0, v1] 77 (0, 0)) ∧ AdS W0 (W'.setCell ⟨BB, 0, none⟩ v') BB v' v1 (A ++ [g]) B := by
  have hx := (hg.block BB s.lt (fun e => by have := (s.own0.lt BB e.symm).1; omega)).trans s.box
  have h1 : W'.ownsRow (BB + 1) 60 2 v1 B.length (AX.prc B) := own_of_grown s.own1 hg (fun q hq e => s.off q e hq)
  refine ⟨hx, heap_setCell_same W' BB 0 _ _ v' hx, ?_, own_of_grown h1 (set_kept W' BB 0 v') (fun q hq e => by have := (h1.lt q hq).1; have := Option.some.inj e; omega), fun q hq e => ?_, bset (s.bel.grown hg s.bel.size (fun q e => by have := (s.own0.lt q e).1; have := s.le; omega)) s.le v', s.le⟩
  · rw [List.length_append, show AX.prc (A ++ [g]) = AX.prc A ++ AX.prv g by rw [AX.prc_app]; unfold AX.prc; simp]
    exact own_of_grown hown (set_kept W' BB 0 v') (fun q hq e => by have := (hown.lt q hq).1; have := Option.some.inj e; omega)
  · rcases hat with h | h
    · exact s.off q (h.symm.trans hq) e
    · have h2 := (s.own1.lt q e).2
      have h3 := Option.some.inj (h.symm.trans hq)
      omega
theorem AdS.push1 {W0 W W' : World} {BB : Nat} {v0 v1 v' : Value} {A B : List AX.Pr} {g : AX.Pr} (s : AdS W0 W BB v0 v1 A B) (hg : W.grownBy W' v1.ownBlock) (hown : W'.ownsRow (BB + 1) 60 2 v' (B.length + 1) (AX.prc B ++ AX.prv g)) (hat : v'.ownBlock = v1.ownBlock ∨ v'.ownBlock = some W.heap.size) :
    W'.heap[BB]? = some (.cells #[v0, v1] 77 (0, 0)) ∧ AdS W0 (W'.setCell ⟨BB, 1, none⟩ v') BB v0 v' A (B ++ [g]) := by
  have hx := (hg.block BB s.lt (fun e => by have := (s.own1.lt BB e.symm).1; omega)).trans s.box
  have h1 : W'.ownsRow (BB + 1) 60 2 v0 A.length (AX.prc A) := own_of_grown s.own0 hg (fun q hq e => s.off q hq e)
  refine ⟨hx, heap_setCell_same W' BB 1 _ _ v' hx, own_of_grown h1 (set_kept W' BB 1 v') (fun q hq e => by have := (h1.lt q hq).1; have := Option.some.inj e; omega), ?_, fun q hq e => ?_, bset (s.bel.grown hg s.bel.size (fun q e => by have := (s.own1.lt q e).1; have := s.le; omega)) s.le v', s.le⟩
  · rw [List.length_append, show AX.prc (B ++ [g]) = AX.prc B ++ AX.prv g by rw [AX.prc_app]; unfold AX.prc; simp]
    exact own_of_grown hown (set_kept W' BB 1 v') (fun q hq e => by have := (hown.lt q hq).1; have := Option.some.inj e; omega)
  · rcases hat with h | h
    · exact s.off q hq (h.symm.trans e)
    · have h2 := (s.own0.lt q hq).2
      have h3 := Option.some.inj (h.symm.trans e)
      omega
theorem bd_i16 {a : Int} (h : (Lit.int .i16 a).wf = true) : -32768 ≤ a ∧ a ≤ 32767 := by
  have hmin : IntKind.i16.min = -32768 := rfl
  have hmax : IntKind.i16.max = 32767 := rfl
  simp only [Lit.wf, Bool.and_eq_true, decide_eq_true_eq] at h; omega
end Go.Proofs.Ytbhkbjnmpaebdaa
