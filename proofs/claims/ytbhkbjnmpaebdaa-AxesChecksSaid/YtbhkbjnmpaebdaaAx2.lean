/- Two rows side by side: the iterators of the program. No conditions. -/
import Derived.Test.YtbhkbjnmpaebdaaAx1
import Derived.Test.YtbhkbjnmpaebdaaRange
import Derived.Test.YtbhkbjnmpaebdaaLater
import Derived.Shelf.RegionOpen
import Derived.Stop.RegionWithIn
import Derived.LoopIn
import Derived.Sort.CutIn
namespace Go.Proofs.Ytbhkbjnmpaebdaa
set_option maxRecDepth 100000
set_option linter.unusedVariables false
open Go.RowKit Go.Shelf Go.Deep
attribute [local go_sem] Oper.semAt_some
/-- A row of numbers. -/
def InAt (W : World) (v : Value) (l : List Int) : Prop := ∃ a c, v = .slice a l.length c ∧ (l = [] ∨ ∃ g o, a = some ⟨g, o, none⟩ ∧ g < W.heap.size ∧ ∀ i x, l[i]? = some x → W.cell? ⟨g, o + i, none⟩ = some (.int .i64 x))
theorem InAt.keep {W W' : World} {v : Value} {l : List Int} (h : InAt W v l) (hb : Below W.heap.size W W') : InAt W' v l := by
  obtain ⟨a, c, e, h⟩ := h
  refine ⟨a, c, e, ?_⟩
  rcases h with h | ⟨g, o, e2, hg, hc⟩
  · exact .inl h
  · exact .inr ⟨g, o, e2, Nat.lt_of_lt_of_le hg hb.size, fun i x hx => (hb.cell (p := ⟨g, o + i, none⟩) hg).trans (hc i x hx)⟩
theorem InAt.of {W : World} {v : Value} {l : List Int} (h : RowAt W v (l.map (Value.int .i64))) : InAt W v l := by
  obtain ⟨a, c, e, h⟩ := h.out
  refine ⟨a, c, by rw [List.length_map] at e; exact e, ?_⟩
  rcases h with h | ⟨g, o, e2, hg, hc⟩
  · exact .inl (by simpa using h)
  · refine .inr ⟨g, o, e2, hg, fun i x hx => ?_⟩
    have hi := (List.getElem?_eq_some_iff.1 hx).1
    rw [hc i (by rw [List.length_map]; exact hi)]
    simp [List.getD, hx]
theorem InAt.row {W : World} {v : Value} {l : List Int} (h : InAt W v l) : RowAt W v (l.map (Value.int .i64)) := by
  obtain ⟨a, c, e, h⟩ := h
  refine ⟨a, c, by rw [List.length_map]; exact e, ?_⟩
  rcases h with h | ⟨g, o, e2, hg, hc⟩
  · exact .inl (by rw [h]; rfl)
  · refine .inr ⟨g, o, e2, hg, fun i hi => ?_⟩
    rw [List.length_map] at hi
    rw [hc i l[i] (List.getElem?_eq_getElem hi)]
    simp [List.getD, hi]
/-- The cells of the first blocks are kept, but for one block (a second number that is not under the first: for none). -/
def KpN (N : Nat × Nat) (A B : World) : Prop := A.heap.size ≤ B.heap.size ∧ ∀ p : Addr, p.block < N.1 → p.block ≠ N.2 → B.cell? p = A.cell? p
theorem KpN.refl (N : Nat × Nat) (A : World) : KpN N A A := ⟨Nat.le_refl _, fun _ _ _ => rfl⟩
theorem KpN.trans {N : Nat × Nat} {A B C : World} (h : KpN N A B) (k : KpN N B C) : KpN N A C := ⟨Nat.le_trans h.1 k.1, fun p hp hq => (k.2 p hp hq).trans (h.2 p hp hq)⟩
theorem KpN.drew {N : Nat × Nat} {A B : World} (h : KpN N A B) : KpN N A B.drew := ⟨h.1, h.2⟩
theorem KpN.of {N : Nat × Nat} {A B : World} (h : Below A.heap.size A B) (hN : N.1 ≤ A.heap.size) : KpN N A B := ⟨h.size, fun p hp _ => h.cell (Nat.lt_of_lt_of_le hp hN)⟩
theorem kpn_put {N : Nat × Nat} {W : World} {l : Nat} {o o' : Obj} (hl : N.1 ≤ l) (h : W.heap[l]? = some o) : KpN N W (W.putObj l o') :=
  ⟨(grownBy_putObj' W l o').size, fun p hp _ => by
    have hlt := (Array.getElem?_eq_some_iff.1 h).1
    simp only [World.cell?, (grownBy_putObj' W l o').block p.block (by omega) (fun e => by have := Option.some.inj e; omega)]⟩
theorem TnAt.cells {W W' : World} {v : Value} {l : List AX.Tn} (h : TnAt W v l) (hs : W.heap.size ≤ W'.heap.size) (hb : ∀ p : Addr, p.block < W.heap.size → W'.cell? p = W.cell? p) : TnAt W' v l := by
  obtain ⟨a, cap, e, h⟩ := h
  refine ⟨a, cap, e, ?_⟩
  rcases h with h | ⟨g, o, e2, hg, hc⟩
  · exact .inl h
  · refine .inr ⟨g, o, e2, Nat.lt_of_lt_of_le hg hs, fun i z hz => ?_⟩
    have c0 := hc i z hz
    exact ⟨(hb ⟨g, o + i * 3, none⟩ hg).trans c0.1, (hb ⟨g, o + i * 3 + 1, none⟩ hg).trans c0.2.1, (hb ⟨g, o + i * 3 + 2, none⟩ hg).trans c0.2.2⟩
theorem InAt.cells {W W' : World} {v : Value} {l : List Int} (h : InAt W v l) (hs : W.heap.size ≤ W'.heap.size) (hb : ∀ p : Addr, p.block < W.heap.size → W'.cell? p = W.cell? p) : InAt W' v l := by
  obtain ⟨a, cap, e, h⟩ := h
  refine ⟨a, cap, e, ?_⟩
  rcases h with h | ⟨g, o, e2, hg, hc⟩
  · exact .inl h
  · refine .inr ⟨g, o, e2, Nat.lt_of_lt_of_le hg hs, fun i z hz => ?_⟩
    have c0 := hc i z hz
    exact (hb ⟨g, o + i, none⟩ hg).trans c0
theorem PrAt.cells {W W' : World} {v : Value} {l : List AX.Pr} (h : PrAt W v l) (hs : W.heap.size ≤ W'.heap.size) (hb : ∀ p : Addr, p.block < W.heap.size → W'.cell? p = W.cell? p) : PrAt W' v l := by
  obtain ⟨a, cap, e, h⟩ := h
  refine ⟨a, cap, e, ?_⟩
  rcases h with h | ⟨g, o, e2, hg, hc⟩
  · exact .inl h
  · refine .inr ⟨g, o, e2, Nat.lt_of_lt_of_le hg hs, fun i z hz => ?_⟩
    have c0 := hc i z hz
    exact ⟨(hb ⟨g, o + i * 2, none⟩ hg).trans c0.1, (hb ⟨g, o + i * 2 + 1, none⟩ hg).trans c0.2⟩
/-- What is known of the pair that comes. -/
def BoG {α β : Type} (A : List α) (B : List β) (pre : List (α × β)) (x : α × β) (W : World) : Prop := (A.zip B)[pre.length]? = some x
end Go.Proofs.Ytbhkbjnmpaebdaa
