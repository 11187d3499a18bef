/- A ring of entries in the heap: its nodes. No conditions. -/
import Derived.Test.YtmnajongifdajaaApp
import Derived.Deep.CutBlock
import Derived.Deep.CutRange
namespace Go.Proofs.Ytmnajongifdajaa
set_option maxRecDepth 100000
set_option linter.unusedVariables false
open Go.RowKit
/-- What is kept of a key. -/
structure En where
  f : Int
  k : Int
  n : Int
  r : Int
  size : Int
  pin : Bool
/-- A node: an entry, what stands before it and behind it. -/
def Nd (W : World) (b : Nat) (e : En) (p q : Value) : Prop := W.heap[b]? = some (.cells #[.int .i64 e.f, .int .i64 e.k, .int .i64 e.n, .int .i64 e.r, .int .i64 e.size, .bool e.pin, p, q] 78 (0, 0))
abbrev ptr (b : Nat) : Value := .pointer (some ⟨b, 0, none⟩)
theorem Nd.lt {W : World} {b : Nat} {e : En} {p q : Value} (h : Nd W b e p q) : b < W.heap.size := (Array.getElem?_eq_some_iff.1 h).1
theorem nd_cell {W : World} {b i : Nat} {cs : Array Value} {t : TypeId} {fr : Nat × Nat} {u : Value} (h : W.heap[b]? = some (.cells cs t fr)) (hu : cs[i]? = some u) : W.cell? ⟨b, i, none⟩ = some u := by simp [World.cell?, h, hu]
theorem Nd.before {W : World} {b : Nat} {e : En} {p q : Value} (h : Nd W b e p q) : W.cell? ⟨b, 6, none⟩ = some p := nd_cell h rfl
theorem Nd.after {W : World} {b : Nat} {e : En} {p q : Value} (h : Nd W b e p q) : W.cell? ⟨b, 7, none⟩ = some q := nd_cell h rfl
theorem Nd.cells {W : World} {b : Nat} {e : En} {p q : Value} (h : Nd W b e p q) : W.cell? ⟨b, 0, none⟩ = some (.int .i64 e.f) ∧ W.cell? ⟨b, 1, none⟩ = some (.int .i64 e.k) ∧ W.cell? ⟨b, 2, none⟩ = some (.int .i64 e.n) ∧ W.cell? ⟨b, 3, none⟩ = some (.int .i64 e.r) ∧ W.cell? ⟨b, 4, none⟩ = some (.int .i64 e.size) ∧ W.cell? ⟨b, 5, none⟩ = some (.bool e.pin) :=
  ⟨nd_cell h rfl, nd_cell h rfl, nd_cell h rfl, nd_cell h rfl, nd_cell h rfl, nd_cell h rfl⟩
theorem Nd.frozen {W : World} {b : Nat} {e : En} {p q : Value} (h : Nd W b e p q) (i : Nat) : W.frozen? ⟨b, i, none⟩ = false := by
  unfold Nd at h
  simp [World.frozen?, h]
theorem Nd.set6 {W : World} {b : Nat} {e : En} {p q : Value} (h : Nd W b e p q) (u : Value) : Nd (W.setCell ⟨b, 6, none⟩ u) b e u q := heap_setCell_same W b 6 _ _ u h
theorem Nd.set7 {W : World} {b : Nat} {e : En} {p q : Value} (h : Nd W b e p q) (u : Value) : Nd (W.setCell ⟨b, 7, none⟩ u) b e p u := heap_setCell_same W b 7 _ _ u h
theorem Nd.other {W : World} {b c i : Nat} {e : En} {p q : Value} (h : Nd W b e p q) (hbc : b ≠ c) (u : Value) : Nd (W.setCell ⟨c, i, none⟩ u) b e p q := (Below.heap_setCell W ⟨c, i, none⟩ u b hbc).trans h
/-- The world behind 'add'. -/
def addW (W : World) (root e p0 : Nat) : World := (((W.setCell ⟨e, 6, none⟩ (ptr p0)).setCell ⟨e, 7, none⟩ (ptr root)).setCell ⟨p0, 7, none⟩ (ptr e)).setCell ⟨root, 6, none⟩ (ptr e)
set_option maxHeartbeats 1000000 in
theorem newring_any (w : World) :
    Calls Try.prog 26 #[] w fun e w' => e = .returned (ptr w.heap.size) ∧ Nd w' w.heap.size ⟨0, 0, 0, 0, 0, false⟩ (ptr w.heap.size) (ptr w.heap.size) ∧ Below w.heap.size w w' := by
  go_enter Try.func26, Try.ntmps26
  go_wp2
  go_ret
  exact ⟨rfl, heap_alloc_new w _, balloc (Below.refl _ _) _⟩
set_option maxHeartbeats 1000000 in
theorem add_any (W : World) (root e p0 : Nat) (er ee ep : En) (qr pe qe pp qp : Value) (hr : Nd W root er (ptr p0) qr) (he : Nd W e ee pe qe) (hp : Nd W p0 ep pp qp) (h1 : e ≠ root) (h2 : e ≠ p0) :
    Calls Try.prog 29 #[ptr root, ptr e] W fun x w' => x = .returned (.tuple #[]) ∧ w' = addW W root e p0 := by
  have c1 := hr.before
  have c2 := he.before
  have c3 := he.after
  have f1 := he.frozen 6
  have f2 := he.frozen 7
  go_enter Try.func29, Try.ntmps29
  go_upto_region 1 with fail
  obtain ⟨W1, hW1⟩ : ∃ W1, (W.setCell ⟨e, 6, none⟩ (ptr p0)).setCell ⟨e, 7, none⟩ (ptr root) = W1 := ⟨_, rfl⟩
  have g1 : Nd W1 e ee (ptr p0) (ptr root) := by rw [← hW1]; exact (he.set6 _).set7 _
  have g2 : Nd W1 root er (ptr p0) qr := by rw [← hW1]; exact (hr.other h1.symm _).other h1.symm _
  have g3 : Nd W1 p0 ep pp qp := by rw [← hW1]; exact (hp.other h2.symm _).other h2.symm _
  have HW := Lib.hid hW1
  try rw [hW1]
  clear hW1 c1 c2 c3 f1 f2
  have c1 := g1.before
  have c2 := g2.before
  have c3 := g3.after
  have f1 := g3.frozen 7
  have f2 := g2.frozen 6
  go_wp2
  go_end0
  exact ⟨rfl, by unfold addW; rw [HW.out]⟩
end Go.Proofs.Ytmnajongifdajaa
