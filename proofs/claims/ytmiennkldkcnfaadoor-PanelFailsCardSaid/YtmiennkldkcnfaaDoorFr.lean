/- Blocks that are kept: all but those of a set. No conditions. -/
import Derived.Test.YtmiennkldkcnfaaDoorAppN
import Derived.Test.YtmiennkldkcnfaaDoorLast
import Derived.Deep.Cut
import Derived.Deep.CutBlock
namespace Go.Proofs.YtmiennkldkcnfaaDoor
set_option maxRecDepth 100000
set_option linter.unusedVariables false
open Go.RowKit Go.Deep
/-- All blocks outside S are kept. -/
structure FrS (S : Nat → Prop) (W W' : World) : Prop where
  size : W.heap.size ≤ W'.heap.size
  block : ∀ b, b < W.heap.size → ¬ S b → W'.heap[b]? = W.heap[b]?
  below : ∀ U : World, Below U.heap.size U W → (∀ b, S b → U.heap.size ≤ b) → Below U.heap.size U W'
theorem FrS.refl (S : Nat → Prop) (W : World) : FrS S W W := ⟨Nat.le_refl _, fun _ _ _ => rfl, fun _ h _ => h⟩
theorem FrS.trans {S : Nat → Prop} {A B C : World} (h : FrS S A B) (k : FrS S B C) : FrS S A C :=
  ⟨Nat.le_trans h.size k.size, fun b h1 h2 => (k.block b (Nat.lt_of_lt_of_le h1 h.size) h2).trans (h.block b h1 h2), fun U h1 h2 => k.below U (h.below U h1 h2) h2⟩
theorem FrS.mono {S T : Nat → Prop} {A B : World} (h : FrS S A B) (hst : ∀ b, S b → T b) : FrS T A B :=
  ⟨h.size, fun b h1 h2 => h.block b h1 (fun x => h2 (hst b x)), fun U h1 h2 => h.below U h1 (fun b hb => h2 b (hst b hb))⟩
theorem FrS.set {S : Nat → Prop} (W : World) {b i : Nat} (hb : S b) (u : Value) : FrS S W (W.setCell ⟨b, i, none⟩ u) :=
  ⟨Nat.le_of_eq (by simp), fun c _ h2 => Below.heap_setCell W ⟨b, i, none⟩ u c (fun e => h2 (by rw [e]; exact hb)), fun U h h2 => bset h (p := ⟨b, i, none⟩) (h2 b hb) u⟩
theorem FrS.of {S : Nat → Prop} {A B : World} (h : Below A.heap.size A B) : FrS S A B := ⟨h.size, fun b h1 _ => h.block b h1, fun U h1 _ => bnext h1 h⟩
theorem FrS.over {S T : Nat → Prop} {A B C : World} (h : FrS S A B) (k : FrS T B C) (hT : ∀ b, T b → S b ∨ A.heap.size ≤ b) : FrS S A C :=
  ⟨Nat.le_trans h.size k.size, fun b h1 h2 => (k.block b (Nat.lt_of_lt_of_le h1 h.size) (fun x => by rcases hT b x with z | z; exact h2 z; omega)).trans (h.block b h1 h2), fun U h1 h2 => k.below U (h.below U h1 h2) (fun b hb => (hT b hb).elim (h2 b) (fun z => Nat.le_trans h1.size z))⟩
theorem FrS.then {S : Nat → Prop} {A B C : World} (h : FrS S A B) (k : Below B.heap.size B C) : FrS S A C := h.over (FrS.of (S := fun _ => False) k) (fun _ x => x.elim)
theorem FrS.grown {S : Nat → Prop} {W W' : World} {row : Option Nat} (hg : W.grownBy W' row) (h : ∀ r, row = some r → S r) : FrS S W W' :=
  ⟨hg.size, fun b h1 h2 => hg.block b h1 (fun e => h2 (h b e.symm)), fun U h1 h2 => h1.grown hg h1.size (fun r e => h2 r (h r e))⟩
theorem FrS.own {S : Nat → Prop} {A B : World} {N e k n : Nat} {v : Value} {U : List Value} (h : FrS S A B) (ho : A.ownsRow N e k v n U) (hv : ∀ q, v.ownBlock = some q → ¬ S q) : B.ownsRow N e k v n U := by
  refine ⟨ho.1, ?_⟩
  rcases ho.2 with h1 | ⟨g, cap, cur, rfl, hb, hg, rest⟩
  · exact .inl h1
  · refine .inr ⟨g, cap, cur, rfl, hb, ?_, rest⟩
    rw [h.block g (Array.getElem?_eq_some_iff.1 hg).1 (hv g rfl)]
    exact hg
theorem FrS.nd {S : Nat → Prop} {A B : World} {b : Nat} {o : Obj} (hf : FrS S A B) (h : A.heap[b]? = some o) (hn : ¬ S b) : B.heap[b]? = some o := (hf.block b (Array.getElem?_eq_some_iff.1 h).1 hn).trans h
theorem nd_cell {W : World} {b i : Nat} {cs : Array Value} {T : TypeId} {v : Value} {fr : Nat × Nat} (h : W.heap[b]? = some (.cells cs T fr)) (hv : cs[i]? = some v) : W.cell? ⟨b, i, none⟩ = some v := by
  simp [World.cell?, h, hv]
theorem nd_froz {W : World} {b : Nat} {cs : Array Value} {T : TypeId} (h : W.heap[b]? = some (.cells cs T (0, 0))) (i : Nat) : W.frozen? ⟨b, i, none⟩ = false := by
  simp [World.frozen?, h]
abbrev ptr (b : Nat) : Value := .pointer (some ⟨b, 0, none⟩)
theorem set3 {w : World} {X : Nat} {u0 u1 u2 : Value} {T : TypeId} (h : w.heap[X]? = some (.cells #[u0, u1, u2] T (0, 0))) (a b c : Value) :
    ∃ V, ((w.setCell ⟨X, 0, none⟩ a).setCell ⟨X, 1, none⟩ b).setCell ⟨X, 2, none⟩ c = V ∧ V.heap[X]? = some (.cells #[a, b, c] T (0, 0)) ∧ FrS (fun y => y = X) w V := by
  have s := fun (V : World) (i : Nat) (u : Value) => FrS.set (S := fun b => b = X) V (b := X) (i := i) rfl u
  refine ⟨_, rfl, ?_, ((s _ _ _).trans (s _ _ _)).trans (s _ _ _)⟩
  exact heap_setCell_same _ X 2 _ T c (heap_setCell_same _ X 1 _ T b (heap_setCell_same w X 0 _ T a h))
end Go.Proofs.YtmiennkldkcnfaaDoor
