/- The block of a memory; counting. No conditions. -/
import Derived.Test.YtmnajongifdajaaMem5
import Derived.WalkSpells
namespace Go.Proofs.Ytmnajongifdajaa
set_option maxRecDepth 100000
set_option linter.unusedVariables false
open Go.RowKit
/-- All blocks outside S are kept. -/
structure FrS (S : Nat → Prop) (W W' : World) : Prop where
  size : W.heap.size ≤ W'.heap.size
  block : ∀ b, b < W.heap.size → ¬ S b → W'.heap[b]? = W.heap[b]?
  below : ∀ U : World, Below U.heap.size U W → (∀ b, S b → U.heap.size ≤ b) → Below U.heap.size U W'
theorem FrS.refl (S : Nat → Prop) (W : World) : FrS S W W := ⟨Nat.le_refl _, fun _ _ _ => rfl, fun _ h _ => h⟩
theorem FrS.trans {S : Nat → Prop} {A B C : World} (h : FrS S A B) (k : FrS S B C) : FrS S A C :=
  ⟨Nat.le_trans h.size k.size, fun b h1 h2 => (k.block b (Nat.lt_of_lt_of_le h1 h.size) h2).trans (h.block b h1 h2), fun U h1 h2 => k.below U (h.below U h1 h2) h2⟩
theorem FrS.mono {S T : Nat → Prop} {A B : World} (h : FrS S A B) (hst : ∀ b, S b → T b) : FrS T A B :=
  ⟨h.size, fun b h1 h2 => h.block b h1 (fun x => h2 (hst b x)), fun U h1 h2 => h.below U h1 (fun b hb => h2 b (hst b hb))⟩
theorem FrS.set {S : Nat → Prop} (W : World) {b i : Nat} (hb : S b) (u : Value) : FrS S W (W.setCell ⟨b, i, none⟩ u) :=
  ⟨Nat.le_of_eq (by simp), fun c _ h2 => Below.heap_setCell W ⟨b, i, none⟩ u c (fun e => h2 (by rw [e]; exact hb)), fun U h h2 => bset h (p := ⟨b, i, none⟩) (h2 b hb) u⟩
theorem FrS.alloc {S : Nat → Prop} (W : World) (o : Obj) : FrS S W (W.alloc o) :=
  ⟨by simp, fun c h1 _ => Below.block (balloc (Below.refl _ W) o) c h1, fun U h h2 => balloc h o⟩
theorem FrS.drew {S : Nat → Prop} (W : World) : FrS S W W.drew := ⟨Nat.le_refl _, fun _ _ _ => rfl, fun _ h _ => Below.drew h⟩
theorem Nd.kept {S : Nat → Prop} {W W' : World} {b : Nat} {e : En} {p q : Value} (h : Nd W b e p q) (hf : FrS S W W') (hb : ¬ S b) : Nd W' b e p q := (hf.block b h.lt hb).trans h
/-- The five fields of a memory. -/
def Mm (W : World) (M : Nat) (bu us pn : Int) (mp : Value) (root : Nat) : Prop := W.heap[M]? = some (.cells #[.int .i64 bu, .int .i64 us, .int .i64 pn, mp, ptr root] 65 (0, 0))
theorem Mm.lt {W : World} {M : Nat} {bu us pn : Int} {mp : Value} {root : Nat} (h : Mm W M bu us pn mp root) : M < W.heap.size := (Array.getElem?_eq_some_iff.1 h).1
theorem Mm.cells {W : World} {M : Nat} {bu us pn : Int} {mp : Value} {root : Nat} (h : Mm W M bu us pn mp root) : W.cell? ⟨M, 0, none⟩ = some (.int .i64 bu) ∧ W.cell? ⟨M, 1, none⟩ = some (.int .i64 us) ∧ W.cell? ⟨M, 2, none⟩ = some (.int .i64 pn) ∧ W.cell? ⟨M, 3, none⟩ = some mp ∧ W.cell? ⟨M, 4, none⟩ = some (ptr root) :=
  ⟨nd_cell h rfl, nd_cell h rfl, nd_cell h rfl, nd_cell h rfl, nd_cell h rfl⟩
theorem Mm.frozen {W : World} {M : Nat} {bu us pn : Int} {mp : Value} {root : Nat} (h : Mm W M bu us pn mp root) (i : Nat) : W.frozen? ⟨M, i, none⟩ = false := by
  unfold Mm at h
  simp [World.frozen?, h]
theorem Mm.set1 {W : World} {M : Nat} {bu us pn : Int} {mp : Value} {root : Nat} (h : Mm W M bu us pn mp root) (z : Int) : Mm (W.setCell ⟨M, 1, none⟩ (.int .i64 z)) M bu z pn mp root := heap_setCell_same W M 1 _ _ _ h
theorem Mm.set2 {W : World} {M : Nat} {bu us pn : Int} {mp : Value} {root : Nat} (h : Mm W M bu us pn mp root) (z : Int) : Mm (W.setCell ⟨M, 2, none⟩ (.int .i64 z)) M bu us z mp root := heap_setCell_same W M 2 _ _ _ h
theorem Mm.kept {S : Nat → Prop} {W W' : World} {M : Nat} {bu us pn : Int} {mp : Value} {root : Nat} (h : Mm W M bu us pn mp root) (hf : FrS S W W') (hb : ¬ S M) : Mm W' M bu us pn mp root := (hf.block M h.lt hb).trans h
set_option maxHeartbeats 1000000 in
theorem iszero_nil (W : World) : Calls Try.prog 32 #[.pointer none] W fun x w' => x = .returned (.bool true) ∧ w' = W := by
  go_enter Try.func32, Try.ntmps32
  go_wp2
  go_ret
  exact ⟨rfl, rfl⟩
theorem eqlmap_nil (m : Option Nat) (w : World) : (binOp .eql 62 (.map m) (.map none)).run Try.prog w = .ok (.bool m.isNone) w := run_eql_map_nil w 62 34 63 m Try.underlying62
attribute [local go_sem] eqlmap_nil
set_option maxHeartbeats 1000000 in
theorem iszero_some (W : World) (M : Nat) (bu us pn : Int) (m : Nat) (root : Nat) (h : Mm W M bu us pn (.map (some m)) root) : Calls Try.prog 32 #[ptr M] W fun x w' => x = .returned (.bool false) ∧ w' = W := by
  obtain ⟨c0, c1, c2, c3, c4⟩ := h.cells
  go_enter Try.func32, Try.ntmps32
  go_wp2
  go_ret
  exact ⟨rfl, rfl⟩
end Go.Proofs.Ytmnajongifdajaa
