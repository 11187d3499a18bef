/- Rings: what 'add' and 'remove' make of one. No conditions. -/
import Derived.Test.YtmnajongifdajaaMem2
namespace Go.Proofs.Ytmnajongifdajaa
set_option linter.unusedVariables false
open Go.RowKit
def hd : List (Nat × En) → Nat → Nat
  | [], c => c
  | x :: _, _ => x.1
def lst : Nat → List (Nat × En) → Nat
  | a, [] => a
  | _, x :: L => lst x.1 L
/-- The nodes of L, between a and c. -/
def Sg (W : World) : Nat → List (Nat × En) → Nat → Prop
  | _, [], _ => True
  | a, x :: L, c => Nd W x.1 x.2 (ptr a) (ptr (hd L c)) ∧ Sg W x.1 L c
def zE : En := ⟨0, 0, 0, 0, 0, false⟩
/-- A ring with a root, the oldest element first. -/
def Rg (W : World) (root : Nat) (L : List (Nat × En)) : Prop := (root :: L.map Prod.fst).Nodup ∧ Nd W root zE (ptr (lst root L)) (ptr (hd L root)) ∧ Sg W root L root
theorem Rg.new {W : World} {b : Nat} (h : Nd W b zE (ptr b) (ptr b)) : Rg W b [] := ⟨by simp, h, trivial⟩
theorem lst_mem : ∀ (a : Nat) (L : List (Nat × En)), lst a L = a ∨ lst a L ∈ L.map Prod.fst
  | a, [] => .inl rfl
  | a, x :: L => by
    right
    show lst x.1 L ∈ x.1 :: L.map Prod.fst
    rcases lst_mem x.1 L with h | h
    · rw [h]; exact List.mem_cons_self
    · exact List.mem_cons_of_mem _ h
theorem hd_mem (L : List (Nat × En)) (c : Nat) : hd L c = c ∨ hd L c ∈ L.map Prod.fst := by
  cases L with
  | nil => exact .inl rfl
  | cons x L => exact .inr (by simp [hd])
theorem hd_app (A C : List (Nat × En)) (c : Nat) : hd (A ++ C) c = hd A (hd C c) := by cases A <;> rfl
theorem lst_app : ∀ (a : Nat) (A C : List (Nat × En)), lst a (A ++ C) = lst (lst a A) C
  | _, [], _ => rfl
  | _, x :: A, C => lst_app x.1 A C
theorem sg_app {W : World} : ∀ {a : Nat} {A C : List (Nat × En)} {c : Nat}, Sg W a (A ++ C) c ↔ Sg W a A (hd C c) ∧ Sg W (lst a A) C c
  | _, [], C, c => by simp [Sg, lst]
  | _, x :: A, C, c => by
    show (Nd W x.1 x.2 _ (ptr (hd (A ++ C) c)) ∧ Sg W x.1 (A ++ C) c) ↔ (Nd W x.1 x.2 _ (ptr (hd A (hd C c))) ∧ Sg W x.1 A (hd C c)) ∧ Sg W (lst x.1 A) C c
    rw [hd_app, sg_app (A := A), and_assoc]
/-- Nodes whose blocks are kept are kept. -/
theorem Sg.keep {W W' : World} : ∀ {a : Nat} {L : List (Nat × En)} {c : Nat}, Sg W a L c → (∀ b ∈ L.map Prod.fst, W'.heap[b]? = W.heap[b]?) → Sg W' a L c
  | _, [], _, _, _ => trivial
  | _, x :: L, _, h, hk => ⟨(hk x.1 (by simp)).trans h.1, h.2.keep fun b hb => hk b (by simp at hb ⊢; exact .inr hb)⟩
theorem Sg.lt {W : World} : ∀ {a : Nat} {L : List (Nat × En)} {c : Nat}, Sg W a L c → ∀ b ∈ L.map Prod.fst, b < W.heap.size
  | _, [], _, _, b, hb => by cases hb
  | _, x :: L, _, h, b, hb => by
    rcases List.mem_cons.1 hb with rfl | hb
    · exact h.1.lt
    · exact h.2.lt b hb
/-- The last node. -/
theorem Sg.last {W : World} {a c : Nat} {A : List (Nat × En)} {x : Nat × En} (h : Sg W a (A ++ [x]) c) : Nd W x.1 x.2 (ptr (lst a A)) (ptr c) := (sg_app.1 h).2.1
end Go.Proofs.Ytmnajongifdajaa
