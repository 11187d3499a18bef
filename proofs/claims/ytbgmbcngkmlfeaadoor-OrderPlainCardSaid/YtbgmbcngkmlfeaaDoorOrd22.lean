/- Rows that grow side by side. No conditions. -/
import Derived.Test.YtbgmbcngkmlfeaaDoorOrd21
namespace Go.Proofs.YtbgmbcngkmlfeaaDoor
set_option linter.unusedVariables false
open Go.RowKit Go.Shelf Go.Deep
/-- Two rows have no block in common. -/
def Apart (u v : Value) : Prop := ∀ q, u.ownBlock = some q → v.ownBlock ≠ some q
theorem Apart.symm {u v : Value} (h : Apart u v) : Apart v u := fun q hq e => h q e hq
theorem Apart.none (v : Value) : Apart (.slice .none 0 0) v := fun q hq => by simp [Value.ownBlock] at hq
theorem app_other {wr w1 : World} {B e k n : Nat} {u v : Value} {U : List Value} {tmp : Obj} (hu : wr.ownsRow B e k u n U) (hg : (wr.alloc tmp).grownBy w1 v.ownBlock) (ha : Apart u v) : w1.ownsRow B e k u n U := by
  have h1 := hu.alloc tmp
  refine ⟨h1.1, ?_⟩
  rcases h1.2 with h2 | ⟨g, cap, cur, rfl, hb, hc, rest⟩
  · exact .inl h2
  · refine .inr ⟨g, cap, cur, rfl, hb, ?_, rest⟩
    rw [hg.block g (Array.getElem?_eq_some_iff.1 hc).1 (fun e => ha g (by simp [Value.ownBlock]) e.symm)]
    exact hc
theorem app_apart {wr : World} {B e k n : Nat} {u v v' : Value} {U : List Value} {tmp : Obj} (hu : wr.ownsRow B e k u n U) (hn : v'.ownBlock = v.ownBlock ∨ v'.ownBlock = some (wr.alloc tmp).heap.size) (ha : Apart u v) : Apart u v' := by
  intro q hq
  rcases hn with h | h
  · rw [h]; exact ha q hq
  · rw [h]
    rcases hu.2 with h2 | ⟨g, cap, cur, rfl, hb, hc, rest⟩
    · rw [h2.1] at hq
      simp [Value.ownBlock] at hq
    · have := (Array.getElem?_eq_some_iff.1 hc).1
      simp [Value.ownBlock] at hq ⊢
      omega
end Go.Proofs.YtbgmbcngkmlfeaaDoor
