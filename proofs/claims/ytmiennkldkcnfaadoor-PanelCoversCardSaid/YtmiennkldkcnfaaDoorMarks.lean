/- A function that ranges over functions again and again leaves with many marks. No conditions. -/
import Derived.Test.YtmiennkldkcnfaaDoorApp
import Derived.RangeFuncNested
import Derived.RangeFuncBound
import Derived.RangeFuncCalls
import Derived.RangeFuncLeaves
namespace Go.Proofs.YtmiennkldkcnfaaDoor
set_option maxRecDepth 100000
set_option linter.unusedVariables false
open Go.RowKit
/-- The mark that a range over a function leaves. -/
def mark (r : Nat) : Deferred := { target := .collected r, args := #[] }
/-- The marks lie in blocks of their own, at or beyond B. -/
def Marks (B : Nat) (rs : List Nat) (w : World) : Prop := rs.Nodup ∧ ∀ r ∈ rs, B ≤ r ∧ w.heap[r]? = some (.deferred (some []))
theorem Marks.nil (B : Nat) (w : World) : Marks B [] w := ⟨List.nodup_nil, fun r h => by cases h⟩
theorem Marks.lt {B : Nat} {rs : List Nat} {w : World} (h : Marks B rs w) : ∀ r ∈ rs, r < w.heap.size := fun r hr => (Array.getElem?_eq_some_iff.1 (h.2 r hr).2).1
theorem Marks.cons {B D : Nat} {rs : List Nat} {w : World} (h : Marks B rs w) (hn : D ∉ rs) (hB : B ≤ D) (hD : w.heap[D]? = some (.deferred (some []))) : Marks B (D :: rs) w :=
  ⟨List.nodup_cons.2 ⟨hn, h.1⟩, fun r hr => by
    rcases List.mem_cons.1 hr with rfl | hr
    · exact ⟨hB, hD⟩
    · exact h.2 r hr⟩
theorem Marks.below {B : Nat} {rs : List Nat} {w w' : World} (h : Marks B rs w) (hb : Below w.heap.size w w') : Marks B rs w' :=
  ⟨h.1, fun r hr => ⟨(h.2 r hr).1, (hb.block r (h.lt r hr)).trans (h.2 r hr).2⟩⟩
/-- A turn of cells, or of what lies at or beyond C, which all marks lie below. -/
theorem Marks.grown {B : Nat} {rs : List Nat} {w w' : World} {row : Option Nat} (h : Marks B rs w) (hg : w.grownBy w' row) (hr : ∀ r, row = some r → r ∉ rs) : Marks B rs w' :=
  ⟨h.1, fun r hm => ⟨(h.2 r hm).1, (hg.block r (h.lt r hm) (fun e => hr r e.symm hm)).trans (h.2 r hm).2⟩⟩
theorem Marks.cells {B : Nat} {rs : List Nat} {w : World} (h : Marks B rs w) {b : Nat} {cs : Array Value} {t : TypeId} {fr : Nat × Nat} (hb : w.heap[b]? = some (.cells cs t fr)) : b ∉ rs := fun hm => by
  have := (h.2 b hm).2
  rw [hb] at this
  cases this
theorem leaves_marks {F : Fence} {n : Nat} {P : Program} {fn : Func} {tmps : Array Value} {R : Ending → World → Prop} {B : Nat} : ∀ (rs : List Nat) (w : World), Marks B rs w → B ≤ w.heap.size →
    (∀ w', Below B w w' → (∀ (b : Nat) (cs : Array Value) (t : TypeId) (fr : Nat × Nat), w.heap[b]? = some (Obj.cells cs t fr) → w'.heap[b]? = some (Obj.cells cs t fr)) → LeavesIn F n P fn tmps R [] .returning w') → LeavesInM F n P fn tmps R (rs.map mark) .returning w
  | [], w, _, _, h => h w (Below.refl _ _) (fun _ _ _ _ h => h)
  | r :: rs, w, hm, hB, h => by
    have hr := hm.2 r (List.mem_cons_self ..)
    have hn := List.nodup_cons.1 hm.1
    have hb : Below B w (w.putObj r (.deferred none)) := (Below.refl B w).grown (grownBy_putObj' w r _) hB (fun k e => by cases e; exact hr.1)
    refine ⟨by simp, .inl ⟨r, _, rfl, run_takeDeferred hr.2, ?_⟩⟩
    refine leaves_marks rs _ ⟨hn.2, fun k hk => ⟨(hm.2 k (List.mem_cons_of_mem _ hk)).1, ?_⟩⟩ (by simpa using hB) (fun w' hw hc => h w' (hb.trans hw) (fun b cs t fr hbc => hc b cs t fr ((World.putObj_heap_other (fun e => ?_)).trans hbc)))
    · exact (World.putObj_heap_other (fun e => hn.1 (by rw [← e]; exact hk))).trans (hm.2 k (List.mem_cons_of_mem _ hk)).2
    · subst e
      have := hr.2
      rw [hbc] at this
      cases this
end Go.Proofs.YtmiennkldkcnfaaDoor
