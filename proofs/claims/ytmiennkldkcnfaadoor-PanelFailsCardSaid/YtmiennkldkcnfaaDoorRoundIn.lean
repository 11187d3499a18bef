/- A region that only reads, within a round of a range over a function. No conditions. -/
import Derived.Test.YtmiennkldkcnfaaDoorLastIn
import Derived.Deep.Quiet
import Derived.Deep.QuietTactic
namespace Go.Proofs.YtmiennkldkcnfaaDoor
set_option linter.unusedVariables false
open Go.RowKit Go.Deep
theorem wpIn_quiet_round {P : Program} {Q : Exit → Act → World → Prop} {lp n id : Nat} {l : List Oper} {a : Act} {w : World} (hm : P.follows .mixedOrders = true) (hB : Region.lexB .any l.toArray = true) (hnd : (l.toArray.all fun x => match x.op with | .defer _ => false | _ => true) = true)
    (h : wpQuiet P l.toArray (fun w' => ∃ k, w' = w.drewN k) (fun a' => ∀ w', (∃ k, w' = w.drewN k) → Q .normal a' w') l a) : (Code.region id l.toArray true).wpIn (Fence.wide.inRound lp) n P Q a w := by
  simp only [Region.lexB, Bool.and_eq_true] at hB
  refine wpIn_region_any hm (any_in (fun i x hx c hc => ?_) (fun _ _ h => h) _ _ _ _ (wpAny_of_quiet (C := fun w' => ∃ k, w' = w.drewN k) (Q := fun a' => ∀ w', (∃ k, w' = w.drewN k) → Q .normal a' w') (fun a' w' hw' h => (show onlyN (Q .normal) .normal a' w' from h w' hw')) _ _ _ _ ⟨1, rfl⟩ ?_))
  · have := (Array.all_eq_true_iff_forall_mem.1 hnd) x (Array.mem_of_getElem? hx)
    rw [hc] at this
    cases this
  · have := wpAnyQ_lex (P := P) (C := fun w' => ∃ k, w' = w.drewN k) (Q := fun a' => ∀ w', (∃ k, w' = w.drewN k) → Q .normal a' w') (md := .any) hB.1 l 0 (Array.replicate l.toArray.size false) a (by simp) (by simpa using hB.2) h
    simpa using this
end Go.Proofs.YtmiennkldkcnfaaDoor
