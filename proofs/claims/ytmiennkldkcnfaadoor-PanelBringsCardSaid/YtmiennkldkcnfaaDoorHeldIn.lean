/- A drawn region within a round of a range over a function, under a condition that is held. No conditions. -/
import Derived.Test.YtmiennkldkcnfaaDoorLastIn
import Derived.Deep.RegionHeld
namespace Go.Proofs.YtmiennkldkcnfaaDoor
set_option linter.unusedVariables false
open Go.RowKit Go.Deep
theorem wpIn_region_held {P : Program} {Q : Exit → Act → World → Prop} {l n id : Nat} {ops : Array Oper} {a : Act} {w : World} (S : World → Prop) (hnd : (ops.all fun x => match x.op with | .defer _ => false | _ => true) = true) (hm : P.follows .mixedOrders = true) (hS : S w.drew)
    (h : S w.drew → wpAnyH P .any ops (onlyN (Q .normal)) S ops.size (Array.replicate ops.size false) a w.drew) : (Code.region id ops true).wpIn (Fence.wide.inRound l) n P Q a w := by
  refine wpIn_region_any hm (any_in (fun i x hx c hc => ?_) (fun _ _ h => h) _ _ _ _ (wpAny_of_held _ _ _ _ (h hS)))
  have := (Array.all_eq_true_iff_forall_mem.1 hnd) x (Array.mem_of_getElem? hx)
  rw [hc] at this
  cases this
end Go.Proofs.YtmiennkldkcnfaaDoor
