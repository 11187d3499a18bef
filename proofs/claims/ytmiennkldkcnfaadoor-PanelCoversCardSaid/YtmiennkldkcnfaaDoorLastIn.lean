/- The same within a round of a range over a function. No conditions. -/
import Derived.Test.YtmiennkldkcnfaaDoorLast
import Derived.RangeFuncCalls
import Derived.OrdersIn
namespace Go.Proofs.YtmiennkldkcnfaaDoor
set_option linter.unusedVariables false
open Go.RowKit Go.Deep
/-- Nothing but the end of the operations is borne. -/
def onlyN (R : Act → World → Prop) : Exit → Act → World → Prop
  | .normal, a, w => R a w
  | _, _, _ => False
theorem onlyN_out {R : Act → World → Prop} (h : LetsOut (onlyN R)) : False := by obtain ⟨a, w, h⟩ := h; exact h
section
variable {P : Program} {Q : Exit → Act → World → Prop} {R : Act → World → Prop} {l n : Nat}
theorem upon_in {x : Oper} {a : Act} {K : Act → World → Prop} (r : Result Next) (h : x.upon P a K (onlyN R) r) : x.uponIn (Fence.wide.inRound l) n P a K Q r := by
  cases r with
  | ok m w' =>
    cases m with
    | value v => exact h
    | skip => exact h
    | defer d => exact h
    | enter f args =>
      refine ⟨fun hd => by simp [Fence.wide] at hd, CallsIn.inRound l (callsIn_wide.2 (Calls.mono h fun e w'' he => ?_))⟩
      cases e with
      | returned v => exact he
      | panicked c => exact (he : False).elim
      | outgrown => exact (onlyN_out he).elim
    | row row args =>
      refine ⟨fun hd => by simp [Fence.wide] at hd, fun c cs _ => ?_⟩
      obtain ⟨v, w'', hv, s⟩ := (h : Rows P row args w' _) c cs
      exact ⟨v, w'', hv, stepsIn_wide.2 s⟩
    | _ => exact (h : False).elim
  | halt x w' => cases x <;> exact (h : False).elim
theorem any_in {md : Region.Mode} {ops : Array Oper} (hnd : ∀ (i : Nat) (o : Oper), ops[i]? = some o → ∀ c, o.op ≠ .defer c) (hR : ∀ a w, R a w → Q .normal a w) : ∀ (fuel : Nat) (listed : Array Bool) (a : Act) (w : World), wpAny P md ops (onlyN R) fuel listed a w → wpAnyIn (Fence.wide.inRound l) n P md ops Q fuel listed a w := by
  intro fuel
  induction fuel with
  | zero => exact fun listed a w h => ⟨h.1, hR _ _ h.2⟩
  | succ fuel ih =>
    intro listed a w h
    refine ⟨fun h0 => hR _ _ (h.1 h0), fun i hi => ?_⟩
    have hs := h.2 i hi
    unfold wpOp at hs
    unfold wpOpIn
    cases ho : ops[i]? with
    | none =>
      rw [ho] at hs
      exact ih _ _ _ hs
    | some o =>
      simp only [ho] at hs ⊢
      split
      · rename_i hw
        rw [if_pos hw] at hs
        rcases hs with hs | ⟨_, hs⟩
        · refine ⟨fun _ _ => trivial, ?_⟩
          have he : o.semAt (Fence.wide.inRound l).round a.eval = execOp a.eval o := Oper.semAt_some l _ _ (hnd i o ho)
          rw [he]
          exact upon_in _ (Oper.wp_mono (fun a' w' h' => ih _ a' w' h') hs)
        · exact (onlyN_out hs).elim
      · rename_i hw
        rw [if_neg hw] at hs
        exact ⟨fun _ _ => trivial, ih _ _ _ hs⟩
/-- **The law**, within a round. -/
theorem wpIn_region_last {id : Nat} {ops : Array Oper} {a : Act} {w : World} (pre : Array Oper) (o : Oper) (he : ops = pre.push o) (hB : lastB pre o = true) (hnd : (ops.all fun x => match x.op with | .defer _ => false | _ => true) = true) (hm : P.follows .mixedOrders = true) (S : World → Prop) (hS : S w.drew)
    (h : S w.drew → wpAnyH P .any pre (lastPost P o (onlyN (Q .normal))) S pre.size (Array.replicate pre.size false) a w.drew) : (Code.region id ops true).wpIn (Fence.wide.inRound l) n P Q a w := by
  subst he
  have h0 : Closed pre (Array.replicate pre.size false) := ⟨by simp, fun j x hx hl => by
    have hlt := (Array.getElem?_eq_some_iff.1 hx).1
    simp [hlt] at hl⟩
  have := any_last hB pre.size (Array.replicate pre.size false) a w.drew h0 (h hS)
  rw [show (Array.replicate pre.size false).push false = Array.replicate (pre.size + 1) false from Array.replicate_succ.symm] at this
  refine wpIn_region_any hm (any_in (fun i x hx c hc => ?_) (fun _ _ h => h) _ _ _ _ (by rw [Array.size_push]; exact this))
  have := (Array.all_eq_true_iff_forall_mem.1 hnd) x (Array.mem_of_getElem? hx)
  rw [hc] at this
  cases this
end
end Go.Proofs.YtmiennkldkcnfaaDoor
