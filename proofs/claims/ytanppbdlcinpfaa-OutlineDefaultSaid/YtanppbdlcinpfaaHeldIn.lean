/- Texts merged: Marks, Last, LastIn, HeldIn. No conditions. -/
import Derived.Test.YtanppbdlcinpfaaApp
import Derived.RangeFuncNested
import Derived.RangeFuncBound
import Derived.RangeFuncCalls
import Derived.RangeFuncLeaves
import Derived.Deep.RegionHeld3
import Derived.OrdersIn
import Derived.Deep.RegionHeld
/- A function that ranges over functions again and again leaves with many marks. No conditions. -/
section
namespace Go.Proofs.Ytanppbdlcinpfaa
set_option maxRecDepth 100000
set_option linter.unusedVariables false
open Go.RowKit
/-- The mark that a range over a function leaves. -/
def mark (r : Nat) : Deferred := { target := .collected r, args := #[] }
/-- The marks lie in blocks of their own, at or beyond B. -/
def Marks (B : Nat) (rs : List Nat) (w : World) : Prop := rs.Nodup ∧ ∀ r ∈ rs, B ≤ r ∧ w.heap[r]? = some (.deferred (some []))
theorem Marks.nil (B : Nat) (w : World) : Marks B [] w := ⟨List.nodup_nil, fun r h => by cases h⟩
theorem Marks.lt {B : Nat} {rs : List Nat} {w : World} (h : Marks B rs w) : ∀ r ∈ rs, r < w.heap.size := fun r hr => (Array.getElem?_eq_some_iff.1 (h.2 r hr).2).1
theorem Marks.cons {B D : Nat} {rs : List Nat} {w : World} (h : Marks B rs w) (hn : D ∉ rs) (hB : B ≤ D) (hD : w.heap[D]? = some (.deferred (some []))) : Marks B (D :: rs) w :=
  ⟨List.nodup_cons.2 ⟨hn, h.1⟩, fun r hr => by
    rcases List.mem_cons.1 hr with rfl | hr
    · exact ⟨hB, hD⟩
    · exact h.2 r hr⟩
theorem Marks.below {B : Nat} {rs : List Nat} {w w' : World} (h : Marks B rs w) (hb : Below w.heap.size w w') : Marks B rs w' :=
  ⟨h.1, fun r hr => ⟨(h.2 r hr).1, (hb.block r (h.lt r hr)).trans (h.2 r hr).2⟩⟩
/-- A turn of cells, or of what lies at or beyond C, which all marks lie below. -/
theorem Marks.grown {B : Nat} {rs : List Nat} {w w' : World} {row : Option Nat} (h : Marks B rs w) (hg : w.grownBy w' row) (hr : ∀ r, row = some r → r ∉ rs) : Marks B rs w' :=
  ⟨h.1, fun r hm => ⟨(h.2 r hm).1, (hg.block r (h.lt r hm) (fun e => hr r e.symm hm)).trans (h.2 r hm).2⟩⟩
theorem Marks.cells {B : Nat} {rs : List Nat} {w : World} (h : Marks B rs w) {b : Nat} {cs : Array Value} {t : TypeId} {fr : Nat × Nat} (hb : w.heap[b]? = some (.cells cs t fr)) : b ∉ rs := fun hm => by
  have := (h.2 b hm).2
  rw [hb] at this
  cases this
theorem leaves_marks {F : Fence} {n : Nat} {P : Program} {fn : Func} {tmps : Array Value} {R : Ending → World → Prop} {B : Nat} : ∀ (rs : List Nat) (w : World), Marks B rs w → B ≤ w.heap.size →
    (∀ w', Below B w w' → (∀ (b : Nat) (cs : Array Value) (t : TypeId) (fr : Nat × Nat), w.heap[b]? = some (Obj.cells cs t fr) → w'.heap[b]? = some (Obj.cells cs t fr)) → LeavesIn F n P fn tmps R [] .returning w') → LeavesInM F n P fn tmps R (rs.map mark) .returning w
  | [], w, _, _, h => h w (Below.refl _ _) (fun _ _ _ _ h => h)
  | r :: rs, w, hm, hB, h => by
    have hr := hm.2 r (List.mem_cons_self ..)
    have hn := List.nodup_cons.1 hm.1
    have hb : Below B w (w.putObj r (.deferred none)) := (Below.refl B w).grown (grownBy_putObj' w r _) hB (fun k e => by cases e; exact hr.1)
    refine ⟨by simp, .inl ⟨r, _, rfl, run_takeDeferred hr.2, ?_⟩⟩
    refine leaves_marks rs _ ⟨hn.2, fun k hk => ⟨(hm.2 k (List.mem_cons_of_mem _ hk)).1, ?_⟩⟩ (by simpa using hB) (fun w' hw hc => h w' (hb.trans hw) (fun b cs t fr hbc => hc b cs t fr ((World.putObj_heap_other (fun e => ?_)).trans hbc)))
    · exact (World.putObj_heap_other (fun e => hn.1 (by rw [← e]; exact hk))).trans (hm.2 k (List.mem_cons_of_mem _ hk)).2
    · subst e
      have := hr.2
      rw [hbc] at this
      cases this
end Go.Proofs.Ytanppbdlcinpfaa
end
/- A statement whose last operation comes behind all others: the others are walked in any order, then the last one. No conditions. -/
section
namespace Go.Proofs.Ytanppbdlcinpfaa
set_option linter.unusedVariables false
open Go.RowKit Go.Deep
/-- What is asked behind all operations but the last one. -/
def lastPost (P : Program) (o : Oper) (Q : Exit → Act → World → Prop) : Exit → Act → World → Prop
  | .normal, a, w => o.wp P a w (Q .normal) Q
  | e, a, w => Q e a w
/-- Operation j waits for i. -/
def waitB (ops : Array Oper) (j i : Nat) : Bool := ((ops[j]?).map fun o => o.after.any fun e => Region.binds .any e && e.on == i).getD false
/-- The last operation waits, through others, for each of them; each waits for elder ones alone; none is guarded. -/
def lastB (pre : Array Oper) (o : Oper) : Bool :=
  (List.range (pre.size + 1)).all (fun j => (((pre.push o)[j]?).map fun x => x.guard.isNone && x.after.all fun e => decide (e.on < j)).getD false) &&
  (List.range pre.size).all (fun i => (List.range (pre.size + 1)).any fun j => decide (i < j) && waitB (pre.push o) j i)
theorem upon_last {P : Program} {o x : Oper} {a : Act} {Q : Exit → Act → World → Prop} {K K' : Act → World → Prop} (hK : ∀ a w, K a w → K' a w) (r : Result Next)
    (h : x.upon P a K (lastPost P o Q) r) : x.upon P a K' Q r := by
  cases r with
  | ok n w' =>
    cases n <;> simp only [Oper.upon] at h ⊢ <;>
      first
        | exact hK _ _ h
        | exact Calls.mono h (fun e w'' he => by cases e <;> first | exact hK _ _ he | exact he)
        | exact Rows.mono h (fun _ _ he => hK _ _ he)
  | halt x w' => cases x <;> simp only [Oper.upon] at h ⊢ <;> exact h
section
variable {P : Program} {pre : Array Oper} {o : Oper} {Q : Exit → Act → World → Prop} {S : World → Prop}
theorem last_none (hB : lastB pre o = true) {j : Nat} {x : Oper} (hx : (pre.push o)[j]? = some x) : x.guard = none ∧ ∀ e ∈ x.after, e.on < j := by
  unfold lastB at hB
  rw [Bool.and_eq_true] at hB
  have hj : j < pre.size + 1 := by have := (Array.getElem?_eq_some_iff.1 hx).1; simpa using this
  have h := List.all_eq_true.1 hB.1 j (List.mem_range.2 hj)
  rw [hx] at h
  simp only [Option.map_some, Option.getD_some, Bool.and_eq_true, Option.isNone_iff_eq_none] at h
  refine ⟨h.1, fun e he => ?_⟩
  have := (Array.all_eq_true_iff_forall_mem.1 h.2) e he
  simpa using this
theorem last_wait (hB : lastB pre o = true) {i : Nat} (hi : i < pre.size) : ∃ j, i < j ∧ j ≤ pre.size ∧ ∃ x, (pre.push o)[j]? = some x ∧ ∃ e ∈ x.after, Region.binds .any e = true ∧ e.on = i := by
  unfold lastB at hB
  rw [Bool.and_eq_true] at hB
  obtain ⟨j, hj, h⟩ := List.any_eq_true.1 (List.all_eq_true.1 hB.2 i (List.mem_range.2 hi))
  simp only [Bool.and_eq_true, decide_eq_true_eq] at h
  refine ⟨j, h.1, by have := List.mem_range.1 hj; omega, ?_⟩
  have h2 := h.2
  unfold waitB at h2
  cases hx : (pre.push o)[j]? with
  | none => rw [hx] at h2; simp at h2
  | some x =>
    rw [hx] at h2
    simp only [Option.map_some, Option.getD_some] at h2
    obtain ⟨e, he, hb⟩ := Array.any_eq_true'.1 h2
    simp only [Bool.and_eq_true, beq_iff_eq] at hb
    exact ⟨x, rfl, e, he, hb.1, hb.2⟩
/-- What has come up is closed under what it waits for. -/
def Closed (pre : Array Oper) (listed : Array Bool) : Prop := listed.size = pre.size ∧ ∀ j x, pre[j]? = some x → listed.getD j false = true → ∀ e ∈ x.after, Region.binds .any e = true → listed.getD e.on false = true
theorem push_get (listed : Array Bool) (b d : Bool) (j : Nat) (hj : j < listed.size) : (listed.push b).getD j d = listed.getD j d := by
  simp [Array.getD, Nat.lt_succ_of_lt hj, hj, Array.getElem_push_lt hj]
theorem push_get_last (listed : Array Bool) (b d : Bool) : (listed.push b).getD listed.size d = b := by simp
theorem getD_any {listed : Array Bool} {j : Nat} (hj : j < listed.size) (d d' : Bool) : listed.getD j d = listed.getD j d' := by simp [hj]
theorem pre_get {j : Nat} (hj : j < pre.size) : (pre.push o)[j]? = pre[j]? := by
  rw [Array.getElem?_push, if_neg (by omega)]
/-- Those that are ready among all, but the last one, are ready among the others. -/
theorem ready_pre (hB : lastB pre o = true) {listed : Array Bool} (hs : listed.size = pre.size) {j : Nat} (hj : j < pre.size) : j ∈ Region.ready .any (pre.push o) (listed.push false) ↔ j ∈ Region.ready .any pre listed := by
  rw [mem_ready, mem_ready, push_get _ _ _ _ (by omega), pre_get hj]
  refine and_congr_right fun _ => exists_congr fun x => and_congr_right fun hx => ?_
  have hlt := (last_none hB (by rw [pre_get hj]; exact hx)).2
  constructor
  · intro h e he hb
    have := h e he hb
    rwa [push_get _ _ _ _ (by have := hlt e he; omega)] at this
  · intro h e he hb
    rw [push_get _ _ _ _ (by have := hlt e he; omega)]
    exact h e he hb
/-- If one of the others has not come up, the last one is not ready. -/
theorem last_waits (hB : lastB pre o = true) {listed : Array Bool} (hc : Closed pre listed) : ∀ (d i : Nat), pre.size - i = d → i < pre.size → listed.getD i false = false → pre.size ∉ Region.ready .any (pre.push o) (listed.push false) := by
  intro d
  induction d using Nat.strongRecOn with
  | _ d ih =>
    intro i hd hi hl hr
    obtain ⟨j, hij, hjn, x, hx, e, he, hb, hon⟩ := last_wait hB hi
    by_cases hje : j = pre.size
    · subst hje
      obtain ⟨_, y, hy, hall⟩ := mem_ready.1 hr
      obtain rfl : x = y := Option.some.inj (hx.symm.trans hy)
      have h2 := hall e he hb
      rw [hon, push_get _ _ _ _ (by rw [hc.1]; exact hi), hl] at h2
      cases h2
    · have hjlt : j < pre.size := by omega
      rw [pre_get hjlt] at hx
      cases hlj : listed.getD j false with
      | true =>
        have h2 := hc.2 j x hx hlj e he hb
        rw [hon, hl] at h2
        cases h2
      | false => exact ih (pre.size - j) (by omega) j rfl hjlt hlj hr
/-- If none of the others is ready, all have come up. -/
theorem all_listed (hB : lastB pre o = true) {listed : Array Bool} (hs : listed.size = pre.size) (hr : Region.ready .any pre listed = []) : ∀ j, j < pre.size → listed.getD j false = true := by
  intro j
  induction j using Nat.strongRecOn with
  | _ j ih =>
    intro hj
    cases hl : listed.getD j false with
    | true => rfl
    | false =>
      exfalso
      obtain ⟨x, hx⟩ : ∃ x, pre[j]? = some x := ⟨pre[j], Array.getElem?_eq_getElem hj⟩
      have : j ∈ Region.ready .any pre listed := mem_ready.2 ⟨by rw [getD_any (by omega) true false]; exact hl, x, hx, fun e he hb => by
        have hlt := (last_none hB (by rw [pre_get hj]; exact hx)).2 e he
        exact ih e.on hlt (by omega)⟩
      rw [hr] at this
      cases this
theorem set_push (listed : Array Bool) (b : Bool) {i : Nat} (hi : i < listed.size) : (listed.push b).setIfInBounds i true = (listed.setIfInBounds i true).push b := by
  apply Array.ext
  · simp
  · intro j h1 h2
    have hj : j < listed.size + 1 := by simpa using h1
    rw [Array.getElem_setIfInBounds (by simpa using h1), Array.getElem_push, Array.getElem_push]
    by_cases hjl : j < listed.size
    · simp [hjl, Array.getElem_setIfInBounds]
    · simp [hjl, show ¬ i = j by omega]
theorem any_last (hB : lastB pre o = true) : ∀ (fuel : Nat) (listed : Array Bool) (a : Act) (w : World), Closed pre listed → wpAnyH P .any pre (lastPost P o Q) S fuel listed a w → wpAny P .any (pre.push o) Q (fuel + 1) (listed.push false) a w := by
  have stop : ∀ (fuel : Nat) (listed : Array Bool) (a : Act) (w : World), Closed pre listed → Region.ready .any pre listed = [] → o.wp P a w (Q .normal) Q → wpAny P .any (pre.push o) Q (fuel + 1) (listed.push false) a w := by
    intro fuel listed a w hc hr h
    have hall := all_listed hB hc.1 hr
    have hn : pre.size ∈ Region.ready .any (pre.push o) (listed.push false) := mem_ready.2 ⟨by rw [← hc.1]; exact push_get_last _ _ _, o, by simp, fun e he hb => by
      have hlt := (last_none hB (show (pre.push o)[pre.size]? = some o by simp)).2 e he
      rw [push_get _ _ _ _ (by rw [hc.1]; exact hlt)]
      exact hall _ hlt⟩
    refine ⟨fun h0 => (by rw [h0] at hn; cases hn), fun i hi => ?_⟩
    have hin : i = pre.size := by
      have hlt : i < pre.size + 1 := by
        obtain ⟨_, x, hx, _⟩ := mem_ready.1 hi
        have := (Array.getElem?_eq_some_iff.1 hx).1
        simpa using this
      by_cases he : i = pre.size
      · exact he
      · have := (ready_pre hB hc.1 (show i < pre.size by omega)).1 hi
        rw [hr] at this
        cases this
    subst hin
    have hg := (last_none hB (show (pre.push o)[pre.size]? = some o by simp)).1
    unfold wpOp
    simp only [show (pre.push o)[pre.size]? = some o by simp]
    rw [if_pos (by simp [Region.wanted, hg])]
    refine .inl (Oper.wp_mono (fun a' w' h' => wpAny_done ?_ h' _) h)
    refine List.eq_nil_iff_forall_not_mem.2 fun j hj => ?_
    obtain ⟨h1, x, hx, _⟩ := mem_ready.1 hj
    have hlt : j < pre.size + 1 := by
      have := (Array.getElem?_eq_some_iff.1 hx).1
      simpa using this
    by_cases he : pre.size = j
    · subst he
      have : ((listed.push false).setIfInBounds pre.size true).getD pre.size true = true := by
        rw [← hc.1]; simp
      rw [this] at h1
      cases h1
    · rw [getD_set_ne true he, push_get _ _ _ _ (by rw [hc.1]; omega), getD_any (by rw [hc.1]; omega) true false, hall j (by omega)] at h1
      cases h1
  intro fuel
  induction fuel with
  | zero => exact fun listed a w hc h => stop 0 listed a w hc h.1 h.2
  | succ fuel ih =>
    intro listed a w hc h
    by_cases hr : Region.ready .any pre listed = []
    · exact stop _ listed a w hc hr (h.1 hr)
    · obtain ⟨i0, hi0⟩ := List.exists_mem_of_ne_nil _ hr
      have hi0l : i0 < pre.size ∧ listed.getD i0 false = false := by
        obtain ⟨h1, x, hx, _⟩ := mem_ready.1 hi0
        have hlt := (Array.getElem?_eq_some_iff.1 hx).1
        exact ⟨hlt, by rw [getD_any (by rw [hc.1]; exact hlt) false true]; exact h1⟩
      have hnot := last_waits hB hc _ i0 rfl hi0l.1 hi0l.2
      refine ⟨fun h0 => ?_, fun i hi => ?_⟩
      · have := (ready_pre hB hc.1 hi0l.1).2 hi0
        rw [h0] at this
        cases this
      · have hlt : i < pre.size := by
          obtain ⟨_, x, hx, _⟩ := mem_ready.1 hi
          have := (Array.getElem?_eq_some_iff.1 hx).1
          have h3 : i < pre.size + 1 := by simpa using this
          by_cases he : i = pre.size
          · subst he; exact absurd hi hnot
          · omega
        have hi' := (ready_pre hB hc.1 hlt).1 hi
        have hstep := h.2 i hi'
        obtain ⟨_, x, hx, hall⟩ := mem_ready.1 hi'
        have hg := (last_none hB (by rw [pre_get hlt]; exact hx)).1
        have hcl : Closed pre (listed.setIfInBounds i true) := by
          refine ⟨by simp [hc.1], fun j y hy hl e he hb => ?_⟩
          by_cases hij : i = j
          · subst hij
            obtain rfl : y = x := Option.some.inj (hy.symm.trans hx)
            exact getD_set_true (hall e he hb)
          · rw [getD_set_ne false hij] at hl
            exact getD_set_true (hc.2 j y hy hl e he hb)
        unfold wpOp at hstep ⊢
        rw [pre_get hlt]
        simp only [hx] at hstep ⊢
        rw [if_pos (by simp [Region.wanted, hg])] at hstep ⊢
        rw [set_push _ _ (by rw [hc.1]; exact hlt)]
        rcases hstep with hstep | ⟨hasks, hlets⟩
        · exact .inl (upon_last (fun a' w' h' => ih _ a' w' hcl h'.2) _ hstep)
        · exact .inr ⟨hasks, hlets⟩
/-- **The law**: the others under S, whatever they are taken in; then the last one, which S need not outlive. -/
theorem wp_region_last {id : Nat} {ops : Array Oper} {a : Act} {w : World} (pre : Array Oper) (o : Oper) (he : ops = pre.push o) (hB : lastB pre o = true) (hm : P.follows .mixedOrders = true) (S : World → Prop) (hS : S w.drew)
    (h : S w.drew → wpAnyH P .any pre (lastPost P o Q) S pre.size (Array.replicate pre.size false) a w.drew) : (Code.region id ops true).wp P Q a w := by
  subst he
  refine wp_region_any hm ?_
  have h0 : Closed pre (Array.replicate pre.size false) := ⟨by simp, fun j x hx hl => by
    have hlt := (Array.getElem?_eq_some_iff.1 hx).1
    simp [hlt] at hl⟩
  have := any_last hB pre.size (Array.replicate pre.size false) a w.drew h0 (h hS)
  rw [Array.size_push]
  rwa [show (Array.replicate pre.size false).push false = Array.replicate (pre.size + 1) false from Array.replicate_succ.symm] at this
end
end Go.Proofs.Ytanppbdlcinpfaa
end
/- The same within a round of a range over a function. No conditions. -/
section
namespace Go.Proofs.Ytanppbdlcinpfaa
set_option linter.unusedVariables false
open Go.RowKit Go.Deep
/-- Nothing but the end of the operations is borne. -/
def onlyN (R : Act → World → Prop) : Exit → Act → World → Prop
  | .normal, a, w => R a w
  | _, _, _ => False
theorem onlyN_out {R : Act → World → Prop} (h : LetsOut (onlyN R)) : False := by obtain ⟨a, w, h⟩ := h; exact h
section
variable {P : Program} {Q : Exit → Act → World → Prop} {R : Act → World → Prop} {l n : Nat}
theorem upon_in {x : Oper} {a : Act} {K : Act → World → Prop} (r : Result Next) (h : x.upon P a K (onlyN R) r) : x.uponIn (Fence.wide.inRound l) n P a K Q r := by
  cases r with
  | ok m w' =>
    cases m with
    | value v => exact h
    | skip => exact h
    | defer d => exact h
    | enter f args =>
      refine ⟨fun hd => by simp [Fence.wide] at hd, CallsIn.inRound l (callsIn_wide.2 (Calls.mono h fun e w'' he => ?_))⟩
      cases e with
      | returned v => exact he
      | panicked c => exact (he : False).elim
      | outgrown => exact (onlyN_out he).elim
    | row row args =>
      refine ⟨fun hd => by simp [Fence.wide] at hd, fun c cs _ => ?_⟩
      obtain ⟨v, w'', hv, s⟩ := (h : Rows P row args w' _) c cs
      exact ⟨v, w'', hv, stepsIn_wide.2 s⟩
    | _ => exact (h : False).elim
  | halt x w' => cases x <;> exact (h : False).elim
theorem any_in {md : Region.Mode} {ops : Array Oper} (hnd : ∀ (i : Nat) (o : Oper), ops[i]? = some o → ∀ c, o.op ≠ .defer c) (hR : ∀ a w, R a w → Q .normal a w) : ∀ (fuel : Nat) (listed : Array Bool) (a : Act) (w : World), wpAny P md ops (onlyN R) fuel listed a w → wpAnyIn (Fence.wide.inRound l) n P md ops Q fuel listed a w := by
  intro fuel
  induction fuel with
  | zero => exact fun listed a w h => ⟨h.1, hR _ _ h.2⟩
  | succ fuel ih =>
    intro listed a w h
    refine ⟨fun h0 => hR _ _ (h.1 h0), fun i hi => ?_⟩
    have hs := h.2 i hi
    unfold wpOp at hs
    unfold wpOpIn
    cases ho : ops[i]? with
    | none =>
      rw [ho] at hs
      exact ih _ _ _ hs
    | some o =>
      simp only [ho] at hs ⊢
      split
      · rename_i hw
        rw [if_pos hw] at hs
        rcases hs with hs | ⟨_, hs⟩
        · refine ⟨fun _ _ => trivial, ?_⟩
          have he : o.semAt (Fence.wide.inRound l).round a.eval = execOp a.eval o := Oper.semAt_some l _ _ (hnd i o ho)
          rw [he]
          exact upon_in _ (Oper.wp_mono (fun a' w' h' => ih _ a' w' h') hs)
        · exact (onlyN_out hs).elim
      · rename_i hw
        rw [if_neg hw] at hs
        exact ⟨fun _ _ => trivial, ih _ _ _ hs⟩
/-- **The law**, within a round. -/
theorem wpIn_region_last {id : Nat} {ops : Array Oper} {a : Act} {w : World} (pre : Array Oper) (o : Oper) (he : ops = pre.push o) (hB : lastB pre o = true) (hnd : (ops.all fun x => match x.op with | .defer _ => false | _ => true) = true) (hm : P.follows .mixedOrders = true) (S : World → Prop) (hS : S w.drew)
    (h : S w.drew → wpAnyH P .any pre (lastPost P o (onlyN (Q .normal))) S pre.size (Array.replicate pre.size false) a w.drew) : (Code.region id ops true).wpIn (Fence.wide.inRound l) n P Q a w := by
  subst he
  have h0 : Closed pre (Array.replicate pre.size false) := ⟨by simp, fun j x hx hl => by
    have hlt := (Array.getElem?_eq_some_iff.1 hx).1
    simp [hlt] at hl⟩
  have := any_last hB pre.size (Array.replicate pre.size false) a w.drew h0 (h hS)
  rw [show (Array.replicate pre.size false).push false = Array.replicate (pre.size + 1) false from Array.replicate_succ.symm] at this
  refine wpIn_region_any hm (any_in (fun i x hx c hc => ?_) (fun _ _ h => h) _ _ _ _ (by rw [Array.size_push]; exact this))
  have := (Array.all_eq_true_iff_forall_mem.1 hnd) x (Array.mem_of_getElem? hx)
  rw [hc] at this
  cases this
end
end Go.Proofs.Ytanppbdlcinpfaa
end
/- A drawn region within a round of a range over a function, under a condition that is held. No conditions. -/
section
namespace Go.Proofs.Ytanppbdlcinpfaa
set_option linter.unusedVariables false
open Go.RowKit Go.Deep
theorem wpIn_region_held {P : Program} {Q : Exit → Act → World → Prop} {l n id : Nat} {ops : Array Oper} {a : Act} {w : World} (S : World → Prop) (hnd : (ops.all fun x => match x.op with | .defer _ => false | _ => true) = true) (hm : P.follows .mixedOrders = true) (hS : S w.drew)
    (h : S w.drew → wpAnyH P .any ops (onlyN (Q .normal)) S ops.size (Array.replicate ops.size false) a w.drew) : (Code.region id ops true).wpIn (Fence.wide.inRound l) n P Q a w := by
  refine wpIn_region_any hm (any_in (fun i x hx c hc => ?_) (fun _ _ h => h) _ _ _ _ (wpAny_of_held _ _ _ _ (h hS)))
  have := (Array.all_eq_true_iff_forall_mem.1 hnd) x (Array.mem_of_getElem? hx)
  rw [hc] at this
  cases this
end Go.Proofs.Ytanppbdlcinpfaa
end
