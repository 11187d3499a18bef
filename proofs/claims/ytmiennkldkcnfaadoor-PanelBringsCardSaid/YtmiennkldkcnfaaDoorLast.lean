/- A statement whose last operation comes behind all others: the others are walked in any order, then the last one. No conditions. -/
import Derived.Test.YtmiennkldkcnfaaDoorApp
import Derived.Deep.RegionHeld3
namespace Go.Proofs.YtmiennkldkcnfaaDoor
set_option linter.unusedVariables false
open Go.RowKit Go.Deep
/-- What is asked behind all operations but the last one. -/
def lastPost (P : Program) (o : Oper) (Q : Exit → Act → World → Prop) : Exit → Act → World → Prop
  | .normal, a, w => o.wp P a w (Q .normal) Q
  | e, a, w => Q e a w
/-- Operation j waits for i. -/
def waitB (ops : Array Oper) (j i : Nat) : Bool := ((ops[j]?).map fun o => o.after.any fun e => Region.binds .any e && e.on == i).getD false
/-- The last operation waits, through others, for each of them; each waits for elder ones alone; none is guarded. -/
def lastB (pre : Array Oper) (o : Oper) : Bool :=
  (List.range (pre.size + 1)).all (fun j => (((pre.push o)[j]?).map fun x => x.guard.isNone && x.after.all fun e => decide (e.on < j)).getD false) &&
  (List.range pre.size).all (fun i => (List.range (pre.size + 1)).any fun j => decide (i < j) && waitB (pre.push o) j i)
theorem upon_last {P : Program} {o x : Oper} {a : Act} {Q : Exit → Act → World → Prop} {K K' : Act → World → Prop} (hK : ∀ a w, K a w → K' a w) (r : Result Next)
    (h : x.upon P a K (lastPost P o Q) r) : x.upon P a K' Q r := by
  cases r with
  | ok n w' =>
    cases n <;> simp only [Oper.upon] at h ⊢ <;>
      first
        | exact hK _ _ h
        | exact Calls.mono h (fun e w'' he => by cases e <;> first | exact hK _ _ he | exact he)
        | exact Rows.mono h (fun _ _ he => hK _ _ he)
  | halt x w' => cases x <;> simp only [Oper.upon] at h ⊢ <;> exact h
section
variable {P : Program} {pre : Array Oper} {o : Oper} {Q : Exit → Act → World → Prop} {S : World → Prop}
theorem last_none (hB : lastB pre o = true) {j : Nat} {x : Oper} (hx : (pre.push o)[j]? = some x) : x.guard = none ∧ ∀ e ∈ x.after, e.on < j := by
  unfold lastB at hB
  rw [Bool.and_eq_true] at hB
  have hj : j < pre.size + 1 := by have := (Array.getElem?_eq_some_iff.1 hx).1; simpa using this
  have h := List.all_eq_true.1 hB.1 j (List.mem_range.2 hj)
  rw [hx] at h
  simp only [Option.map_some, Option.getD_some, Bool.and_eq_true, Option.isNone_iff_eq_none] at h
  refine ⟨h.1, fun e he => ?_⟩
  have := (Array.all_eq_true_iff_forall_mem.1 h.2) e he
  simpa using this
theorem last_wait (hB : lastB pre o = true) {i : Nat} (hi : i < pre.size) : ∃ j, i < j ∧ j ≤ pre.size ∧ ∃ x, (pre.push o)[j]? = some x ∧ ∃ e ∈ x.after, Region.binds .any e = true ∧ e.on = i := by
  unfold lastB at hB
  rw [Bool.and_eq_true] at hB
  obtain ⟨j, hj, h⟩ := List.any_eq_true.1 (List.all_eq_true.1 hB.2 i (List.mem_range.2 hi))
  simp only [Bool.and_eq_true, decide_eq_true_eq] at h
  refine ⟨j, h.1, by have := List.mem_range.1 hj; omega, ?_⟩
  have h2 := h.2
  unfold waitB at h2
  cases hx : (pre.push o)[j]? with
  | none => rw [hx] at h2; simp at h2
  | some x =>
    rw [hx] at h2
    simp only [Option.map_some, Option.getD_some] at h2
    obtain ⟨e, he, hb⟩ := Array.any_eq_true'.1 h2
    simp only [Bool.and_eq_true, beq_iff_eq] at hb
    exact ⟨x, rfl, e, he, hb.1, hb.2⟩
/-- What has come up is closed under what it waits for. -/
def Closed (pre : Array Oper) (listed : Array Bool) : Prop := listed.size = pre.size ∧ ∀ j x, pre[j]? = some x → listed.getD j false = true → ∀ e ∈ x.after, Region.binds .any e = true → listed.getD e.on false = true
theorem push_get (listed : Array Bool) (b d : Bool) (j : Nat) (hj : j < listed.size) : (listed.push b).getD j d = listed.getD j d := by
  simp [Array.getD, Nat.lt_succ_of_lt hj, hj, Array.getElem_push_lt hj]
theorem push_get_last (listed : Array Bool) (b d : Bool) : (listed.push b).getD listed.size d = b := by simp
theorem getD_any {listed : Array Bool} {j : Nat} (hj : j < listed.size) (d d' : Bool) : listed.getD j d = listed.getD j d' := by simp [hj]
theorem pre_get {j : Nat} (hj : j < pre.size) : (pre.push o)[j]? = pre[j]? := by
  rw [Array.getElem?_push, if_neg (by omega)]
/-- Those that are ready among all, but the last one, are ready among the others. -/
theorem ready_pre (hB : lastB pre o = true) {listed : Array Bool} (hs : listed.size = pre.size) {j : Nat} (hj : j < pre.size) : j ∈ Region.ready .any (pre.push o) (listed.push false) ↔ j ∈ Region.ready .any pre listed := by
  rw [mem_ready, mem_ready, push_get _ _ _ _ (by omega), pre_get hj]
  refine and_congr_right fun _ => exists_congr fun x => and_congr_right fun hx => ?_
  have hlt := (last_none hB (by rw [pre_get hj]; exact hx)).2
  constructor
  · intro h e he hb
    have := h e he hb
    rwa [push_get _ _ _ _ (by have := hlt e he; omega)] at this
  · intro h e he hb
    rw [push_get _ _ _ _ (by have := hlt e he; omega)]
    exact h e he hb
/-- If one of the others has not come up, the last one is not ready. -/
theorem last_waits (hB : lastB pre o = true) {listed : Array Bool} (hc : Closed pre listed) : ∀ (d i : Nat), pre.size - i = d → i < pre.size → listed.getD i false = false → pre.size ∉ Region.ready .any (pre.push o) (listed.push false) := by
  intro d
  induction d using Nat.strongRecOn with
  | _ d ih =>
    intro i hd hi hl hr
    obtain ⟨j, hij, hjn, x, hx, e, he, hb, hon⟩ := last_wait hB hi
    by_cases hje : j = pre.size
    · subst hje
      obtain ⟨_, y, hy, hall⟩ := mem_ready.1 hr
      obtain rfl : x = y := Option.some.inj (hx.symm.trans hy)
      have h2 := hall e he hb
      rw [hon, push_get _ _ _ _ (by rw [hc.1]; exact hi), hl] at h2
      cases h2
    · have hjlt : j < pre.size := by omega
      rw [pre_get hjlt] at hx
      cases hlj : listed.getD j false with
      | true =>
        have h2 := hc.2 j x hx hlj e he hb
        rw [hon, hl] at h2
        cases h2
      | false => exact ih (pre.size - j) (by omega) j rfl hjlt hlj hr
/-- If none of the others is ready, all have come up. -/
theorem all_listed (hB : lastB pre o = true) {listed : Array Bool} (hs : listed.size = pre.size) (hr : Region.ready .any pre listed = []) : ∀ j, j < pre.size → listed.getD j false = true := by
  intro j
  induction j using Nat.strongRecOn with
  | _ j ih =>
    intro hj
    cases hl : listed.getD j false with
    | true => rfl
    | false =>
      exfalso
      obtain ⟨x, hx⟩ : ∃ x, pre[j]? = some x := ⟨pre[j], Array.getElem?_eq_getElem hj⟩
      have : j ∈ Region.ready .any pre listed := mem_ready.2 ⟨by rw [getD_any (by omega) true false]; exact hl, x, hx, fun e he hb => by
        have hlt := (last_none hB (by rw [pre_get hj]; exact hx)).2 e he
        exact ih e.on hlt (by omega)⟩
      rw [hr] at this
      cases this
theorem set_push (listed : Array Bool) (b : Bool) {i : Nat} (hi : i < listed.size) : (listed.push b).setIfInBounds i true = (listed.setIfInBounds i true).push b := by
  apply Array.ext
  · simp
  · intro j h1 h2
    have hj : j < listed.size + 1 := by simpa using h1
    rw [Array.getElem_setIfInBounds (by simpa using h1), Array.getElem_push, Array.getElem_push]
    by_cases hjl : j < listed.size
    · simp [hjl, Array.getElem_setIfInBounds]
    · simp [hjl, show ¬ i = j by omega]
theorem any_last (hB : lastB pre o = true) : ∀ (fuel : Nat) (listed : Array Bool) (a : Act) (w : World), Closed pre listed → wpAnyH P .any pre (lastPost P o Q) S fuel listed a w → wpAny P .any (pre.push o) Q (fuel + 1) (listed.push false) a w := by
  have stop : ∀ (fuel : Nat) (listed : Array Bool) (a : Act) (w : World), Closed pre listed → Region.ready .any pre listed = [] → o.wp P a w (Q .normal) Q → wpAny P .any (pre.push o) Q (fuel + 1) (listed.push false) a w := by
    intro fuel listed a w hc hr h
    have hall := all_listed hB hc.1 hr
    have hn : pre.size ∈ Region.ready .any (pre.push o) (listed.push false) := mem_ready.2 ⟨by rw [← hc.1]; exact push_get_last _ _ _, o, by simp, fun e he hb => by
      have hlt := (last_none hB (show (pre.push o)[pre.size]? = some o by simp)).2 e he
      rw [push_get _ _ _ _ (by rw [hc.1]; exact hlt)]
      exact hall _ hlt⟩
    refine ⟨fun h0 => (by rw [h0] at hn; cases hn), fun i hi => ?_⟩
    have hin : i = pre.size := by
      have hlt : i < pre.size + 1 := by
        obtain ⟨_, x, hx, _⟩ := mem_ready.1 hi
        have := (Array.getElem?_eq_some_iff.1 hx).1
        simpa using this
      by_cases he : i = pre.size
      · exact he
      · have := (ready_pre hB hc.1 (show i < pre.size by omega)).1 hi
        rw [hr] at this
        cases this
    subst hin
    have hg := (last_none hB (show (pre.push o)[pre.size]? = some o by simp)).1
    unfold wpOp
    simp only [show (pre.push o)[pre.size]? = some o by simp]
    rw [if_pos (by simp [Region.wanted, hg])]
    refine .inl (Oper.wp_mono (fun a' w' h' => wpAny_done ?_ h' _) h)
    refine List.eq_nil_iff_forall_not_mem.2 fun j hj => ?_
    obtain ⟨h1, x, hx, _⟩ := mem_ready.1 hj
    have hlt : j < pre.size + 1 := by
      have := (Array.getElem?_eq_some_iff.1 hx).1
      simpa using this
    by_cases he : pre.size = j
    · subst he
      have : ((listed.push false).setIfInBounds pre.size true).getD pre.size true = true := by
        rw [← hc.1]; simp
      rw [this] at h1
      cases h1
    · rw [getD_set_ne true he, push_get _ _ _ _ (by rw [hc.1]; omega), getD_any (by rw [hc.1]; omega) true false, hall j (by omega)] at h1
      cases h1
  intro fuel
  induction fuel with
  | zero => exact fun listed a w hc h => stop 0 listed a w hc h.1 h.2
  | succ fuel ih =>
    intro listed a w hc h
    by_cases hr : Region.ready .any pre listed = []
    · exact stop _ listed a w hc hr (h.1 hr)
    · obtain ⟨i0, hi0⟩ := List.exists_mem_of_ne_nil _ hr
      have hi0l : i0 < pre.size ∧ listed.getD i0 false = false := by
        obtain ⟨h1, x, hx, _⟩ := mem_ready.1 hi0
        have hlt := (Array.getElem?_eq_some_iff.1 hx).1
        exact ⟨hlt, by rw [getD_any (by rw [hc.1]; exact hlt) false true]; exact h1⟩
      have hnot := last_waits hB hc _ i0 rfl hi0l.1 hi0l.2
      refine ⟨fun h0 => ?_, fun i hi => ?_⟩
      · have := (ready_pre hB hc.1 hi0l.1).2 hi0
        rw [h0] at this
        cases this
      · have hlt : i < pre.size := by
          obtain ⟨_, x, hx, _⟩ := mem_ready.1 hi
          have := (Array.getElem?_eq_some_iff.1 hx).1
          have h3 : i < pre.size + 1 := by simpa using this
          by_cases he : i = pre.size
          · subst he; exact absurd hi hnot
          · omega
        have hi' := (ready_pre hB hc.1 hlt).1 hi
        have hstep := h.2 i hi'
        obtain ⟨_, x, hx, hall⟩ := mem_ready.1 hi'
        have hg := (last_none hB (by rw [pre_get hlt]; exact hx)).1
        have hcl : Closed pre (listed.setIfInBounds i true) := by
          refine ⟨by simp [hc.1], fun j y hy hl e he hb => ?_⟩
          by_cases hij : i = j
          · subst hij
            obtain rfl : y = x := Option.some.inj (hy.symm.trans hx)
            exact getD_set_true (hall e he hb)
          · rw [getD_set_ne false hij] at hl
            exact getD_set_true (hc.2 j y hy hl e he hb)
        unfold wpOp at hstep ⊢
        rw [pre_get hlt]
        simp only [hx] at hstep ⊢
        rw [if_pos (by simp [Region.wanted, hg])] at hstep ⊢
        rw [set_push _ _ (by rw [hc.1]; exact hlt)]
        rcases hstep with hstep | ⟨hasks, hlets⟩
        · exact .inl (upon_last (fun a' w' h' => ih _ a' w' hcl h'.2) _ hstep)
        · exact .inr ⟨hasks, hlets⟩
/-- **The law**: the others under S, whatever they are taken in; then the last one, which S need not outlive. -/
theorem wp_region_last {id : Nat} {ops : Array Oper} {a : Act} {w : World} (pre : Array Oper) (o : Oper) (he : ops = pre.push o) (hB : lastB pre o = true) (hm : P.follows .mixedOrders = true) (S : World → Prop) (hS : S w.drew)
    (h : S w.drew → wpAnyH P .any pre (lastPost P o Q) S pre.size (Array.replicate pre.size false) a w.drew) : (Code.region id ops true).wp P Q a w := by
  subst he
  refine wp_region_any hm ?_
  have h0 : Closed pre (Array.replicate pre.size false) := ⟨by simp, fun j x hx hl => by
    have hlt := (Array.getElem?_eq_some_iff.1 hx).1
    simp [hlt] at hl⟩
  have := any_last hB pre.size (Array.replicate pre.size false) a w.drew h0 (h hS)
  rw [Array.size_push]
  rwa [show (Array.replicate pre.size false).push false = Array.replicate (pre.size + 1) false from Array.replicate_succ.symm] at this
end
end Go.Proofs.YtmiennkldkcnfaaDoor
