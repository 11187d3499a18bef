/- Texts merged: Last, DigNext. No conditions. -/
import Derived.Test.YtinkhgmdeldniaaApp
import Derived.Deep.RegionHeld3
import Derived.Test.YtinkhgmdeldniaaDigRLev
import Derived.Deep.CutRange
/- A statement whose last operation comes behind all others: the others are walked in any order, then the last one. No conditions. -/
section
namespace Go.Proofs.Ytinkhgmdeldniaa
set_option linter.unusedVariables false
open Go.RowKit Go.Deep
/-- What is asked behind all operations but the last one. -/
def lastPost (P : Program) (o : Oper) (Q : Exit → Act → World → Prop) : Exit → Act → World → Prop
  | .normal, a, w => o.wp P a w (Q .normal) Q
  | e, a, w => Q e a w
/-- Operation j waits for i. -/
def waitB (ops : Array Oper) (j i : Nat) : Bool := ((ops[j]?).map fun o => o.after.any fun e => Region.binds .any e && e.on == i).getD false
/-- The last operation waits, through others, for each of them; each waits for elder ones alone; none is guarded. -/
def lastB (pre : Array Oper) (o : Oper) : Bool :=
  (List.range (pre.size + 1)).all (fun j => (((pre.push o)[j]?).map fun x => x.guard.isNone && x.after.all fun e => decide (e.on < j)).getD false) &&
  (List.range pre.size).all (fun i => (List.range (pre.size + 1)).any fun j => decide (i < j) && waitB (pre.push o) j i)
theorem upon_last {P : Program} {o x : Oper} {a : Act} {Q : Exit → Act → World → Prop} {K K' : Act → World → Prop} (hK : ∀ a w, K a w → K' a w) (r : Result Next)
    (h : x.upon P a K (lastPost P o Q) r) : x.upon P a K' Q r := by
  cases r with
  | ok n w' =>
    cases n <;> simp only [Oper.upon] at h ⊢ <;>
      first
        | exact hK _ _ h
        | exact Calls.mono h (fun e w'' he => by cases e <;> first | exact hK _ _ he | exact he)
        | exact Rows.mono h (fun _ _ he => hK _ _ he)
  | halt x w' => cases x <;> simp only [Oper.upon] at h ⊢ <;> exact h
section
variable {P : Program} {pre : Array Oper} {o : Oper} {Q : Exit → Act → World → Prop} {S : World → Prop}
theorem last_none (hB : lastB pre o = true) {j : Nat} {x : Oper} (hx : (pre.push o)[j]? = some x) : x.guard = none ∧ ∀ e ∈ x.after, e.on < j := by
  unfold lastB at hB
  rw [Bool.and_eq_true] at hB
  have hj : j < pre.size + 1 := by have := (Array.getElem?_eq_some_iff.1 hx).1; simpa using this
  have h := List.all_eq_true.1 hB.1 j (List.mem_range.2 hj)
  rw [hx] at h
  simp only [Option.map_some, Option.getD_some, Bool.and_eq_true, Option.isNone_iff_eq_none] at h
  refine ⟨h.1, fun e he => ?_⟩
  have := (Array.all_eq_true_iff_forall_mem.1 h.2) e he
  simpa using this
theorem last_wait (hB : lastB pre o = true) {i : Nat} (hi : i < pre.size) : ∃ j, i < j ∧ j ≤ pre.size ∧ ∃ x, (pre.push o)[j]? = some x ∧ ∃ e ∈ x.after, Region.binds .any e = true ∧ e.on = i := by
  unfold lastB at hB
  rw [Bool.and_eq_true] at hB
  obtain ⟨j, hj, h⟩ := List.any_eq_true.1 (List.all_eq_true.1 hB.2 i (List.mem_range.2 hi))
  simp only [Bool.and_eq_true, decide_eq_true_eq] at h
  refine ⟨j, h.1, by have := List.mem_range.1 hj; omega, ?_⟩
  have h2 := h.2
  unfold waitB at h2
  cases hx : (pre.push o)[j]? with
  | none => rw [hx] at h2; simp at h2
  | some x =>
    rw [hx] at h2
    simp only [Option.map_some, Option.getD_some] at h2
    obtain ⟨e, he, hb⟩ := Array.any_eq_true'.1 h2
    simp only [Bool.and_eq_true, beq_iff_eq] at hb
    exact ⟨x, rfl, e, he, hb.1, hb.2⟩
/-- What has come up is closed under what it waits for. -/
def Closed (pre : Array Oper) (listed : Array Bool) : Prop := listed.size = pre.size ∧ ∀ j x, pre[j]? = some x → listed.getD j false = true → ∀ e ∈ x.after, Region.binds .any e = true → listed.getD e.on false = true
theorem push_get (listed : Array Bool) (b d : Bool) (j : Nat) (hj : j < listed.size) : (listed.push b).getD j d = listed.getD j d := by
  simp [Array.getD, Nat.lt_succ_of_lt hj, hj, Array.getElem_push_lt hj]
theorem push_get_last (listed : Array Bool) (b d : Bool) : (listed.push b).getD listed.size d = b := by simp
theorem getD_any {listed : Array Bool} {j : Nat} (hj : j < listed.size) (d d' : Bool) : listed.getD j d = listed.getD j d' := by simp [hj]
theorem pre_get {j : Nat} (hj : j < pre.size) : (pre.push o)[j]? = pre[j]? := by
  rw [Array.getElem?_push, if_neg (by omega)]
/-- Those that are ready among all, but the last one, are ready among the others. -/
theorem ready_pre (hB : lastB pre o = true) {listed : Array Bool} (hs : listed.size = pre.size) {j : Nat} (hj : j < pre.size) : j ∈ Region.ready .any (pre.push o) (listed.push false) ↔ j ∈ Region.ready .any pre listed := by
  rw [mem_ready, mem_ready, push_get _ _ _ _ (by omega), pre_get hj]
  refine and_congr_right fun _ => exists_congr fun x => and_congr_right fun hx => ?_
  have hlt := (last_none hB (by rw [pre_get hj]; exact hx)).2
  constructor
  · intro h e he hb
    have := h e he hb
    rwa [push_get _ _ _ _ (by have := hlt e he; omega)] at this
  · intro h e he hb
    rw [push_get _ _ _ _ (by have := hlt e he; omega)]
    exact h e he hb
/-- If one of the others has not come up, the last one is not ready. -/
theorem last_waits (hB : lastB pre o = true) {listed : Array Bool} (hc : Closed pre listed) : ∀ (d i : Nat), pre.size - i = d → i < pre.size → listed.getD i false = false → pre.size ∉ Region.ready .any (pre.push o) (listed.push false) := by
  intro d
  induction d using Nat.strongRecOn with
  | _ d ih =>
    intro i hd hi hl hr
    obtain ⟨j, hij, hjn, x, hx, e, he, hb, hon⟩ := last_wait hB hi
    by_cases hje : j = pre.size
    · subst hje
      obtain ⟨_, y, hy, hall⟩ := mem_ready.1 hr
      obtain rfl : x = y := Option.some.inj (hx.symm.trans hy)
      have h2 := hall e he hb
      rw [hon, push_get _ _ _ _ (by rw [hc.1]; exact hi), hl] at h2
      cases h2
    · have hjlt : j < pre.size := by omega
      rw [pre_get hjlt] at hx
      cases hlj : listed.getD j false with
      | true =>
        have h2 := hc.2 j x hx hlj e he hb
        rw [hon, hl] at h2
        cases h2
      | false => exact ih (pre.size - j) (by omega) j rfl hjlt hlj hr
/-- If none of the others is ready, all have come up. -/
theorem all_listed (hB : lastB pre o = true) {listed : Array Bool} (hs : listed.size = pre.size) (hr : Region.ready .any pre listed = []) : ∀ j, j < pre.size → listed.getD j false = true := by
  intro j
  induction j using Nat.strongRecOn with
  | _ j ih =>
    intro hj
    cases hl : listed.getD j false with
    | true => rfl
    | false =>
      exfalso
      obtain ⟨x, hx⟩ : ∃ x, pre[j]? = some x := ⟨pre[j], Array.getElem?_eq_getElem hj⟩
      have : j ∈ Region.ready .any pre listed := mem_ready.2 ⟨by rw [getD_any (by omega) true false]; exact hl, x, hx, fun e he hb => by
        have hlt := (last_none hB (by rw [pre_get hj]; exact hx)).2 e he
        exact ih e.on hlt (by omega)⟩
      rw [hr] at this
      cases this
theorem set_push (listed : Array Bool) (b : Bool) {i : Nat} (hi : i < listed.size) : (listed.push b).setIfInBounds i true = (listed.setIfInBounds i true).push b := by
  apply Array.ext
  · simp
  · intro j h1 h2
    have hj : j < listed.size + 1 := by simpa using h1
    rw [Array.getElem_setIfInBounds (by simpa using h1), Array.getElem_push, Array.getElem_push]
    by_cases hjl : j < listed.size
    · simp [hjl, Array.getElem_setIfInBounds]
    · simp [hjl, show ¬ i = j by omega]
theorem any_last (hB : lastB pre o = true) : ∀ (fuel : Nat) (listed : Array Bool) (a : Act) (w : World), Closed pre listed → wpAnyH P .any pre (lastPost P o Q) S fuel listed a w → wpAny P .any (pre.push o) Q (fuel + 1) (listed.push false) a w := by
  have stop : ∀ (fuel : Nat) (listed : Array Bool) (a : Act) (w : World), Closed pre listed → Region.ready .any pre listed = [] → o.wp P a w (Q .normal) Q → wpAny P .any (pre.push o) Q (fuel + 1) (listed.push false) a w := by
    intro fuel listed a w hc hr h
    have hall := all_listed hB hc.1 hr
    have hn : pre.size ∈ Region.ready .any (pre.push o) (listed.push false) := mem_ready.2 ⟨by rw [← hc.1]; exact push_get_last _ _ _, o, by simp, fun e he hb => by
      have hlt := (last_none hB (show (pre.push o)[pre.size]? = some o by simp)).2 e he
      rw [push_get _ _ _ _ (by rw [hc.1]; exact hlt)]
      exact hall _ hlt⟩
    refine ⟨fun h0 => (by rw [h0] at hn; cases hn), fun i hi => ?_⟩
    have hin : i = pre.size := by
      have hlt : i < pre.size + 1 := by
        obtain ⟨_, x, hx, _⟩ := mem_ready.1 hi
        have := (Array.getElem?_eq_some_iff.1 hx).1
        simpa using this
      by_cases he : i = pre.size
      · exact he
      · have := (ready_pre hB hc.1 (show i < pre.size by omega)).1 hi
        rw [hr] at this
        cases this
    subst hin
    have hg := (last_none hB (show (pre.push o)[pre.size]? = some o by simp)).1
    unfold wpOp
    simp only [show (pre.push o)[pre.size]? = some o by simp]
    rw [if_pos (by simp [Region.wanted, hg])]
    refine .inl (Oper.wp_mono (fun a' w' h' => wpAny_done ?_ h' _) h)
    refine List.eq_nil_iff_forall_not_mem.2 fun j hj => ?_
    obtain ⟨h1, x, hx, _⟩ := mem_ready.1 hj
    have hlt : j < pre.size + 1 := by
      have := (Array.getElem?_eq_some_iff.1 hx).1
      simpa using this
    by_cases he : pre.size = j
    · subst he
      have : ((listed.push false).setIfInBounds pre.size true).getD pre.size true = true := by
        rw [← hc.1]; simp
      rw [this] at h1
      cases h1
    · rw [getD_set_ne true he, push_get _ _ _ _ (by rw [hc.1]; omega), getD_any (by rw [hc.1]; omega) true false, hall j (by omega)] at h1
      cases h1
  intro fuel
  induction fuel with
  | zero => exact fun listed a w hc h => stop 0 listed a w hc h.1 h.2
  | succ fuel ih =>
    intro listed a w hc h
    by_cases hr : Region.ready .any pre listed = []
    · exact stop _ listed a w hc hr (h.1 hr)
    · obtain ⟨i0, hi0⟩ := List.exists_mem_of_ne_nil _ hr
      have hi0l : i0 < pre.size ∧ listed.getD i0 false = false := by
        obtain ⟨h1, x, hx, _⟩ := mem_ready.1 hi0
        have hlt := (Array.getElem?_eq_some_iff.1 hx).1
        exact ⟨hlt, by rw [getD_any (by rw [hc.1]; exact hlt) false true]; exact h1⟩
      have hnot := last_waits hB hc _ i0 rfl hi0l.1 hi0l.2
      refine ⟨fun h0 => ?_, fun i hi => ?_⟩
      · have := (ready_pre hB hc.1 hi0l.1).2 hi0
        rw [h0] at this
        cases this
      · have hlt : i < pre.size := by
          obtain ⟨_, x, hx, _⟩ := mem_ready.1 hi
          have := (Array.getElem?_eq_some_iff.1 hx).1
          have h3 : i < pre.size + 1 := by simpa using this
          by_cases he : i = pre.size
          · subst he; exact absurd hi hnot
          · omega
        have hi' := (ready_pre hB hc.1 hlt).1 hi
        have hstep := h.2 i hi'
        obtain ⟨_, x, hx, hall⟩ := mem_ready.1 hi'
        have hg := (last_none hB (by rw [pre_get hlt]; exact hx)).1
        have hcl : Closed pre (listed.setIfInBounds i true) := by
          refine ⟨by simp [hc.1], fun j y hy hl e he hb => ?_⟩
          by_cases hij : i = j
          · subst hij
            obtain rfl : y = x := Option.some.inj (hy.symm.trans hx)
            exact getD_set_true (hall e he hb)
          · rw [getD_set_ne false hij] at hl
            exact getD_set_true (hc.2 j y hy hl e he hb)
        unfold wpOp at hstep ⊢
        rw [pre_get hlt]
        simp only [hx] at hstep ⊢
        rw [if_pos (by simp [Region.wanted, hg])] at hstep ⊢
        rw [set_push _ _ (by rw [hc.1]; exact hlt)]
        rcases hstep with hstep | ⟨hasks, hlets⟩
        · exact .inl (upon_last (fun a' w' h' => ih _ a' w' hcl h'.2) _ hstep)
        · exact .inr ⟨hasks, hlets⟩
/-- **The law**: the others under S, whatever they are taken in; then the last one, which S need not outlive. -/
theorem wp_region_last {id : Nat} {ops : Array Oper} {a : Act} {w : World} (pre : Array Oper) (o : Oper) (he : ops = pre.push o) (hB : lastB pre o = true) (hm : P.follows .mixedOrders = true) (S : World → Prop) (hS : S w.drew)
    (h : S w.drew → wpAnyH P .any pre (lastPost P o Q) S pre.size (Array.replicate pre.size false) a w.drew) : (Code.region id ops true).wp P Q a w := by
  subst he
  refine wp_region_any hm ?_
  have h0 : Closed pre (Array.replicate pre.size false) := ⟨by simp, fun j x hx hl => by
    have hlt := (Array.getElem?_eq_some_iff.1 hx).1
    simp [hlt] at hl⟩
  have := any_last hB pre.size (Array.replicate pre.size false) a w.drew h0 (h hS)
  rw [Array.size_push]
  rwa [show (Array.replicate pre.size false).push false = Array.replicate (pre.size + 1) false from Array.replicate_succ.symm] at this
end
end Go.Proofs.Ytinkhgmdeldniaa
end
/- The next level. -/
section
namespace Go.Proofs.Ytinkhgmdeldniaa
set_option maxRecDepth 100000
set_option linter.unusedVariables false
open Go.RowKit
/-- The elements of the level above: node i, the elements filled up with f. -/
def DG.uf (f : ByteArray) (L : List ByteArray) (i : Nat) : ByteArray := DG.Pair (L.getD (2 * i) f) (L.getD (2 * i + 1) f)
def DG.ufs (f : ByteArray) (L : List ByteArray) (j : Nat) : List ByteArray := (List.range j).map (DG.uf f L)
theorem DG.ufs_succ (f : ByteArray) (L : List ByteArray) (j : Nat) : DG.ufs f L (j + 1) = DG.ufs f L j ++ [DG.uf f L j] := by unfold DG.ufs; rw [List.range_succ, List.map_append]; rfl
theorem DG.ufs_len (f : ByteArray) (L : List ByteArray) (j : Nat) : (DG.ufs f L j).length = j := by simp [DG.ufs]
theorem grown_setcell (w : World) (p i : Nat) (u : Value) : w.grownBy (w.setCell ⟨p, i, none⟩ u) (some p) :=
  ⟨rfl, rfl, rfl, (KeepsWalks.setCell w _ u).size, fun k _ hk => Below.heap_setCell _ _ _ k (fun e => hk (by rw [e]))⟩
/-- A store elsewhere leaves a row as it was. -/
theorem own_setcell {w : World} {B e size n p : Nat} {v : Value} {xs : List Value} (h : w.ownsRow B e size v n xs) {i : Nat} (hp : p < B) (u : Value) : (w.setCell ⟨p, i, none⟩ u).ownsRow B e size v n xs := by
  refine h.kept (row := some p) (grown_setcell w p i u) ?_
  cases hw : v.ownBlock with
  | none => exact Or.inl rfl
  | some k => exact Or.inr (fun e => by have := (h.lt k hw).1; have := Option.some.inj e; omega)
/-- The element at this place. -/
def AtIs (L : List ByteArray) (f : ByteArray) (i : Int) (r : ByteArray) : Prop := ∃ k : Nat, i = (k : Int) ∧ k ≤ maxLen ∧ L.getD k f = r
theorem getD_size {L : List ByteArray} {f : ByteArray} (hf : f.size < 2147483648) (hs : ∀ s ∈ L, s.size < 2147483648) (k : Nat) : (L.getD k f).size < 2147483648 := by
  by_cases h : k < L.length
  · simp only [List.getD, List.getElem?_eq_getElem h, Option.getD_some]; exact hs _ (List.getElem_mem _)
  · simp only [List.getD, List.getElem?_eq_none (Nat.le_of_not_lt h), Option.getD_none]; exact hf
set_option maxRecDepth 100000 in
set_option maxHeartbeats 4000000 in
theorem next_any (a : Option Addr) (c : Nat) (L : List ByteArray) (f : ByteArray) (m : Nat) (w : World) (hr : RowAt w (.slice a L.length c) (L.map Value.string)) (hL : L.length ≤ 1000000) (hm : m ≤ maxLen) (hf : f.size < 2147483648) (hs : ∀ s ∈ L, s.size < 2147483648) :
    Calls Try.prog 80 #[lv a L.length c f m] w fun e w' => ∃ a' c', e = .returned (.agg #[.slice a' ((L.length + 1) / 2) c', .string (DG.Pair f f), .int .i64 ((m / 2 : Nat) : Int)]) ∧ Src w' (.slice a' ((L.length + 1) / 2) c') ((DG.ufs f L ((L.length + 1) / 2)).map Value.string) ∧ (∀ g o, a' = some ⟨g, o, none⟩ → w.heap.size ≤ g) ∧ Below w.heap.size w w' := by
  obtain ⟨i0, hi, hz0, hz1, hz2⟩ := info_parts info_string
  have HAT : Hid (∀ i r, AtIs L f i r → ∀ W, Below w.heap.size w W → Calls Try.prog 65 #[lv a L.length c f m, .int .i64 i] W fun e w' => e = .returned (.string r) ∧ Below W.heap.size W w') := Lib.hid (fun i r ⟨k, hk, hkm, hkr⟩ W hW => by
    have := at_any a c L f m k W (hr.keep hW) (by unfold maxLen; omega) hkm
    rw [hkr, ← hk] at this
    exact this)
  have HSZ := Lib.hid (getD_size hf hs)
  have HF := Lib.hid hf
  obtain ⟨n, hn⟩ : ∃ n, L.length = n := ⟨_, rfl⟩
  have HN := Lib.hid hn
  rw [hn] at hr HAT ⊢
  obtain ⟨r, hrr⟩ : ∃ r, DG.Pair f f = r := ⟨_, rfl⟩
  have HP := Lib.hid (fun w => Pair_any f f w (by omega) (by unfold maxLen; omega))
  rw [hrr] at HP
  unfold maxLen at hm
  have hq : (m : Int).tdiv 2 = ((m / 2 : Nat) : Int) := by rw [Int.tdiv_eq_ediv_of_nonneg (by omega)]; omega
  obtain ⟨m2, hm2⟩ : ∃ m2, m / 2 = m2 := ⟨_, rfl⟩
  rw [hm2] at hq
  have hqe : (m : Int) / 2 = (m2 : Int) := by omega
  have hmi : (m : Int) ≤ 9223372036854775807 := by omega
  have hw : IntKind.i64.wrap (m2 : Int) = (m2 : Int) := by rw [IntKind.wrap_i64]; omega
  clear hm2
  go_enter Try.func80, Try.ntmps80
  go_upto_region 1 with (fail)
  obtain ⟨w2, hw2⟩ : ∃ w2, (w.alloc (.cells #[.slice a n c, .string f, .int .i64 m] 84)).alloc (.cells #[.slice none 0 0, .string ⟨#[]⟩, .int .i64 0] 84) = w2 := ⟨_, rfl⟩
  have hb2 : Below w.heap.size w w2 := by rw [← hw2]; exact balloc (balloc (Below.refl _ _) _) _
  have hs2 : w2.heap.size = w.heap.size + 2 := by rw [← hw2, World.size_alloc, World.size_alloc]
  have hx1 : w2.heap[w.heap.size]? = some (.cells #[.slice a n c, .string f, .int .i64 m] 84 (0, 0)) := by
    rw [← hw2]
    exact ((balloc (Below.refl _ (w.alloc _)) _).block _ (by rw [World.size_alloc]; omega)).trans (heap_alloc_new w _)
  have hx2 : w2.heap[w.heap.size + 1]? = some (.cells #[.slice none 0 0, .string ⟨#[]⟩, .int .i64 0] 84 (0, 0)) := by
    have := heap_alloc_new (w.alloc (.cells #[.slice a n c, .string f, .int .i64 m] 84)) (.cells #[.slice none 0 0, .string ⟨#[]⟩, .int .i64 0] 84)
    rwa [World.size_alloc, hw2] at this
  rw [hw2]
  obtain ⟨B, hB⟩ : ∃ B, w.heap.size = B := ⟨_, rfl⟩
  rw [hB] at hs2 hx1 hx2 ⊢
  have KS : Hid (∀ w', Below w2.heap.size w2 w' → Below w2.heap.size w2 w' ∧ w'.cell? ⟨B, 1, none⟩ = some (.string f) ∧ w'.cell? ⟨B, 2, none⟩ = some (.int .i64 m)) := Lib.hid fun w' h => by
    have := (h.block B (by omega)).trans hx1
    exact ⟨h, by simp [World.cell?, this], by simp [World.cell?, this]⟩
  clear hw2
  go_cut [3] from 5 to 13 (fun s3 wx => ∃ p, s3 = .pointer (some ⟨p, 0, none⟩) ∧ wx.heap[p]? = some (.cells #[.slice none 0 0, .string r, .int .i64 m2] 84 (0, 0)) ∧ B + 2 ≤ p ∧ Below w2.heap.size w2 wx)
  case first =>
    have HPP : Hid (∀ W, Below w2.heap.size w2 W → Calls Try.prog 74 #[.string f, .string f] W fun e w' => e = .returned (.string r) ∧ Below W.heap.size W w' ∧ Below w2.heap.size w2 w') := Lib.hid fun W hW => (HP.out W).mono (fun e w' h => ⟨h.1, h.2, bnext hW h.2⟩)
    go_region_held3 (fun w' => Below w2.heap.size w2 w' ∧ w'.cell? ⟨B, 1, none⟩ = some (.string f) ∧ w'.cell? ⟨B, 2, none⟩ = some (.int .i64 m)) ((refine KS.out _ ?_; (repeat' (first | (refine bset ?_ (by show w2.heap.size ≤ B + 2; omega) _) | exact Below.refl _ _ | (with_reducible assumption) | (refine bnext ?_ (by with_reducible assumption)) | (refine balloc ?_ _) | (refine below_drewN ?_ _) | (refine Below.drew ?_))))) (first | (go_at_call 74; refine (HPP.out _ (by (repeat' (first | exact Below.refl _ _ | (with_reducible assumption) | (refine bnext ?_ (by with_reducible assumption)) | (refine balloc ?_ _) | (refine below_drewN ?_ _) | (refine Below.drew ?_))))).mono ?_; rintro e w3 ⟨rfl, hb3, hbb3⟩; (try (have hz3 : w3.heap[w2.heap.size]? = some (.cells #[.slice none 0 0, .string ⟨#[]⟩, .int .i64 0] 84 (0, 0)) := (hb3.block w2.heap.size (by show w2.heap.size < (w2.alloc _).heap.size; rw [World.size_alloc]; omega)).trans (heap_alloc_new w2 _); rw [hs2] at hz3; have z0 : w3.cell? ⟨B + 2, 0, none⟩ = some (.slice none 0 0) := (by simp [World.cell?, hz3]); have z1 : w3.cell? ⟨B + 2, 1, none⟩ = some (.string ⟨#[]⟩) := (by simp [World.cell?, hz3]); have z2 : w3.cell? ⟨B + 2, 2, none⟩ = some (.int .i64 0) := (by simp [World.cell?, hz3]); have y0 : w3.frozen? ⟨B + 2, 0, none⟩ = false := (by simp [World.frozen?, hz3]); have y1 : w3.frozen? ⟨B + 2, 1, none⟩ = false := (by simp [World.frozen?, hz3]); have y2 : w3.frozen? ⟨B + 2, 2, none⟩ = false := (by simp [World.frozen?, hz3])))))
    · go_wp2
      go_meet
      case rel => exact ⟨w3.heap.size, rfl, heap_alloc_new w3 _, by have := hbb3.size; omega, balloc hbb3 _⟩
    · have hz4 := heap_setCell_same _ (B + 2) 2 _ 84 (.int .i64 (m2 : Int)) (heap_setCell_same _ (B + 2) 1 _ 84 (.string r) (heap_setCell_same w3 (B + 2) 0 _ 84 (.slice none 0 0) hz3))
      go_wp2
      go_meet
      case rel => exact ⟨B + 2, rfl, hz4, Nat.le_refl _, bset (bset (bset hbb3 (by show w2.heap.size ≤ B + 2; omega) _) (by show w2.heap.size ≤ B + 2; omega) _) (by show w2.heap.size ≤ B + 2; omega) _⟩
  case rest =>
    obtain ⟨p, rfl, hp, hpB, hbx⟩ := hcut
    have hpl : p < wc.heap.size := (Array.getElem?_eq_some_iff.1 hp).1
    have hbs := hbx.size
    have HB1 : Hid (∀ V, Below (B + 2) wc V → Below w.heap.size w V ∧ V.heap[B]? = some (.cells #[.slice a n c, .string f, .int .i64 m] 84 (0, 0)) ∧ V.heap[B + 1]? = some (.cells #[.slice none 0 0, .string ⟨#[]⟩, .int .i64 0] 84 (0, 0))) := Lib.hid fun V hV => by
      rw [hs2] at hbx
      have h2 : Below (B + 2) w2 V := hbx.trans hV
      exact ⟨hb2.trans (h2.mono (by omega)), (h2.block B (by omega)).trans hx1, (h2.block (B + 1) (by omega)).trans hx2⟩
    have HBE := Lib.hid hB
    clear KS hx1 hx2 hbx hb2 HP hr hs hf hq hw hB
    go_wp2
    go_loopw [4] (fun v4 wr => ∃ (j : Nat) (v : Value), v4 = .int .i64 (2 * (j : Int)) ∧ 2 * j ≤ n + 1 ∧ wr.heap[p]? = some (.cells #[v, .string r, .int .i64 m2] 84 (0, 0)) ∧ wr.ownsRow wc.heap.size 9 1 v j ((DG.ufs f L j).map Value.string) ∧ Below (B + 2) wc wr) (fun v _ => n + 2 - (intOf v).toNat)
    case atStart => exact ⟨0, _, rfl, by omega, hp, World.ownsRow_nil _ _ _ _, Below.refl _ _⟩
    case round =>
      obtain ⟨j, v, rfl, hj, hz, hrow, hb⟩ := hrel
      obtain ⟨hbw, hx1, hx2⟩ := HB1.out wr hb
      have hbs := hb.size
      obtain ⟨va, vc, rfl⟩ := own_shape hrow
      by_cases hjn : 2 * j < n
      · have i1 : 2 * (j : Int) < (n : Int) := by omega
        have xw : IntKind.i64.wrap (2 * (j : Int) + 1) = 2 * (j : Int) + 1 := by rw [IntKind.wrap_i64]; omega
        obtain ⟨x, hx⟩ : ∃ x, L.getD (2 * j) f = x := ⟨_, rfl⟩
        obtain ⟨y, hy⟩ : ∃ y, L.getD (2 * j + 1) f = y := ⟨_, rfl⟩
        have a1 : AtIs L f (2 * (j : Int)) x := ⟨2 * j, by omega, by unfold maxLen; omega, hx⟩
        have a2 : AtIs L f (2 * (j : Int) + 1) y := ⟨2 * j + 1, by omega, by unfold maxLen; omega, hy⟩
        have sx : x.size < 2147483648 := by rw [← hx]; exact HSZ.out _
        have sy : y.size < 2147483648 := by rw [← hy]; exact HSZ.out _
        obtain ⟨z, hzz⟩ : ∃ z, DG.Pair x y = z := ⟨_, rfl⟩
        have HZ : Hid (DG.ufs f L (j + 1) = DG.ufs f L j ++ [z]) := Lib.hid (by rw [DG.ufs_succ, ← hzz, ← hx, ← hy]; rfl)
        have HPP : Hid (∀ W, Below wr.heap.size wr W → Calls Try.prog 74 #[.string x, .string y] W fun e w' => e = .returned (.string z) ∧ Below wr.heap.size wr w') := Lib.hid fun W hW => (Pair_any x y W (by omega) (by unfold maxLen; omega)).mono (fun e w' h => ⟨by rw [← hzz]; exact h.1, bnext hW h.2⟩)
        have HAA : Hid (∀ i r, AtIs L f i r → ∀ W, Below wr.heap.size wr W → Calls Try.prog 65 #[lv a n c f m, .int .i64 i] W fun e w' => e = .returned (.string r) ∧ Below wr.heap.size wr w') := Lib.hid fun i r h W hW => (HAT.out i r h W (bnext hbw hW)).mono (fun e w' h => ⟨h.1, bnext hW h.2⟩)
        have hpr : p < wr.heap.size := by omega
        have hBr : B < wr.heap.size := by omega
        have HKB : Hid (∀ V, Below wr.heap.size wr V → V.cell? ⟨B, 0, none⟩ = some (.slice a n c) ∧ V.cell? ⟨B, 1, none⟩ = some (.string f) ∧ V.cell? ⟨B, 2, none⟩ = some (.int .i64 m)) := Lib.hid fun V hV => by
          have := (hV.block B hBr).trans hx1
          exact ⟨by simp [World.cell?, this], by simp [World.cell?, this], by simp [World.cell?, this]⟩
        have HKP : Hid (∀ V, Below wr.heap.size wr V → V.cell? ⟨p, 0, none⟩ = some (.slice va j vc)) := Lib.hid fun V hV => by
          have := (hV.block p hpr).trans hz
          simp [World.cell?, this]
        have HPH : Hid (∀ V, Below wr.heap.size wr V → V.heap[p]? = some (.cells #[.slice va j vc, .string r, .int .i64 m2] 84 (0, 0))) := Lib.hid fun V hV => (hV.block p hpr).trans hz
        have hplw : p < wc.heap.size := hpl
        have hBlw : B < wc.heap.size := by omega
        have HKS : Hid (∀ V, Below wr.heap.size wr V → (V.cell? ⟨B, 0, none⟩ = some (.slice a n c) ∧ V.cell? ⟨B, 1, none⟩ = some (.string f) ∧ V.cell? ⟨B, 2, none⟩ = some (.int .i64 m)) ∧ V.cell? ⟨p, 0, none⟩ = some (.slice va j vc)) := Lib.hid fun V hV => ⟨HKB.out V hV, HKP.out V hV⟩
        have HSTEP : Hid (∀ V V', Below wr.heap.size wr V → Below wc.heap.size V V' → ((V'.cell? ⟨B, 0, none⟩ = some (.slice a n c) ∧ V'.cell? ⟨B, 1, none⟩ = some (.string f) ∧ V'.cell? ⟨B, 2, none⟩ = some (.int .i64 m)) ∧ V'.cell? ⟨p, 0, none⟩ = some (.slice va j vc)) ∧ V'.frozen? ⟨p, 0, none⟩ = false ∧ V'.heap[p]? = some (.cells #[.slice va j vc, .string r, .int .i64 m2] 84 (0, 0))) := Lib.hid fun V V' hV hV' => by
          obtain ⟨c0, c1, c2⟩ := HKB.out V hV
          have hq := (hV'.block p hplw).trans (HPH.out V hV)
          exact ⟨⟨⟨(hV'.cell (p := ⟨B, 0, none⟩) hBlw).trans c0, (hV'.cell (p := ⟨B, 1, none⟩) hBlw).trans c1, (hV'.cell (p := ⟨B, 2, none⟩) hBlw).trans c2⟩, (hV'.cell (p := ⟨p, 0, none⟩) hplw).trans (HKP.out V hV)⟩, by simp [World.frozen?, hq], hq⟩
        have HROW := Lib.hid hrow
        have HB := Lib.hid hb
        have HBW := Lib.hid hbw
        have hBp : B ≠ p := by omega
        clear hrow hb hx hy hzz HAT HSZ hbw hx2 hx1
        have cp0 := HKP.out wr (Below.refl _ _)
        obtain ⟨b0, b1, b2⟩ := HKB.out wr (Below.refl _ _)
        clear hz
        go_wp2_with fail
        refine wp_region_last #[{ dst := some 21, op := Op.fieldAddr 84 (Operand.tmp 3) 0, type := 0, pos := "digest.go:81", after := #[], guard := none }, { dst := some 22, op := Op.load 42 (Operand.tmp 21), type := 42, pos := "digest.go:81", after := #[{ on := 0, ground := Ground.data }], guard := none }, { dst := some 23, op := Op.load 84 (Operand.tmp 1), type := 84, pos := "digest.go:81", after := #[], guard := none }, { dst := some 24, op := Op.move (Operand.tmp 4), type := 3, pos := "digest.go:81", after := #[], guard := none }, { dst := some 25, op := Op.call { callee := Callee.value (Operand.func 65), args := #[Operand.tmp 23, Operand.tmp 24], argTypes := #[84, 3] }, type := 9, pos := "digest.go:81", after := #[{ on := 2, ground := Ground.data }, { on := 3, ground := Ground.data }], guard := none }, { dst := some 26, op := Op.load 84 (Operand.tmp 1), type := 84, pos := "digest.go:81", after := #[], guard := none }, { dst := some 27, op := Op.move (Operand.tmp 4), type := 3, pos := "digest.go:81", after := #[], guard := none }, { dst := some 28, op := Op.binOp BinOp.add 3 (Operand.tmp 27) (Operand.const (Value.int IntKind.i64 1)) 3, type := 3, pos := "digest.go:81", after := #[{ on := 6, ground := Ground.data }], guard := none }, { dst := some 29, op := Op.call { callee := Callee.value (Operand.func 65), args := #[Operand.tmp 26, Operand.tmp 28], argTypes := #[84, 3] }, type := 9, pos := "digest.go:81", after := #[{ on := 5, ground := Ground.data }, { on := 7, ground := Ground.data }, { on := 4, ground := Ground.chain }], guard := none }, { dst := some 30, op := Op.call { callee := Callee.value (Operand.func 74), args := #[Operand.tmp 25, Operand.tmp 29], argTypes := #[9, 9] }, type := 9, pos := "digest.go:81", after := #[{ on := 4, ground := Ground.data }, { on := 8, ground := Ground.data }, { on := 8, ground := Ground.chain }], guard := none }, { dst := some 31, op := Op.buildSlice 42 1 #[(0, Operand.tmp 30)], type := 42, pos := "digest.go:81", after := #[{ on := 9, ground := Ground.data }], guard := none }, { dst := some 32, op := Op.call { callee := Callee.builtin Builtin.append, args := #[Operand.tmp 22, Operand.tmp 31], argTypes := #[42, 42] }, type := 42, pos := "digest.go:81", after := #[{ on := 1, ground := Ground.data }, { on := 10, ground := Ground.data }, { on := 9, ground := Ground.chain }], guard := none }, { dst := some 33, op := Op.fieldAddr 84 (Operand.tmp 3) 0, type := 0, pos := "digest.go:81", after := #[{ on := 0, ground := Ground.phase }, { on := 1, ground := Ground.phase }, { on := 2, ground := Ground.phase }, { on := 3, ground := Ground.phase }, { on := 4, ground := Ground.phase }, { on := 5, ground := Ground.phase }, { on := 6, ground := Ground.phase }, { on := 7, ground := Ground.phase }, { on := 8, ground := Ground.phase }, { on := 9, ground := Ground.phase }, { on := 10, ground := Ground.phase }, { on := 11, ground := Ground.phase }], guard := none }] { dst := none, op := Op.store 42 (Operand.tmp 33) (Operand.tmp 32), type := 0, pos := "digest.go:81", after := #[{ on := 12, ground := Ground.data }, { on := 11, ground := Ground.data }, { on := 11, ground := Ground.chain }, { on := 0, ground := Ground.phase }, { on := 1, ground := Ground.phase }, { on := 2, ground := Ground.phase }, { on := 3, ground := Ground.phase }, { on := 4, ground := Ground.phase }, { on := 5, ground := Ground.phase }, { on := 6, ground := Ground.phase }, { on := 7, ground := Ground.phase }, { on := 8, ground := Ground.phase }, { on := 9, ground := Ground.phase }, { on := 10, ground := Ground.phase }, { on := 11, ground := Ground.phase }], guard := none } rfl (by kernel_rfl) (by kernel_rfl) (fun w' => (w'.cell? ⟨B, 0, none⟩ = some (.slice a n c) ∧ w'.cell? ⟨B, 1, none⟩ = some (.string f) ∧ w'.cell? ⟨B, 2, none⟩ = some (.int .i64 m)) ∧ w'.cell? ⟨p, 0, none⟩ = some (.slice va j vc)) ?_ (fun hHeld => ?_)
        · first | (refine HKS.out _ ?_; (repeat' (first | exact Below.refl _ _ | (with_reducible assumption) | (refine bnext ?_ (by with_reducible assumption)) | (refine balloc ?_ _) | (refine below_drewN ?_ _) | (refine Below.drew ?_))); done) | exact hS1
        refine wpAnyH_take (i := 0) (oi := { dst := some 21, op := Op.fieldAddr 84 (Operand.tmp 3) 0, type := 0, pos := "digest.go:81", after := #[], guard := none }) (v := ?_) rfl (by kernel_rfl) (by kernel_rfl) (by kernel_rfl) (fun _ _ _ h => h) (Or.inl ⟨by rfl, ?_⟩) (by assumption) ?_
        rotate_left
        · ((intro w hSw; (try dsimp only at hSw); go_simp); try with_reducible rfl)
        (try simp only [Act.put, List.setIfInBounds_toArray, List.set_cons_zero, List.set_cons_succ])
        refine wpAnyH_take (i := 1) (oi := { dst := some 22, op := Op.load 42 (Operand.tmp 21), type := 42, pos := "digest.go:81", after := #[{ on := 0, ground := Ground.data }], guard := none }) (v := ?_) rfl (by kernel_rfl) (by kernel_rfl) (by kernel_rfl) (fun _ _ _ h => h) (Or.inl ⟨by rfl, ?_⟩) (by assumption) ?_
        rotate_left
        · ((intro w hSw; (try dsimp only at hSw); go_simp); try with_reducible rfl)
        (try simp only [Act.put, List.setIfInBounds_toArray, List.set_cons_zero, List.set_cons_succ])
        refine wpAnyH_take (i := 2) (oi := { dst := some 23, op := Op.load 84 (Operand.tmp 1), type := 84, pos := "digest.go:81", after := #[], guard := none }) (v := ?_) rfl (by kernel_rfl) (by kernel_rfl) (by kernel_rfl) (fun _ _ _ h => h) (Or.inl ⟨by rfl, ?_⟩) (by assumption) ?_
        rotate_left
        · ((intro w hSw; (try dsimp only at hSw); go_simp); try with_reducible rfl)
        (try simp only [Act.put, List.setIfInBounds_toArray, List.set_cons_zero, List.set_cons_succ])
        refine wpAnyH_take (i := 3) (oi := { dst := some 24, op := Op.move (Operand.tmp 4), type := 3, pos := "digest.go:81", after := #[], guard := none }) (v := ?_) rfl (by kernel_rfl) (by kernel_rfl) (by kernel_rfl) (fun _ _ _ h => h) (Or.inl ⟨by rfl, ?_⟩) (by assumption) ?_
        rotate_left
        · ((intro w hSw; (try dsimp only at hSw); go_simp); try with_reducible rfl)
        (try simp only [Act.put, List.setIfInBounds_toArray, List.set_cons_zero, List.set_cons_succ])
        refine wpAnyH_take (i := 5) (oi := { dst := some 26, op := Op.load 84 (Operand.tmp 1), type := 84, pos := "digest.go:81", after := #[], guard := none }) (v := ?_) rfl (by kernel_rfl) (by kernel_rfl) (by kernel_rfl) (fun _ _ _ h => h) (Or.inl ⟨by rfl, ?_⟩) (by assumption) ?_
        rotate_left
        · ((intro w hSw; (try dsimp only at hSw); go_simp); try with_reducible rfl)
        (try simp only [Act.put, List.setIfInBounds_toArray, List.set_cons_zero, List.set_cons_succ])
        refine wpAnyH_take (i := 6) (oi := { dst := some 27, op := Op.move (Operand.tmp 4), type := 3, pos := "digest.go:81", after := #[], guard := none }) (v := ?_) rfl (by kernel_rfl) (by kernel_rfl) (by kernel_rfl) (fun _ _ _ h => h) (Or.inl ⟨by rfl, ?_⟩) (by assumption) ?_
        rotate_left
        · ((intro w hSw; (try dsimp only at hSw); go_simp); try with_reducible rfl)
        (try simp only [Act.put, List.setIfInBounds_toArray, List.set_cons_zero, List.set_cons_succ])
        refine wpAnyH_take (i := 7) (oi := { dst := some 28, op := Op.binOp BinOp.add 3 (Operand.tmp 27) (Operand.const (Value.int IntKind.i64 1)) 3, type := 3, pos := "digest.go:81", after := #[{ on := 6, ground := Ground.data }], guard := none }) (v := ?_) rfl (by kernel_rfl) (by kernel_rfl) (by kernel_rfl) (fun _ _ _ h => h) (Or.inl ⟨by rfl, ?_⟩) (by assumption) ?_
        rotate_left
        · ((intro w hSw; (try dsimp only at hSw); go_simp); try with_reducible rfl)
        (try simp only [Act.put, List.setIfInBounds_toArray, List.set_cons_zero, List.set_cons_succ])
        refine wpAnyH_ready (rs := [4]) (by kernel_rfl) (by simp) ?_
        refine AllReadyH.cons (o := { dst := some 25, op := Op.call { callee := Callee.value (Operand.func 65), args := #[Operand.tmp 23, Operand.tmp 24], argTypes := #[84, 3] }, type := 9, pos := "digest.go:81", after := #[{ on := 2, ground := Ground.data }, { on := 3, ground := Ground.data }], guard := none }) rfl (fun K hK => ?_) AllReadyH.nil
        first | (go_simp; go_at_call 65; refine (HAA.out _ _ (by with_reducible assumption) _ (by (repeat' (first | exact Below.refl _ _ | (with_reducible assumption) | (refine bnext ?_ (by with_reducible assumption)) | (refine balloc ?_ _) | (refine below_drewN ?_ _) | (refine Below.drew ?_))))).mono ?_; rintro e w3 ⟨rfl, hb3⟩; dsimp only) | (go_simp; go_at_call 74; refine (HPP.out _ (by (repeat' (first | exact Below.refl _ _ | (with_reducible assumption) | (refine bnext ?_ (by with_reducible assumption)) | (refine balloc ?_ _) | (refine below_drewN ?_ _) | (refine Below.drew ?_))))).mono ?_; rintro e w4 ⟨rfl, hb4⟩; have HROW2 := Lib.hid (own_kept HROW.out hb4); have hws4 : wr.heap.size ≤ w4.heap.size := hb4.size; dsimp only)
        refine hK.out _ _ ?_ (fun hHeld => ?_)
        · first | (refine HKS.out _ ?_; (repeat' (first | exact Below.refl _ _ | (with_reducible assumption) | (refine bnext ?_ (by with_reducible assumption)) | (refine balloc ?_ _) | (refine below_drewN ?_ _) | (refine Below.drew ?_))); done) | exact hS1
        clear hK K
        (try simp only [Act.put, List.setIfInBounds_toArray, List.set_cons_zero, List.set_cons_succ])
        refine wpAnyH_ready (rs := [8]) (by kernel_rfl) (by simp) ?_
        refine AllReadyH.cons (o := { dst := some 29, op := Op.call { callee := Callee.value (Operand.func 65), args := #[Operand.tmp 26, Operand.tmp 28], argTypes := #[84, 3] }, type := 9, pos := "digest.go:81", after := #[{ on := 5, ground := Ground.data }, { on := 7, ground := Ground.data }, { on := 4, ground := Ground.chain }], guard := none }) rfl (fun K hK => ?_) AllReadyH.nil
        first | (go_simp; go_at_call 65; refine (HAA.out _ _ (by with_reducible assumption) _ (by (repeat' (first | exact Below.refl _ _ | (with_reducible assumption) | (refine bnext ?_ (by with_reducible assumption)) | (refine balloc ?_ _) | (refine below_drewN ?_ _) | (refine Below.drew ?_))))).mono ?_; rintro e w3 ⟨rfl, hb3⟩; dsimp only) | (go_simp; go_at_call 74; refine (HPP.out _ (by (repeat' (first | exact Below.refl _ _ | (with_reducible assumption) | (refine bnext ?_ (by with_reducible assumption)) | (refine balloc ?_ _) | (refine below_drewN ?_ _) | (refine Below.drew ?_))))).mono ?_; rintro e w4 ⟨rfl, hb4⟩; have HROW2 := Lib.hid (own_kept HROW.out hb4); have hws4 : wr.heap.size ≤ w4.heap.size := hb4.size; dsimp only)
        refine hK.out _ _ ?_ (fun hHeld => ?_)
        · first | (refine HKS.out _ ?_; (repeat' (first | exact Below.refl _ _ | (with_reducible assumption) | (refine bnext ?_ (by with_reducible assumption)) | (refine balloc ?_ _) | (refine below_drewN ?_ _) | (refine Below.drew ?_))); done) | exact hS1
        clear hK K
        (try simp only [Act.put, List.setIfInBounds_toArray, List.set_cons_zero, List.set_cons_succ])
        refine wpAnyH_ready (rs := [9]) (by kernel_rfl) (by simp) ?_
        refine AllReadyH.cons (o := { dst := some 30, op := Op.call { callee := Callee.value (Operand.func 74), args := #[Operand.tmp 25, Operand.tmp 29], argTypes := #[9, 9] }, type := 9, pos := "digest.go:81", after := #[{ on := 4, ground := Ground.data }, { on := 8, ground := Ground.data }, { on := 8, ground := Ground.chain }], guard := none }) rfl (fun K hK => ?_) AllReadyH.nil
        first | (go_simp; go_at_call 65; refine (HAA.out _ _ (by with_reducible assumption) _ (by (repeat' (first | exact Below.refl _ _ | (with_reducible assumption) | (refine bnext ?_ (by with_reducible assumption)) | (refine balloc ?_ _) | (refine below_drewN ?_ _) | (refine Below.drew ?_))))).mono ?_; rintro e w3 ⟨rfl, hb3⟩; dsimp only) | (go_simp; go_at_call 74; refine (HPP.out _ (by (repeat' (first | exact Below.refl _ _ | (with_reducible assumption) | (refine bnext ?_ (by with_reducible assumption)) | (refine balloc ?_ _) | (refine below_drewN ?_ _) | (refine Below.drew ?_))))).mono ?_; rintro e w4 ⟨rfl, hb4⟩; have HROW2 := Lib.hid (own_kept HROW.out hb4); have hws4 : wr.heap.size ≤ w4.heap.size := hb4.size; dsimp only)
        refine hK.out _ _ ?_ (fun hHeld => ?_)
        · first | (refine HKS.out _ ?_; (repeat' (first | exact Below.refl _ _ | (with_reducible assumption) | (refine bnext ?_ (by with_reducible assumption)) | (refine balloc ?_ _) | (refine below_drewN ?_ _) | (refine Below.drew ?_))); done) | exact hS1
        clear hK K
        (try simp only [Act.put, List.setIfInBounds_toArray, List.set_cons_zero, List.set_cons_succ])
        refine wpAnyH_ready (rs := [10]) (by kernel_rfl) (by simp) ?_
        refine AllReadyH.cons (o := { dst := some 31, op := Op.buildSlice 42 1 #[(0, Operand.tmp 30)], type := 42, pos := "digest.go:81", after := #[{ on := 9, ground := Ground.data }], guard := none }) rfl (fun K hK => ?_) AllReadyH.nil
        go_simp
        refine hK.out _ _ ?_ (fun hHeld => ?_)
        · first | (refine HKS.out _ ?_; (repeat' (first | exact Below.refl _ _ | (with_reducible assumption) | (refine bnext ?_ (by with_reducible assumption)) | (refine balloc ?_ _) | (refine below_drewN ?_ _) | (refine Below.drew ?_))); done) | exact hS1
        clear hK K
        (try simp only [Act.put, List.setIfInBounds_toArray, List.set_cons_zero, List.set_cons_succ])
        refine wpAnyH_ready (rs := [11]) (by kernel_rfl) (by simp) ?_
        refine AllReadyH.cons (o := { dst := some 32, op := Op.call { callee := Callee.builtin Builtin.append, args := #[Operand.tmp 22, Operand.tmp 31], argTypes := #[42, 42] }, type := 42, pos := "digest.go:81", after := #[{ on := 1, ground := Ground.data }, { on := 10, ground := Ground.data }, { on := 9, ground := Ground.chain }], guard := none }) rfl (fun K hK => ?_) AllReadyH.nil
        (refine step_append_lies _ (by rfl) _ _ _ (by rfl) wc.heap.size 9 i0 _ 1 16 Try.underlying42 hi hz0 hz1 hz2 rfl (by omega) (.slice va j vc) _ _ (by rfl) (HROW2.out.alloc _) ⟨w4.heap.size, 0, none⟩ 1 1 [.string z] (by rfl) (by rfl) (World.news_of_block (cs := #[.string z]) (t := 9) (fr := (0, 0)) (heap_alloc_new w4 _)) (by simp [Value.oneCell']) (by omega) (by unfold maxLen; omega) (by omega) (by simp; omega) (w4.heap.size + 1) (by simp) ?_; intro gg cap' w1 hown1 hgrow hat hlt; have hBq : Below wc.heap.size w4 w1 := (((Below.refl wc.heap.size w4).alloc (by omega) _).grown hgrow (by simp; omega) (fun j hj => (HROW2.out.lt j hj).1)); obtain ⟨hS1, pf1, hP1⟩ := HSTEP.out _ _ hb4 hBq)
        refine hK.out _ _ ?_ (fun hHeld => ?_)
        · first | (refine HKS.out _ ?_; (repeat' (first | exact Below.refl _ _ | (with_reducible assumption) | (refine bnext ?_ (by with_reducible assumption)) | (refine balloc ?_ _) | (refine below_drewN ?_ _) | (refine Below.drew ?_))); done) | exact hS1
        clear hK K
        (try simp only [Act.put, List.setIfInBounds_toArray, List.set_cons_zero, List.set_cons_succ])
        refine wpAnyH_take (i := 12) (oi := { dst := some 33, op := Op.fieldAddr 84 (Operand.tmp 3) 0, type := 0, pos := "digest.go:81", after := #[{ on := 0, ground := Ground.phase }, { on := 1, ground := Ground.phase }, { on := 2, ground := Ground.phase }, { on := 3, ground := Ground.phase }, { on := 4, ground := Ground.phase }, { on := 5, ground := Ground.phase }, { on := 6, ground := Ground.phase }, { on := 7, ground := Ground.phase }, { on := 8, ground := Ground.phase }, { on := 9, ground := Ground.phase }, { on := 10, ground := Ground.phase }, { on := 11, ground := Ground.phase }], guard := none }) (v := ?_) rfl (by kernel_rfl) (by kernel_rfl) (by kernel_rfl) (fun _ _ _ h => h) (Or.inl ⟨by rfl, ?_⟩) (by assumption) ?_
        rotate_left
        · ((intro w hSw; (try dsimp only at hSw); go_simp); try with_reducible rfl)
        (try simp only [Act.put, List.setIfInBounds_toArray, List.set_cons_zero, List.set_cons_succ])
        refine wpAnyH_done (by kernel_rfl) ?_ _
        show Oper.wp _ _ _ _ _ _
        have hz1 := heap_setCell_same w1 p 0 _ 84 (.slice (some ⟨gg, 0, none⟩) (j + 1) cap') hP1
        have HOWN := Lib.hid (own_setcell (i := 0) hown1 (show p < wc.heap.size from hplw) (.slice (some ⟨gg, 0, none⟩) (j + 1) cap'))
        have HBB : Hid (Below (B + 2) wc (w1.setCell ⟨p, 0, none⟩ (.slice (some ⟨gg, 0, none⟩) (j + 1) cap'))) := Lib.hid (((HB.out.trans (hb4.mono (by omega))).trans (hBq.mono (by omega))).setCell (p := ⟨p, 0, none⟩) (show B + 2 ≤ p by omega) _)
        have HZ1 := Lib.hid hz1
        clear hz1 hown1 hgrow hat hlt hBq
        go_simp
        go_wp2
        go_roundw
        case rel => exact ⟨j + 1, _, by go_num, by omega, HZ1.out, by rw [HZ.out, List.map_append]; exact HOWN.out, HBB.out⟩
        case measure => simp [intOf]; omega
      · have hje : j = (n + 1) / 2 := by omega
        have i1 : ¬ 2 * (j : Int) < (n : Int) := by omega
        have q0 : wr.cell? ⟨B, 0, none⟩ = some (.slice a n c) := by simp [World.cell?, hx1]
        have q1 : wr.cell? ⟨p, 0, none⟩ = some (.slice va j vc) := by simp [World.cell?, hz]
        have q2 : wr.cell? ⟨p, 1, none⟩ = some (.string r) := by simp [World.cell?, hz]
        have q3 : wr.cell? ⟨p, 2, none⟩ = some (.int .i64 m2) := by simp [World.cell?, hz]
        have y0 : wr.cell? ⟨B + 1, 0, none⟩ = some (.slice none 0 0) := by simp [World.cell?, hx2]
        have y1 : wr.cell? ⟨B + 1, 1, none⟩ = some (.string ⟨#[]⟩) := by simp [World.cell?, hx2]
        have y2 : wr.cell? ⟨B + 1, 2, none⟩ = some (.int .i64 0) := by simp [World.cell?, hx2]
        have z0 : wr.frozen? ⟨B + 1, 0, none⟩ = false := by simp [World.frozen?, hx2]
        have z1 : wr.frozen? ⟨B + 1, 1, none⟩ = false := by simp [World.frozen?, hx2]
        have z2 : wr.frozen? ⟨B + 1, 2, none⟩ = false := by simp [World.frozen?, hx2]
        have hZ := heap_setCell_same _ (B + 1) 2 _ 84 (.int .i64 (m2 : Int)) (heap_setCell_same _ (B + 1) 1 _ 84 (.string r) (heap_setCell_same wr (B + 1) 0 _ 84 (.slice va j vc) hx2))
        have HZZ := Lib.hid hZ
        have HROW := Lib.hid hrow
        have HBW := Lib.hid hbw
        have HJE := Lib.hid hje
        clear hx1 hx2 hz hrow hb hbw hZ hje
        have hBw : B + 1 < wc.heap.size := by omega
        have HOW := Lib.hid (own_setcell (i := 2) (own_setcell (i := 1) (own_setcell (i := 0) HROW.out hBw (.slice va j vc)) hBw (.string r)) hBw (.int .i64 (m2 : Int)))
        go_wp2
        refine bodyPost_ret (v := .agg #[.slice va j vc, .string r, .int .i64 m2]) (results_cell_row Try.results80 _ _ (B + 1) 84 _ (0, 0) _ rfl HZZ.out Try.underlying84 rfl (by kernel_rfl)) rfl ?_
        have hjj := HJE.out
        subst hjj
        refine ⟨va, vc, rfl, own_src HOW.out (by rw [List.length_map, DG.ufs_len]), fun g o e => ?_, ?_⟩
        · subst e
          have := (HOW.out.lt g rfl).1
          have := HBE.out
          omega
        have hB1 : w.heap.size ≤ B + 1 := by rw [HBE.out]; omega
        exact ((HBW.out.setCell hB1 _).setCell hB1 _).setCell hB1 _
end Go.Proofs.Ytinkhgmdeldniaa
end
