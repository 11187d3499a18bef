/- Maps keyed by integers, as functions; what was collected; the set of the elements of lists that are in so many lists. -/
import Derived.Test.YtamhhbgakaokgaaSetRefC
import Derived.Test.YtamhhbgakaokgaaShelf
import Derived.Maps.RangeWalk
import Derived.Maps.OwnOps
import Derived.Maps.Views
import Derived.Sort.OwnSortedInts
namespace Go.Proofs.Ytamhhbgakaokgaa
open Go.RowKit Go.Maps
abbrev ki (x : Int) : Lit := .int .i64 x
theorem law_int : Keyed Try.prog 3 := int_keyed Try.underlying3
theorem zero_int (w : World) : (zeroValue 3).run Try.prog w = .ok (.int .i64 0) w := by kernel_rfl
/-- The map in block b has the numbers that f says: 0 stands for no entry. -/
def MapAt (w : World) (b n : Nat) (f : Int → Int) : Prop := ∃ D : DataW Unit, w.ownsMap Try.prog 3 (plainElem Try.prog 3) b n D ∧ IsMap D ∧ (∀ x, D.atKey (ki x) (.lit (.int .i64 0)) = .lit (.int .i64 (f x))) ∧ ∀ x, has D (ki x) = decide (f x ≠ 0)
theorem MapAt.out {w : World} {b n : Nat} {f : Int → Int} (h : MapAt w b n f) : ∃ D : DataW Unit, w.ownsMap Try.prog 3 (plainElem Try.prog 3) b n D ∧ IsMap D ∧ (∀ x, D.atKey (ki x) (.lit (.int .i64 0)) = .lit (.int .i64 (f x))) ∧ ∀ x, has D (ki x) = decide (f x ≠ 0) := h
theorem MapAt.made (w : World) : MapAt (w.alloc (.map #[] 0)) w.heap.size 0 (fun _ => 0) :=
  ⟨.map [], World.ownsMap_made _ _ _ _, isMap_empty, fun x => rfl, fun x => by simp [has]⟩
theorem MapAt.kept {w w' : World} {b n : Nat} {f : Int → Int} {row : Option Nat} (h : MapAt w b n f) (hg : w.grownBy w' row) (hne : some b ≠ row) : MapAt w' b n f := by
  obtain ⟨D, h1, h2⟩ := h.out
  exact ⟨D, h1.kept hg hne, h2⟩
theorem MapAt.keep {w w' : World} {b n : Nat} {f : Int → Int} (h : MapAt w b n f) (hb : Below w.heap.size w w') : MapAt w' b n f :=
  h.kept (row := none) ⟨hb.os, hb.tape, hb.output, hb.size, fun k hk _ => hb.block k hk⟩ (by simp)
theorem MapAt.lt {w : World} {b n : Nat} {f : Int → Int} (h : MapAt w b n f) : b < w.heap.size := by
  obtain ⟨D, h1, h2⟩ := h.out
  exact h1.lt
def upd (f : Int → Int) (x c : Int) : Int → Int := fun y => if y = x then c else f y
theorem lit_inj {a b : Int} (h : (DataW.lit (.int .i64 a) : DataW Unit) = .lit (.int .i64 b)) : a = b := by injection h with h; injection h

/-- 'm[x]' where m is such a map. -/
theorem wpList_look {w : World} {ops : Array Oper} {rest : List Oper} {o : Oper} {a : Act} {Q : Exit → Act → World → Prop}
    (hg : o.guard = none) (m x : Operand) (hop : o.op = Op.lookup 45 m x false) (b n : Nat) (f : Int → Int) (key : Int)
    (hm : a.eval m = .map (some b)) (hown : MapAt w b n f) (hx : a.eval x = .int .i64 key) (hwf : (Lit.int .i64 key).wf = true)
    (hK : wpList Try.prog ops Q rest (a.put o.dst (.int .i64 (f key))) w) : wpList Try.prog ops Q (o :: rest) a w := by
  obtain ⟨D, h1, h2, h3, h4⟩ := hown.out
  refine wpList_lookup_own_int w hg m x 45 hop 3 3 .i64 law_int Try.underlying45 Try.underlying3 (zero_int _) b n D hm h1 _ (ki key) hx (keyOf_int_mk Try.underlying3 hwf) (fun c hc _ => ?_)
  rw [h3] at hc
  rw [← lit_inj hc]
  exact hK
/-- 'm[x] = c', c not 0. -/
theorem wpList_put {w : World} {ops : Array Oper} {rest : List Oper} {o : Oper} {a : Act} {Q : Exit → Act → World → Prop}
    (hg : o.guard = none) (m x v : Operand) (hop : o.op = Op.mapUpdate 45 m x v) (b n : Nat) (f : Int → Int) (key c : Int)
    (hm : a.eval m = .map (some b)) (hown : MapAt w b n f) (hn : n < 1000000000) (hx : a.eval x = .int .i64 key) (hwf : (Lit.int .i64 key).wf = true) (hv : a.eval v = .int .i64 c) (hwc : (Lit.int .i64 c).wf = true) (hc : c ≠ 0)
    (hK : ∀ w', MapAt w' b (n + 1) (upd f key c) → w.grownBy w' (some b) → wpList Try.prog ops Q rest (a.put o.dst undef) w') : wpList Try.prog ops Q (o :: rest) a w := by
  obtain ⟨D, h1, h2, h3, h4⟩ := hown.out
  refine wpList_mapUpdate_own w hg m x v 45 hop 3 3 law_int Try.underlying45 _ b n D hm h1 (by unfold maxLen; omega) _ _ (ki key) hx hv (keyOf_int_mk Try.underlying3 hwf) _ [] (plainElem_int Try.underlying3 hwc) (fun w' h5 h6 => hK w' ⟨_, h5, h2.put _ _, fun y => ?_, fun y => ?_⟩ h6)
  · unfold upd
    by_cases hy : y = key
    · subst hy; rw [if_pos rfl]; exact atKey_put_same (k := ki y) h2 trivial _ _
    · rw [if_neg hy, atKey_put_other (by intro e; injection e with _ e; exact hy e)]; exact h3 y
  · unfold upd
    by_cases hy : y = key
    · subst hy; rw [if_pos rfl, has_put_same (k := ki y) h2 trivial]; simp [hc]
    · rw [if_neg hy, has_put_other (by intro e; injection e with _ e; exact hy e)]; exact h4 y

namespace SP
/-- How many of the lists have a number. -/
def cnt (R : List (List Int)) (x : Int) : Int := ((R.filter fun l => decide (x ∈ l)).length : Nat)
/-- .. when the first k lists, and j elements of the next one, have been seen. -/
def cntTo (R : List (List Int)) (k j : Nat) (x : Int) : Int := cnt (R.take k) x + if x ∈ (R.getD k []).take j then 1 else 0
theorem cnt_nonneg (R : List (List Int)) (x : Int) : 0 ≤ cnt R x := by unfold cnt; omega
theorem cnt_le (R : List (List Int)) (x : Int) : cnt R x ≤ R.length := by unfold cnt; have := List.length_filter_le (fun l => decide (x ∈ l)) R; omega
theorem cnt_snoc (R : List (List Int)) (l : List Int) (x : Int) : cnt (R ++ [l]) x = cnt R x + if x ∈ l then 1 else 0 := by
  unfold cnt
  rw [List.filter_append, List.length_append]
  by_cases h : x ∈ l <;> simp [h]
theorem cntTo_zero (R : List (List Int)) (k : Nat) (x : Int) : cntTo R k 0 x = cnt (R.take k) x := by simp [cntTo]
theorem cntTo_all (R : List (List Int)) (k : Nat) (hk : k < R.length) (j : Nat) (hj : R[k].length ≤ j) (x : Int) : cntTo R k j x = cnt (R.take (k + 1)) x := by
  unfold cntTo
  rw [List.take_add_one, List.getElem?_eq_getElem hk]
  simp only [Option.toList_some, cnt_snoc, List.getD, List.getElem?_eq_getElem hk, Option.getD_some]
  rw [List.take_of_length_le hj]
/-- The last list in which a number was seen, and 1; 0, if there is none. -/
structure Last (R : List (List Int)) (k j : Nat) (f : Int → Int) : Prop where
  here : ∀ x, f x = (k : Int) + 1 ↔ x ∈ (R.getD k []).take j
  low : ∀ x, 0 ≤ f x ∧ f x ≤ (k : Int) + 1
theorem Last.zero (R : List (List Int)) : Last R 0 0 (fun _ => 0) := ⟨fun x => by simp, fun x => by simp⟩
theorem Last.next {R : List (List Int)} {k j : Nat} {f : Int → Int} (h : Last R k j f) : Last R (k + 1) 0 f :=
  ⟨fun x => by have := h.low x; simp; omega, fun x => by have := h.low x; push_cast; omega⟩
theorem take_snoc {l : List Int} {j : Nat} (hj : j < l.length) (x : Int) : x ∈ l.take (j + 1) ↔ x ∈ l.take j ∨ x = l[j] := by
  rw [List.take_add_one, List.getElem?_eq_getElem hj]; simp only [Option.toList_some, List.mem_append, List.mem_singleton]
theorem Last.seen {R : List (List Int)} {k j : Nat} {f : Int → Int} (h : Last R k j f) (hj : j < (R.getD k []).length) (hx : f (R.getD k [])[j] = (k : Int) + 1) : Last R k (j + 1) f ∧ ∀ x, cntTo R k (j + 1) x = cntTo R k j x := by
  have hm := (h.here _).1 hx
  have key : ∀ x, x ∈ (R.getD k []).take (j + 1) ↔ x ∈ (R.getD k []).take j := fun x => by
    rw [take_snoc hj]
    constructor
    · rintro (h | rfl)
      · exact h
      · exact hm
    · exact .inl
  exact ⟨⟨fun x => by rw [key]; exact h.here x, h.low⟩, fun x => by unfold cntTo; simp only [key]⟩
theorem Last.new {R : List (List Int)} {k j : Nat} {f : Int → Int} (h : Last R k j f) (hj : j < (R.getD k []).length) (hx : f (R.getD k [])[j] ≠ (k : Int) + 1) :
    Last R k (j + 1) (upd f (R.getD k [])[j] ((k : Int) + 1)) ∧ upd (cntTo R k j) (R.getD k [])[j] (cntTo R k j (R.getD k [])[j] + 1) = cntTo R k (j + 1) := by
  have hm : (R.getD k [])[j] ∉ (R.getD k []).take j := fun hm => hx ((h.here _).2 hm)
  generalize hl : (R.getD k [])[j] = y at *
  refine ⟨⟨fun x => ?_, fun x => ?_⟩, funext fun x => ?_⟩
  · rw [take_snoc hj, hl]
    unfold upd
    by_cases hxy : x = y
    · subst hxy; simp
    · rw [if_neg hxy, h.here x]; simp [hxy]
  · unfold upd; have := h.low x; split <;> omega
  · unfold upd cntTo
    by_cases hxy : x = y
    · subst hxy; rw [if_pos rfl, if_neg hm, if_pos ((take_snoc hj _).2 (.inr hl.symm))]; omega
    · rw [if_neg hxy]
      have : x ∈ (R.getD k []).take (j + 1) ↔ x ∈ (R.getD k []).take j := by rw [take_snoc hj, hl]; simp [hxy]
      simp only [this]
theorem cnt_pos {R : List (List Int)} {x : Int} : cnt R x ≠ 0 ↔ ∃ l ∈ R, x ∈ l := by
  unfold cnt
  constructor
  · intro h
    have : (R.filter fun l => decide (x ∈ l)) ≠ [] := by rintro e; rw [e] at h; simp at h
    obtain ⟨l, hl⟩ := List.exists_mem_of_ne_nil _ this
    have := List.mem_filter.1 hl
    exact ⟨l, this.1, by simpa using this.2⟩
  · rintro ⟨l, h1, h2⟩ h
    have : l ∈ R.filter fun l => decide (x ∈ l) := List.mem_filter.2 ⟨h1, by simpa using h2⟩
    have := List.length_pos_of_mem this
    omega
/-- The keys that have come, and that are kept. -/
def Coll (f : Int → Int) (K : Int → Int → Bool) (left : Lit → Bool) (L : List Int) : Prop := L.Nodup ∧ ∀ x, x ∈ L ↔ (f x ≠ 0 ∧ left (ki x) = false ∧ K x (f x) = true)
theorem Coll.yes {f : Int → Int} {K : Int → Int → Bool} {left : Lit → Bool} {L : List Int} (h : Coll f K left L) {x : Int} (hl : left (ki x) = true) (hf : f x ≠ 0) (hK : K x (f x) = true) : Coll f K (fun z => left z && !z.sameKey (ki x)) (L ++ [x]) := by
  have hnew : x ∉ L := fun hx => by have := ((h.2 x).1 hx).2.1; rw [hl] at this; cases this
  refine ⟨List.nodup_append.2 ⟨h.1, by simp, fun a ha b hb => by simp at hb; subst hb; exact fun e => hnew (e ▸ ha)⟩, fun y => ?_⟩
  by_cases hy : y = x
  · subst hy; simp [hf, hK, Lit.sameKey]
  · simp [h.2 y, hy, Lit.sameKey]
theorem Coll.no {f : Int → Int} {K : Int → Int → Bool} {left : Lit → Bool} {L : List Int} (h : Coll f K left L) {x : Int} (hl : left (ki x) = true) (hK : K x (f x) = false) : Coll f K (fun z => left z && !z.sameKey (ki x)) L := by
  refine ⟨h.1, fun y => ?_⟩
  by_cases hy : y = x
  · subst hy; simp [h.2 y, hK]
  · simp [h.2 y, hy, Lit.sameKey]
/-- The set of the elements that are kept. -/
def chosen (K : Int → Int → Bool) (R : List (List Int)) : List Int := norm (R.flatten.filter fun x => K x (cnt R x))
theorem Coll.done {K : Int → Int → Bool} {R : List (List Int)} {left : Lit → Bool} {L : List Int} (h : Coll (cnt R) K left L) (hl : ∀ kl, left kl = false) : (L.mergeSort fun x y => decide (x ≤ y)) = chosen K R :=
  sorted_norm h.1 fun x => by
    rw [h.2 x, hl, List.mem_filter, List.mem_flatten, cnt_pos]
    simp
end SP
end Go.Proofs.Ytamhhbgakaokgaa
