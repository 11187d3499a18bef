/- The set of the elements that a function keeps. -/
import Derived.Test.YtamhhbgakaokgaaSetMap
namespace Go.Proofs.Ytamhhbgakaokgaa
open Go.RowKit Go.Maps Go.Sort
theorem own_base {w : World} {B B' e n : Nat} {v : Value} {xs : List Value} (h : w.ownsRow B e 1 v n xs) (hB : B' ≤ B) : w.ownsRow B' e 1 v n xs := by
  refine ⟨h.1, ?_⟩
  rcases h.2 with h1 | ⟨g, cap, cur, rfl, hb, rest⟩
  · exact .inl h1
  · exact .inr ⟨g, cap, cur, rfl, Nat.le_trans hB hb, rest⟩
/-- The rows of a list of lists. -/
def Rows2 (w : World) (vs : List Value) (R : List (List Int)) : Prop := vs.length = R.length ∧ ∀ i (h : i < R.length) (h2 : i < vs.length), ∃ a c, vs[i] = .slice a R[i].length c ∧ RowAt w vs[i] (iv R[i])
theorem SP.cntTo_bd (R : List (List Int)) (k j : Nat) (x : Int) : 0 ≤ SP.cntTo R k j x ∧ SP.cntTo R k j x ≤ (k : Int) + 1 := by
  unfold SP.cntTo
  have h1 := SP.cnt_nonneg (R.take k) x
  have h2 := SP.cnt_le (R.take k) x
  have h3 : (R.take k).length ≤ k := by simp; omega
  split <;> omega
theorem Rows2.keep {w w' : World} {vs : List Value} {R : List (List Int)} (h : Rows2 w vs R) (hb : Below w.heap.size w w') : Rows2 w' vs R :=
  ⟨h.1, fun i hi h2 => by obtain ⟨a, c, e, hr⟩ := h.2 i hi h2; exact ⟨a, c, e, hr.keep hb⟩⟩
def Wf (R : List (List Int)) : Prop := ∀ l ∈ R, l.length ≤ 1000000 ∧ ∀ x ∈ l, (Lit.int .i64 x).wf = true
def Inner (w : World) (R : List (List Int)) (k : Nat) (i : Value) (wr : World) : Prop := ∃ (j n1 n2 : Nat) (f : Int → Int), j ≤ (R.getD k []).length ∧ i = .int .i64 j ∧ MapAt wr w.heap.size n1 (SP.cntTo R k j) ∧ MapAt wr (w.heap.size + 1) n2 f ∧ SP.Last R k j f ∧ n1 ≤ k * 1000000 + j ∧ n2 ≤ k * 1000000 + j ∧ Below w.heap.size w wr
theorem Inner.out {w : World} {R : List (List Int)} {k : Nat} {i : Value} {wr : World} (h : Inner w R k i wr) : ∃ (j n1 n2 : Nat) (f : Int → Int), j ≤ (R.getD k []).length ∧ i = .int .i64 j ∧ MapAt wr w.heap.size n1 (SP.cntTo R k j) ∧ MapAt wr (w.heap.size + 1) n2 f ∧ SP.Last R k j f ∧ n1 ≤ k * 1000000 + j ∧ n2 ≤ k * 1000000 + j ∧ Below w.heap.size w wr := h
def Outer (w : World) (R : List (List Int)) (i : Value) (wr : World) : Prop := ∃ (k n1 n2 : Nat) (f : Int → Int), k ≤ R.length ∧ i = .int .i64 k ∧ MapAt wr w.heap.size n1 (SP.cnt (R.take k)) ∧ MapAt wr (w.heap.size + 1) n2 f ∧ SP.Last R k 0 f ∧ n1 ≤ k * 1000000 ∧ n2 ≤ k * 1000000 ∧ Below w.heap.size w wr
theorem Outer.out {w : World} {R : List (List Int)} {i : Value} {wr : World} (h : Outer w R i wr) : ∃ (k n1 n2 : Nat) (f : Int → Int), k ≤ R.length ∧ i = .int .i64 k ∧ MapAt wr w.heap.size n1 (SP.cnt (R.take k)) ∧ MapAt wr (w.heap.size + 1) n2 f ∧ SP.Last R k 0 f ∧ n1 ≤ k * 1000000 ∧ n2 ≤ k * 1000000 ∧ Below w.heap.size w wr := h
theorem Outer.start (w : World) (R : List (List Int)) : Outer w R (.int .i64 0) ((w.alloc (.map #[] 0)).alloc (.map #[] 0)) :=
  ⟨0, 0, 0, fun _ => 0, Nat.zero_le _, rfl, by
    have := (MapAt.made w).keep (balloc (Below.refl _ _) (.map #[] 0))
    exact (by simpa [SP.cnt] using (funext fun x => by simp [SP.cnt] : SP.cnt (R.take 0) = fun _ => 0) ▸ this), by
    have := MapAt.made (w.alloc (.map #[] 0))
    simpa using this, SP.Last.zero R, by omega, by omega, balloc (balloc (Below.refl _ _) _) _⟩
set_option maxRecDepth 100000 in
theorem Outer.inner {w : World} {R : List (List Int)} {k n1 n2 : Nat} {f : Int → Int} {wr : World} (h1 : MapAt wr w.heap.size n1 (SP.cnt (R.take k))) (h2 : MapAt wr (w.heap.size + 1) n2 f) (h3 : SP.Last R k 0 f) (h4 : n1 ≤ k * 1000000) (h5 : n2 ≤ k * 1000000) (h6 : Below w.heap.size w wr) : Inner w R k (.int .i64 0) wr :=
  ⟨0, n1, n2, f, Nat.zero_le _, rfl, by rw [show SP.cntTo R k 0 = SP.cnt (R.take k) from funext (SP.cntTo_zero R k)]; exact h1, h2, h3, Nat.le_trans h4 (Nat.le_add_right _ _), Nat.le_trans h5 (Nat.le_add_right _ _), h6⟩
set_option maxRecDepth 100000 in
theorem Inner.seen {w : World} {R : List (List Int)} {k j n1 n2 : Nat} {f : Int → Int} {wr : World} (h1 : MapAt wr w.heap.size n1 (SP.cntTo R k j)) (h2 : MapAt wr (w.heap.size + 1) n2 f) (h3 : SP.Last R k j f) (h4 : n1 ≤ k * 1000000 + j) (h5 : n2 ≤ k * 1000000 + j) (h6 : Below w.heap.size w wr)
    (hj : j < (R.getD k []).length) (hx : f (R.getD k [])[j] = (k : Int) + 1) : Inner w R k (.int .i64 ((j : Int) + 1)) wr := by
  obtain ⟨a, b⟩ := h3.seen hj hx
  exact ⟨j + 1, n1, n2, f, by omega, by go_num, by rw [show SP.cntTo R k (j + 1) = SP.cntTo R k j from funext b]; exact h1, h2, a, by omega, by omega, h6⟩
set_option maxRecDepth 100000 in
theorem Inner.new {w : World} {R : List (List Int)} {k j n1 n2 : Nat} {f : Int → Int} {wr w1 w2 : World} (h1 : MapAt wr w.heap.size n1 (SP.cntTo R k j)) (h3 : SP.Last R k j f) (h4 : n1 ≤ k * 1000000 + j) (h5 : n2 ≤ k * 1000000 + j) (h6 : Below w.heap.size w wr)
    (hj : j < (R.getD k []).length) (hx : f (R.getD k [])[j] ≠ (k : Int) + 1) (g1 : wr.grownBy w1 (some (w.heap.size + 1))) (m1 : MapAt w1 (w.heap.size + 1) (n2 + 1) (upd f (R.getD k [])[j] ((k : Int) + 1)))
    (g2 : w1.grownBy w2 (some w.heap.size)) (m2 : MapAt w2 w.heap.size (n1 + 1) (upd (SP.cntTo R k j) (R.getD k [])[j] (SP.cntTo R k j (R.getD k [])[j] + 1))) : Inner w R k (.int .i64 ((j : Int) + 1)) w2 := by
  obtain ⟨a, b⟩ := h3.new hj hx
  refine ⟨j + 1, n1 + 1, n2 + 1, _, by omega, by go_num, by rw [← b]; exact m2, m1.kept g2 (by simp), a, by omega, by omega, ?_⟩
  exact (h6.grown g1 h6.size (fun i hi => by cases hi; omega)).grown g2 (by have := h6.size; have := g1.size; omega) (fun i hi => by cases hi; exact Nat.le_refl _)
set_option maxRecDepth 100000 in
theorem Inner.done {w : World} {R : List (List Int)} {k j n1 n2 : Nat} {f : Int → Int} {wr : World} (h1 : MapAt wr w.heap.size n1 (SP.cntTo R k j)) (h2 : MapAt wr (w.heap.size + 1) n2 f) (h3 : SP.Last R k j f) (h4 : n1 ≤ k * 1000000 + j) (h5 : n2 ≤ k * 1000000 + j) (h6 : Below w.heap.size w wr)
    (hk : k < R.length) (hl : R[k].length ≤ 1000000) (hj : j = (R.getD k []).length) : Outer w R (.int .i64 ((k : Int) + 1)) wr := by
  have hg : R.getD k [] = R[k] := by simp [List.getD, hk]
  rw [hg] at hj
  exact ⟨k + 1, n1, n2, f, by omega, by go_num, by rw [← show SP.cntTo R k j = SP.cnt (R.take (k + 1)) from funext (SP.cntTo_all R k hk j (by omega))]; exact h1, h2, h3.next, by omega, by omega, h6⟩
def Collected (w0 : World) (n : Nat) (b : Nat) (D : DataW Unit) (f : Int → Int) (K : Int → Int → Bool) (w : World) (v : Value) (wr : World) : Prop := ∃ (left : Lit → Bool) (c : Nat) (L : List Int), wr.ranges Try.prog 3 (plainElem Try.prog 3) b w0.heap.size n D left c ∧ wr.ownsRow w0.heap.size 3 1 v L.length (iv L) ∧ SP.Coll f K left L ∧ L.length + c ≤ n ∧ w0.heap.size < wr.heap.size ∧ Below w.heap.size w wr
theorem Collected.out {w0 : World} {n b : Nat} {D : DataW Unit} {f : Int → Int} {K : Int → Int → Bool} {w : World} {v : Value} {wr : World} (h : Collected w0 n b D f K w v wr) : ∃ (left : Lit → Bool) (c : Nat) (L : List Int), wr.ranges Try.prog 3 (plainElem Try.prog 3) b w0.heap.size n D left c ∧ wr.ownsRow w0.heap.size 3 1 v L.length (iv L) ∧ SP.Coll f K left L ∧ L.length + c ≤ n ∧ w0.heap.size < wr.heap.size ∧ Below w.heap.size w wr := h
end Go.Proofs.Ytamhhbgakaokgaa
