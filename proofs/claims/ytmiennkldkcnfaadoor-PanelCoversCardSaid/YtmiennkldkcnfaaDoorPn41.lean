/- What is left of the pixels that differ, in memory; one row that is cut. No conditions. -/
import Derived.Test.YtmiennkldkcnfaaDoorPn39
import Derived.Test.YtmiennkldkcnfaaDoorPn40
import Derived.Test.YtmiennkldkcnfaaDoorPn18
namespace Go.Proofs.YtmiennkldkcnfaaDoor
set_option maxRecDepth 100000
set_option linter.unusedVariables false
open Go.ChangeShapes Go.WideShapes Go.ChangeAt Go.RowKit Go.Joins Go.Deep
theorem cov_next {D R : List Nat} {l : List Rc} {x y cw ch p a : Nat} (h : CovI D l ⟨x, y, cw, ch⟩ (p - y) R a) (hy : y ≤ p) (hp : p < y + ch) (ho : ∀ c' ∈ l, 0 ≤ c'.y ∧ c'.y + c'.h ≤ (y : Int)) (hc : wiP ⟨x, y, cw, ch⟩ 64 R.length) :
    CovI D l ⟨x, y, cw, ch⟩ (p + 1 - y) (R.set p (R.getD p 0 &&& (18446744073709551615 - PN.shl (PN.cutb (R.getD p 0) x cw) x))) (a ||| PN.cutb (R.getD p 0) x cw) := by
  have k := h.next (by simp only [Int.toNat_natCast]; omega) ho hc
  simp only [Int.toNat_natCast] at k
  rw [show y + (p - y) = p by omega, show p - y + 1 = p + 1 - y by omega] at k
  exact k
theorem cov_some {D R : List Nat} {l : List Rc} {x y cw ch p a : Nat} (h : CovI D l ⟨x, y, cw, ch⟩ (p - y) R a) (hy : y ≤ p) (hp : p < y + ch) (ho : ∀ c' ∈ l, 0 ≤ c'.y ∧ c'.y + c'.h ≤ (y : Int)) (hc : wiP ⟨x, y, cw, ch⟩ 64 R.length) (ht : PN.Tight D ⟨x, y, cw, ch⟩) (h0 : PN.cutb (R.getD p 0) x cw = 0) : p ≠ y ∧ p + 1 ≠ y + ch := by
  have k := h.some (by simp only [Int.toNat_natCast]; omega) ho hc ht
  simp only [Int.toNat_natCast] at k
  rw [show y + (p - y) = p by omega] at k
  constructor
  · intro e
    exact k (by omega) h0
  · intro e
    exact k (by omega) h0
theorem cov_last {D R : List Nat} {l : List Rc} {x y cw ch e a : Nat} (h : CovI D l ⟨x, y, cw, ch⟩ (e - y) R a) (he : y + ch = e) (ht : PN.Tight D ⟨x, y, cw, ch⟩) : Cov D (l ++ [⟨x, y, cw, ch⟩]) R ∧ a.testBit 0 = true ∧ a.testBit (cw - 1) = true := by
  have k : CovI D l ⟨x, y, cw, ch⟩ (Rc.h ⟨x, y, cw, ch⟩).toNat R a := by
    simp only [Int.toNat_natCast]
    rw [show e - y = ch by omega] at h
    exact h
  have k3 := k.right ht
  simp only [Int.toNat_natCast] at k3
  exact ⟨k.last, k.left ht, k3⟩
theorem cutL_one {R : List Nat} {x p cw : Nat} (hx : x + cw ≤ 64) (hw : 1 ≤ cw) (hp : p < R.length) : cutL R ⟨x, p, cw, 1⟩ = [PN.cutb (R.getD p 0) x cw] := by
  unfold cutL
  rw [if_pos (by unfold wiP; dsimp only; omega)]
  rfl
theorem rcut_one (W : World) (R : List Nat) (v : Value) {x p cw : Nat} (hx : x + cw ≤ 64) (hw : 1 ≤ cw) (hp : p < R.length) (hv : UA W v R) (hl : R.length ≤ 1000000) (hr : ∀ x ∈ R, x < 18446744073709551616) :
    Calls Tryd.prog 26 #[v, rcV ⟨x, p, cw, 1⟩] W fun e w' => ∃ q c, e = .returned (.slice (some ⟨q, 0, none⟩) 1 c) ∧ w'.cell? ⟨q, 0, none⟩ = some (U6 (PN.cutb (R.getD p 0) x cw)) ∧ W.heap.size ≤ q ∧ Below W.heap.size W w' := by
  have h := rcut_any W R v ⟨x, p, cw, 1⟩ (by unfold rcOk; dsimp only; omega) hv hl hr
  rw [cutL_one hx hw hp] at h
  refine h.mono fun e w' ⟨v', h1, h2, h3⟩ => ?_
  obtain ⟨q, c, rfl, e2, e3, e4⟩ := own_q h2 (by simp)
  exact ⟨q, c, h1, ua_own h2 rfl, e2, h3⟩
/-- Rows in a block. -/
structure Rs (U : World) (Q : Nat) (R : List Nat) : Prop where
  hd : U.heap[Q]? = some (.cells (R.map U6).toArray 63 (0, 0))
section
variable {U V : World} {Q : Nat} {R : List Nat}
theorem Rs.below (h : Rs U Q R) (hb : Below U.heap.size U V) : Rs V Q R := ⟨(hb.block Q (Array.getElem?_eq_some_iff.1 h.hd).1).trans h.hd⟩
theorem Rs.ua (h : Rs U Q R) {n : Nat} (hn : R.length = n) : UA U (.slice (some ⟨Q, 0, none⟩) n n) R := by
  subst hn
  exact ⟨some ⟨Q, 0, none⟩, R.length, rfl, by simp, .inr ⟨Q, 0, rfl, (Array.getElem?_eq_some_iff.1 h.hd).1, fun j u hu => by rw [Nat.zero_add]; exact nd_cell h.hd (by rw [List.getElem?_toArray]; exact hu)⟩⟩
theorem Rs.cell (h : Rs U Q R) {k x : Nat} (hk : R[k]? = some x) : U.cell? ⟨Q, k, none⟩ = some (U6 x) := nd_cell h.hd (by simp [hk])
theorem Rs.froz (h : Rs U Q R) (k : Nat) : U.frozen? ⟨Q, k, none⟩ = false := nd_froz h.hd k
theorem Rs.set (h : Rs U Q R) (k o : Nat) : Rs (U.setCell ⟨Q, k, none⟩ (U6 o)) Q (R.set k o) := ⟨by rw [heap_setCell_same _ Q k _ _ _ h.hd, PN.set_u64]⟩
end
theorem ua_made (w : World) (n : Nat) : UA (w.alloc (.cells ((List.replicate n (0 : Nat)).map U6).toArray 63)) (.slice (some ⟨w.heap.size, 0, none⟩) n n) (List.replicate n 0) := by
  have h := srcN_new (k := 1) w ((List.replicate n (0 : Nat)).map U6) 63 n n (by simp)
  unfold UA
  rw [List.length_replicate]
  exact h
theorem bit_and (a m : Nat) (ha : a < 2 ^ 64) (h : a.testBit m = true) : bits .and .u64 ((a / 2 ^ m : Nat) : Int) 1 = 1 := by
  have hlt : a / 2 ^ m < 18446744073709551616 := Nat.lt_of_le_of_lt (Nat.div_le_self _ _) ha
  have hb := u64_and_nat (a / 2 ^ m) 1 hlt (by decide)
  have hm : (a / 2 ^ m) &&& 1 = a / 2 ^ m % 2 := Nat.and_one_is_mod _
  have ht : a.testBit m = decide (a / 2 ^ m % 2 = 1) := Nat.testBit_eq_decide_div_mod_eq
  rw [h] at ht
  have h1 : a / 2 ^ m % 2 = 1 := of_decide_eq_true ht.symm
  rw [hm, h1] at hb
  exact hb
theorem ord_take {l : List Rc} (h : PN.Ord l) {k : Nat} {r : Rc} (hk : l[k]? = some r) : ∀ c' ∈ l.take k, 0 ≤ c'.y ∧ c'.y + c'.h ≤ r.y := fun c' hc => by
  obtain ⟨j, hj⟩ := List.mem_iff_getElem?.1 hc
  rw [List.getElem?_take] at hj
  split at hj
  · rename_i hjk
    obtain ⟨h1, h2⟩ := List.getElem?_eq_some_iff.1 hj
    obtain ⟨h3, h4⟩ := List.getElem?_eq_some_iff.1 hk
    have := List.pairwise_iff_getElem.1 h.1 j k h1 h3 hjk
    rw [h2, h4] at this
    exact ⟨(h.2 c' (List.mem_of_getElem? hj)).1, this⟩
  · cases hj
theorem ord_next {l : List Rc} (h : PN.Ord l) {k : Nat} {r c : Rc} (hk : l[k]? = some r) (hc : l[k + 1]? = some c) : r.y + r.h ≤ c.y := by
  obtain ⟨h1, h2⟩ := List.getElem?_eq_some_iff.1 hk
  obtain ⟨h3, h4⟩ := List.getElem?_eq_some_iff.1 hc
  have := List.pairwise_iff_getElem.1 h.1 k (k + 1) h1 h3 (by omega)
  rw [h2, h4] at this
  exact this
theorem xor_mask {x y w : Nat} (hx : x < 2 ^ w) (hy : y < 2 ^ w) : (x ^^^ y) &&& (2 ^ w - 1) = x ^^^ y := by
  rw [Nat.and_two_pow_sub_one_eq_mod]
  exact Nat.mod_eq_of_lt (Nat.xor_lt_two_pow hx hy)
end Go.Proofs.YtmiennkldkcnfaaDoor
