/- The queue's methods. No conditions. -/
import Derived.Test.YtgphdgalcbcamaaLn0
import Derived.BigRegion
namespace Go.Proofs.Ytgphdgalcbcamaa
set_option maxRecDepth 100000
set_option linter.unusedVariables false
open Go.RowKit Go.Deep
/-- Lines: how many nodes, the script, how many were sent, what waits, in the order of the heap. -/
structure Qu (W : World) (M : Nat) (nd : Int) (sc : Value) (k : Int) (v : Value) (A : List Pc) : Prop where
  blk : W.heap[M]? = some (.cells #[.int .i64 nd, sc, .int .i64 k, v] 59 (0, 0))
  row : W.ownsRow (M + 1) 70 5 v A.length (pcs A)
/-- One parcel comes before another one. -/
def ltB (p q : Pc) : Bool := if p.t = q.t then decide (p.n < q.n) else decide (p.t < q.t)
abbrev qp (M : Nat) : Value := .pointer (some ⟨M, 3, none⟩)
theorem Qu.c3 {W : World} {M : Nat} {nd k : Int} {sc v : Value} {A : List Pc} (h : Qu W M nd sc k v A) : W.cell? ⟨M, 3, none⟩ = some v := nd_cell h.blk rfl
set_option maxHeartbeats 1000000 in
theorem len_any (W : World) (M : Nat) (nd : Int) (sc : Value) (k : Int) (v : Value) (A : List Pc) (h : Qu W M nd sc k v A) (n : Nat) (hn : A.length = n) :
    Calls Try.prog 50 #[qp M] W fun x w' => x = .returned (.int .i64 (n : Int)) ∧ w' = W := by
  have c3 := h.c3
  obtain ⟨a, c, rfl⟩ := own_shape h.row
  rw [hn] at c3
  clear hn h
  go_enter Try.func50, Try.ntmps50
  go_wp2
  go_ret
  exact ⟨rfl, rfl⟩
set_option maxHeartbeats 1000000 in
theorem empty_any (W : World) (M : Nat) (nd : Int) (sc : Value) (k : Int) (v : Value) (A : List Pc) (h : Qu W M nd sc k v A) (n : Nat) (hn : A.length = n) :
    Calls Try.prog 55 #[qp M] W fun x w' => x = .returned (.bool ((n : Int) == 0)) ∧ w' = W := by
  have c3 := h.c3
  obtain ⟨a, c, rfl⟩ := own_shape h.row
  rw [hn] at c3
  obtain ⟨d, hd⟩ : ∃ d, ((n : Int) == 0) = d := ⟨_, rfl⟩
  rw [hd]
  clear hn h
  go_enter Try.func55, Try.ntmps55
  go_wp2
  go_ret
  exact ⟨rfl, rfl⟩
set_option maxHeartbeats 4000000 in
theorem less_any (W : World) (M : Nat) (nd : Int) (sc : Value) (k : Int) (v : Value) (A : List Pc) (h : Qu W M nd sc k v A) (i j : Nat) (p q : Pc) (hi : A[i]? = some p) (hj : A[j]? = some q) :
    Calls Try.prog 51 #[qp M, .int .i64 (i : Int), .int .i64 (j : Int)] W fun x w' => x = .returned (.bool (ltB p q)) ∧ Below W.heap.size W w' := by
  have c3 := h.c3
  obtain ⟨n, hn⟩ : ∃ n, A.length = n := ⟨_, rfl⟩
  have hr := h.row
  rw [hn] at hr
  obtain ⟨a, c, rfl⟩ := own_shape hr
  have hil := (List.getElem?_eq_some_iff.1 hi).1
  have hjl := (List.getElem?_eq_some_iff.1 hj).1
  rw [hn] at hil hjl
  obtain ⟨g, rfl, -, hgl, p0, p1, p2, p3, p4⟩ := pc_own hr hi hil
  have hMl : M < W.heap.size := (Array.getElem?_eq_some_iff.1 h.blk).1
  obtain ⟨g', e, -, -, q0, q1, q2, q3, q4⟩ := pc_own hr hj hjl
  obtain rfl : g = g' := by simpa using e
  have hi0 : (0 : Int) ≤ (i : Int) := by omega
  have hj0 : (0 : Int) ≤ (j : Int) := by omega
  have hi1 : (i : Int) < (n : Int) := by omega
  have hj1 : (j : Int) < (n : Int) := by omega
  clear hn hr h hi hj e
  by_cases ht : p.t = q.t
  · have hne : (p.t != q.t) = false := by simp [ht]
    have hlt : ltB p q = decide (p.n < q.n) := if_pos ht
    rw [hlt]
    clear hlt ht
    go_enter Try.func51, Try.ntmps51
    go_wp2_with fail
    go_region
    all_goals go_wp2
    all_goals go_ret
    all_goals exact ⟨rfl, Below.drew (balloc (balloc (Below.refl _ _) _) _)⟩
  · have hne : (p.t != q.t) = true := by simp [ht]
    have hlt : ltB p q = decide (p.t < q.t) := if_neg ht
    rw [hlt]
    clear hlt ht
    go_enter Try.func51, Try.ntmps51
    go_wp2_with fail
    go_region
    all_goals go_wp2
    all_goals go_ret
    all_goals exact ⟨rfl, Below.drew (balloc (balloc (Below.refl _ _) _) _)⟩
/-- What a store into the queue's row leaves. -/
theorem Qu.row_set {W V : World} {M : Nat} {nd k : Int} {sc v : Value} {A A' : List Pc} (h : Qu W M nd sc k v A) {g : Nat} (hg : M + 1 ≤ g) (hr : V.ownsRow (M + 1) 70 5 v A'.length (pcs A')) (hf : FrS (fun b => b = g) W V) : Qu V M nd sc k v A' :=
  ⟨hf.nd h.blk (by omega), hr⟩
set_option maxHeartbeats 4000000 in
theorem swap_any (W : World) (M : Nat) (nd : Int) (sc : Value) (k : Int) (v : Value) (A : List Pc) (h : Qu W M nd sc k v A) (i j : Nat) (p q : Pc) (hi : A[i]? = some p) (hj : A[j]? = some q) :
    Calls Try.prog 54 #[qp M, .int .i64 (i : Int), .int .i64 (j : Int)] W fun x w' => x = .returned (.tuple #[]) ∧ Qu w' M nd sc k v ((A.set i q).set j p) ∧ FrS (fun b => v.ownBlock = some b) W w' := by
  have c3 := h.c3
  obtain ⟨n, hn⟩ : ∃ n, A.length = n := ⟨_, rfl⟩
  have hr := h.row
  have hil := (List.getElem?_eq_some_iff.1 hi).1
  have hjl := (List.getElem?_eq_some_iff.1 hj).1
  rw [hn] at hr hil hjl
  obtain ⟨a, c, rfl⟩ := own_shape hr
  obtain ⟨g, rfl, hMg, hgl, p0, p1, p2, p3, p4⟩ := pc_own hr hi hil
  have hMl : M < W.heap.size := (Array.getElem?_eq_some_iff.1 h.blk).1
  obtain ⟨g', e, -, -, q0, q1, q2, q3, q4⟩ := pc_own hr hj hjl
  obtain rfl : g = g' := by simpa using e
  have hi0 : (0 : Int) ≤ (i : Int) := by omega
  have hj0 : (0 : Int) ≤ (j : Int) := by omega
  have hi1 : (i : Int) < (n : Int) := by omega
  have hj1 : (j : Int) < (n : Int) := by omega
  obtain ⟨V1, hV1, hr1, hf1⟩ := pc_set hr i (by omega) q
  obtain ⟨V2, hV2, hr2, hf2⟩ := pc_set hr1 j (by simp; omega) p
  have hdr := Below.drew (Below.refl V2.heap.size V2)
  have HF : Hid (FrS (fun b => (Value.slice (some ⟨g, 0, none⟩) n c).ownBlock = some b) W V2.drew) := Lib.hid (((hf1.trans hf2).then hdr).mono (fun b hb => by rw [hb]; rfl))
  have HQ : Hid (Qu V2.drew M nd sc k (.slice (some ⟨g, 0, none⟩) n c) ((A.set i q).set j p)) := Lib.hid ⟨((hf1.trans hf2).then hdr).nd h.blk (by omega), by rw [show ((A.set i q).set j p).length = n by simp [hn]]; exact own_below hr2 hdr⟩
  have fz : ∀ x, W.frozen? ⟨g, x, none⟩ = false := fun x => hr.frozenAt x
  have HV1 := Lib.hid hV1
  have HV2 := Lib.hid hV2
  have hpq : i = j → p = q := fun e => by subst e; rw [hi] at hj; exact Option.some.inj hj
  have HPQ := Lib.hid hpq
  clear hn h hi hj e hr1 hf1 hr2 hf2 hV1 hV2 hr hdr hpq
  rcases Nat.lt_trichotomy i j with hij | hij | hij
  · have hlt : (i : Int) < (j : Int) := by omega
    go_enter Try.func54, Try.ntmps54
    go_wp2_with fail
    go_region
    rw [HV1.out, HV2.out]
    go_end0
    exact ⟨rfl, HQ.out, HF.out⟩
  · subst hij
    obtain rfl := HPQ.out rfl
    go_enter Try.func54, Try.ntmps54
    go_wp2_with fail
    go_region
    rw [HV1.out, HV2.out]
    go_end0
    exact ⟨rfl, HQ.out, HF.out⟩
  · have hlt : (j : Int) < (i : Int) := by omega
    go_enter Try.func54, Try.ntmps54
    go_wp2_with fail
    go_region
    rw [HV1.out, HV2.out]
    go_end0
    exact ⟨rfl, HQ.out, HF.out⟩
end Go.Proofs.Ytgphdgalcbcamaa
