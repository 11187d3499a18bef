/- Lists of keys compared; memories that are nothing. No conditions. -/
import Derived.Test.YtmnajongifdajaaMem21
import Derived.Test.YtmnajongifdajaaMem20
namespace Go.Proofs.Ytmnajongifdajaa
set_option maxRecDepth 100000
set_option linter.unusedVariables false
open Go.RowKit Go.Deep ME
theorem ky_at {W : World} {n c : Nat} {a : Option Addr} {A : List K4} (h : SrcN 4 W (.slice a n c) n (ME.kc A)) {i : Nat} {k : K4} (hk : A[i]? = some k) (hi : i < n) :
    ∃ g o, a = some ⟨g, o, none⟩ ∧ W.cell? ⟨g, o + i * 4, none⟩ = some (.int .i64 k.1) ∧ W.cell? ⟨g, o + i * 4 + 1, none⟩ = some (.int .i64 k.2.1) ∧ W.cell? ⟨g, o + i * 4 + 2, none⟩ = some (.int .i64 k.2.2.1) ∧ W.cell? ⟨g, o + i * 4 + 3, none⟩ = some (.int .i64 k.2.2.2) := by
  obtain ⟨ao, c', e1, hl, h1⟩ := h
  injection e1 with e1 _ _
  subst e1
  rcases h1 with ⟨h1, _⟩ | ⟨g, o, rfl, hgl, hc⟩
  · omega
  · have q := fun (j : Nat) (u : Value) (hu : (ME.kyL k)[j]? = some u) => hc (i * 4 + j) u (flat_at ME.kyL_len A i k j u hk hu)
    exact ⟨g, o, rfl, q 0 _ rfl, q 1 _ rfl, q 2 _ rfl, q 3 _ rfl⟩
/-- The first i keys are the same. -/
def eqTo (A B : List K4) (i : Nat) : Prop := A.take i = B.take i
theorem eqTo_next {A B : List K4} {i : Nat} {x y : K4} (h : A.take i = B.take i) (hx : A[i]? = some x) (hy : B[i]? = some y) (e : x = y) : A.take (i + 1) = B.take (i + 1) := by
  rw [List.take_add_one, List.take_add_one, h, hx, hy, e]
set_option maxHeartbeats 2000000 in
theorem same_any (W : World) (va vb : Value) (A B : List K4) (ha : SrcN 4 W va A.length (ME.kc A)) (hb : SrcN 4 W vb B.length (ME.kc B)) (hla : A.length ≤ 1000000) (hlb : B.length ≤ 1000000) :
    Calls Try.prog 20 #[va, vb] W fun x w' => x = .returned (.bool (decide (A = B))) ∧ ∃ nq, w' = W.drewN nq := by
  obtain ⟨aa, ac, rfl, -⟩ := id ha
  obtain ⟨ba, bc, rfl, -⟩ := id hb
  obtain ⟨n, hn⟩ : ∃ n, A.length = n := ⟨_, rfl⟩
  obtain ⟨m, hm⟩ : ∃ m, B.length = m := ⟨_, rfl⟩
  have HNA := Lib.hid hn
  have HMB := Lib.hid hm
  rw [hn] at ha hla ⊢
  rw [hm] at hb hlb ⊢
  have HA := Lib.hid ha
  have HB := Lib.hid hb
  clear hn hm ha hb
  by_cases hnm : n = m
  · subst hnm
    have hne : ((n : Int) != (n : Int)) = false := by simp
    go_enter Try.func20, Try.ntmps20
    go_wp2
    go_loopw [5] (fun v wr => ∃ i : Nat, v = .int .i64 (i : Int) ∧ i ≤ n ∧ Hid (A.take i = B.take i) ∧ Hid (∃ nq, wr = W.drewN nq)) (fun v _ => n - (intOf v).toNat)
    case atStart => exact ⟨0, rfl, Nat.zero_le _, Lib.hid rfl, Lib.hid ⟨0, rfl⟩⟩
    case round =>
      obtain ⟨i, rfl, hi, HE, HQ⟩ := hrel
      obtain ⟨n0, rfl⟩ := HQ.out
      by_cases hin : i < n
      · have hii : (i : Int) < (n : Int) := by omega
        have hi0 : (0 : Int) ≤ (i : Int) := by omega
        obtain ⟨x, hx⟩ : ∃ x, A[i]? = some x := ⟨A[i]'(by rw [HNA.out]; exact hin), List.getElem?_eq_getElem _⟩
        obtain ⟨y, hy⟩ : ∃ y, B[i]? = some y := ⟨B[i]'(by rw [HMB.out]; exact hin), List.getElem?_eq_getElem _⟩
        obtain ⟨ga, oa, rfl, k0, k1, k2, k3⟩ := ky_at HA.out hx hin
        obtain ⟨gb, ob, rfl, l0, l1, l2, l3⟩ := ky_at HB.out hy hin
        obtain ⟨d, hd⟩ : ∃ d, decide (x = y) = d := ⟨_, rfl⟩
        have hneq : ∀ w, (binOp .neq 34 (.agg #[.int .i64 x.1, .int .i64 x.2.1, .int .i64 x.2.2.1, .int .i64 x.2.2.2]) (.agg #[.int .i64 y.1, .int .i64 y.2.1, .int .i64 y.2.2.1, .int .i64 y.2.2.2])).run Try.prog w = .ok (.bool (!d)) w := fun w => by rw [← hd]; exact neq_ow w x y
        have HX := Lib.hid hx
        have HY := Lib.hid hy
        have HD := Lib.hid hd
        clear hx hy hd
        go_wp2
        go_quiet (fail)
        cases d with
        | true =>
          have hxy : x = y := by simpa using HD.out
          have HN : Hid (A.take (i + 1) = B.take (i + 1)) := Lib.hid (eqTo_next HE.out HX.out HY.out hxy)
          clear hxy k0 k1 k2 k3 l0 l1 l2 l3
          go_wp2
          go_roundw
          case rel => exact ⟨i + 1, by go_num, hin, HN, Lib.hid ⟨n0 + nq, rfl⟩⟩
          case measure => simp [intOf]; omega
        | false =>
          have HF : Hid (decide (A = B) = false) := Lib.hid (by
            have hxy : ¬ x = y := by simpa using HD.out
            refine decide_eq_false fun e => hxy ?_
            have h1 := HX.out
            rw [e, HY.out] at h1
            exact (Option.some.inj h1).symm)
          clear k0 k1 k2 k3 l0 l1 l2 l3
          go_wp2
          go_ret
          exact ⟨by rw [HF.out]; rfl, n0 + nq, World.drewN_drewN _ _ _⟩
      · obtain rfl : n = i := by omega
        have HT : Hid (decide (A = B) = true) := Lib.hid (by
          refine decide_eq_true ?_
          have h1 := HE.out
          rw [List.take_of_length_le (by rw [HNA.out]; exact Nat.le_refl _), List.take_of_length_le (by rw [HMB.out]; exact Nat.le_refl _)] at h1
          exact h1)
        go_wp2
        go_ret
        exact ⟨by rw [HT.out]; rfl, _, rfl⟩
  · have hne : ((n : Int) != (m : Int)) = true := by simp; omega
    have HF : Hid (decide (A = B) = false) := Lib.hid (decide_eq_false fun e => hnm (by rw [← HNA.out, ← HMB.out, e]))
    go_enter Try.func20, Try.ntmps20
    go_wp2
    go_ret
    exact ⟨by rw [HF.out]; rfl, 0, rfl⟩
/-- A memory that is nothing: nil, or zero. -/
def NoM (W : World) (v : Value) : Prop := v = .pointer none ∨ ∃ b, v = ptr b ∧ W.heap[b]? = some (.cells #[.int .i64 0, .int .i64 0, .int .i64 0, .map none, .pointer none] 65 (0, 0))
theorem NoM.below {W W' : World} {v : Value} (h : NoM W v) (hb : Below W.heap.size W W') : NoM W' v := by
  rcases h with h | ⟨b, h, hh⟩
  · exact .inl h
  · exact .inr ⟨b, h, (hb.block b (Array.getElem?_eq_some_iff.1 hh).1).trans hh⟩
attribute [local go_sem] eqlmap_nil
set_option maxHeartbeats 1000000 in
theorem nzero_any (W : World) (v : Value) (h : NoM W v) : Calls Try.prog 32 #[v] W fun x w' => x = .returned (.bool true) ∧ w' = W := by
  rcases h with rfl | ⟨b, rfl, hb⟩
  · exact iszero_nil W
  · have c3 : W.cell? ⟨b, 3, none⟩ = some (.map none) := nd_cell hb rfl
    go_enter Try.func32, Try.ntmps32
    go_wp2
    go_ret
    exact ⟨rfl, rfl⟩
set_option maxHeartbeats 1000000 in
theorem nfind_any (W : World) (v : Value) (k : K4) (h : NoM W v) : Calls Try.prog 27 #[v, kyV k] W fun x w' => x = .returned (.pointer none) ∧ Below W.heap.size W w' := by
  have hb := balloc (Below.refl _ W) (.cells #[.int .i64 k.1, .int .i64 k.2.1, .int .i64 k.2.2.1, .int .i64 k.2.2.2] 34)
  have bx := heap_alloc_new W (.cells #[.int .i64 k.1, .int .i64 k.2.1, .int .i64 k.2.2.1, .int .i64 k.2.2.2] 34)
  obtain ⟨W1, hW1⟩ : ∃ W1, W.alloc (.cells #[.int .i64 k.1, .int .i64 k.2.1, .int .i64 k.2.2.1, .int .i64 k.2.2.2] 34) = W1 := ⟨_, rfl⟩
  rw [hW1] at bx hb
  have hv1 := h.below hb
  have HZ := Lib.hid (nzero_any W1 v hv1)
  have x0 : W1.cell? ⟨W.heap.size, 0, none⟩ = some (.int .i64 k.1) := nd_cell bx rfl
  have x1 : W1.cell? ⟨W.heap.size, 1, none⟩ = some (.int .i64 k.2.1) := nd_cell bx rfl
  have x2 : W1.cell? ⟨W.heap.size, 2, none⟩ = some (.int .i64 k.2.2.1) := nd_cell bx rfl
  have x3 : W1.cell? ⟨W.heap.size, 3, none⟩ = some (.int .i64 k.2.2.2) := nd_cell bx rfl
  have HW := Lib.hid hb
  clear hv1 h
  go_enter Try.func27, Try.ntmps27
  go_wp2_with fail
  try rw [hW1]
  go_at_call 32
  refine HZ.out.mono ?_
  rintro e w' ⟨rfl, he⟩
  have he' := he.symm
  subst he'
  clear hW1 bx hb x0 x1 x2 x3
  go_wp2
  go_ret
  exact ⟨rfl, HW.out⟩
set_option maxHeartbeats 1000000 in
theorem nuse_any (W : World) (v : Value) (k : K4) (h : NoM W v) : Calls Try.prog 14 #[v, kyV k] W fun x w' => x = .returned (.bool false) ∧ Below W.heap.size W w' := by
  have hb := balloc (Below.refl _ W) (.cells #[.int .i64 k.1, .int .i64 k.2.1, .int .i64 k.2.2.1, .int .i64 k.2.2.2] 34)
  have bx := heap_alloc_new W (.cells #[.int .i64 k.1, .int .i64 k.2.1, .int .i64 k.2.2.1, .int .i64 k.2.2.2] 34)
  obtain ⟨W1, hW1⟩ : ∃ W1, W.alloc (.cells #[.int .i64 k.1, .int .i64 k.2.1, .int .i64 k.2.2.1, .int .i64 k.2.2.2] 34) = W1 := ⟨_, rfl⟩
  rw [hW1] at bx hb
  have hv1 := h.below hb
  have HF := Lib.hid (nfind_any W1 v k hv1)
  have x0 : W1.cell? ⟨W.heap.size, 0, none⟩ = some (.int .i64 k.1) := nd_cell bx rfl
  have x1 : W1.cell? ⟨W.heap.size, 1, none⟩ = some (.int .i64 k.2.1) := nd_cell bx rfl
  have x2 : W1.cell? ⟨W.heap.size, 2, none⟩ = some (.int .i64 k.2.2.1) := nd_cell bx rfl
  have x3 : W1.cell? ⟨W.heap.size, 3, none⟩ = some (.int .i64 k.2.2.2) := nd_cell bx rfl
  have HW := Lib.hid hb
  clear hv1 h
  go_enter Try.func14, Try.ntmps14
  go_wp2_with fail
  try rw [hW1]
  go_at_call 27
  refine HF.out.mono ?_
  rintro e w2 ⟨rfl, hb2⟩
  have HB2 := Lib.hid (bnext HW.out hb2)
  clear hW1 bx hb x0 x1 x2 x3 hb2
  go_wp2
  go_ret
  exact ⟨rfl, HB2.out⟩
set_option maxHeartbeats 1000000 in
theorem npin_any (W : World) (v : Value) (k : K4) (on : Bool) (h : NoM W v) : Calls Try.prog 15 #[v, kyV k, .bool on] W fun x w' => x = .returned (.int .i64 5) ∧ Below W.heap.size W w' := by
  have hb := balloc (Below.refl _ W) (.cells #[.int .i64 k.1, .int .i64 k.2.1, .int .i64 k.2.2.1, .int .i64 k.2.2.2] 34)
  have bx := heap_alloc_new W (.cells #[.int .i64 k.1, .int .i64 k.2.1, .int .i64 k.2.2.1, .int .i64 k.2.2.2] 34)
  obtain ⟨W1, hW1⟩ : ∃ W1, W.alloc (.cells #[.int .i64 k.1, .int .i64 k.2.1, .int .i64 k.2.2.1, .int .i64 k.2.2.2] 34) = W1 := ⟨_, rfl⟩
  rw [hW1] at bx hb
  have hv1 := h.below hb
  have HF := Lib.hid (nfind_any W1 v k hv1)
  have x0 : W1.cell? ⟨W.heap.size, 0, none⟩ = some (.int .i64 k.1) := nd_cell bx rfl
  have x1 : W1.cell? ⟨W.heap.size, 1, none⟩ = some (.int .i64 k.2.1) := nd_cell bx rfl
  have x2 : W1.cell? ⟨W.heap.size, 2, none⟩ = some (.int .i64 k.2.2.1) := nd_cell bx rfl
  have x3 : W1.cell? ⟨W.heap.size, 3, none⟩ = some (.int .i64 k.2.2.2) := nd_cell bx rfl
  have HW := Lib.hid hb
  clear hv1 h
  go_enter Try.func15, Try.ntmps15
  go_wp2_with fail
  try rw [hW1]
  go_at_call 27
  refine HF.out.mono ?_
  rintro e w2 ⟨rfl, hb2⟩
  have HB2 := Lib.hid (bnext HW.out hb2)
  clear hW1 bx hb x0 x1 x2 x3 hb2
  go_wp2
  go_ret
  exact ⟨rfl, HB2.out⟩
set_option maxHeartbeats 1000000 in
theorem ndrop_any (W : World) (v : Value) (k : K4) (h : NoM W v) : Calls Try.prog 16 #[v, kyV k] W fun x w' => x = .returned (.int .i64 5) ∧ Below W.heap.size W w' := by
  have hb := balloc (Below.refl _ W) (.cells #[.int .i64 k.1, .int .i64 k.2.1, .int .i64 k.2.2.1, .int .i64 k.2.2.2] 34)
  have bx := heap_alloc_new W (.cells #[.int .i64 k.1, .int .i64 k.2.1, .int .i64 k.2.2.1, .int .i64 k.2.2.2] 34)
  obtain ⟨W1, hW1⟩ : ∃ W1, W.alloc (.cells #[.int .i64 k.1, .int .i64 k.2.1, .int .i64 k.2.2.1, .int .i64 k.2.2.2] 34) = W1 := ⟨_, rfl⟩
  rw [hW1] at bx hb
  have hv1 := h.below hb
  have HF := Lib.hid (nfind_any W1 v k hv1)
  have x0 : W1.cell? ⟨W.heap.size, 0, none⟩ = some (.int .i64 k.1) := nd_cell bx rfl
  have x1 : W1.cell? ⟨W.heap.size, 1, none⟩ = some (.int .i64 k.2.1) := nd_cell bx rfl
  have x2 : W1.cell? ⟨W.heap.size, 2, none⟩ = some (.int .i64 k.2.2.1) := nd_cell bx rfl
  have x3 : W1.cell? ⟨W.heap.size, 3, none⟩ = some (.int .i64 k.2.2.2) := nd_cell bx rfl
  have HW := Lib.hid hb
  clear hv1 h
  go_enter Try.func16, Try.ntmps16
  go_wp2_with fail
  try rw [hW1]
  go_at_call 27
  refine HF.out.mono ?_
  rintro e w2 ⟨rfl, hb2⟩
  have HB2 := Lib.hid (bnext HW.out hb2)
  clear hW1 bx hb x0 x1 x2 x3 hb2
  go_wp2
  go_ret
  exact ⟨rfl, HB2.out⟩
set_option maxHeartbeats 1000000 in
theorem nput_any (W : World) (v : Value) (k : K4) (s : Int) (h : NoM W v) : Calls Try.prog 17 #[v, kyV k, .int .i64 s] W fun x w' => x = .returned (.tuple #[.slice none 0 0, .int .i64 1]) ∧ Below W.heap.size W w' := by
  have hb := balloc (Below.refl _ W) (.cells #[.int .i64 k.1, .int .i64 k.2.1, .int .i64 k.2.2.1, .int .i64 k.2.2.2] 34)
  have HZ := Lib.hid (nzero_any _ v (h.below hb))
  have HW := Lib.hid hb
  clear hb h
  go_enter Try.func17, Try.ntmps17
  go_wp2_with (go_at_call 32; refine HZ.out.mono ?_; rintro x w1 ⟨rfl, rfl⟩)
  go_ret2
  exact ⟨rfl, HW.out⟩
set_option maxHeartbeats 1000000 in
theorem nused_any (W : World) (v : Value) (h : NoM W v) : Calls Try.prog 19 #[v] W fun x w' => x = .returned (.int .i64 0) ∧ w' = W := by
  have HZ := Lib.hid (nzero_any _ v h)
  clear h
  go_enter Try.func19, Try.ntmps19
  go_wp2_with (go_at_call 32; refine HZ.out.mono ?_; rintro x w1 ⟨rfl, rfl⟩)
  go_ret
  exact ⟨rfl, rfl⟩
set_option maxHeartbeats 1000000 in
theorem nlist_any (W : World) (v : Value) (h : NoM W v) : Calls Try.prog 18 #[v] W fun x w' => x = .returned (.slice none 0 0) ∧ w' = W := by
  have HZ := Lib.hid (nzero_any _ v h)
  clear h
  go_enter Try.func18, Try.ntmps18
  go_wp2_with (go_at_call 32; refine HZ.out.mono ?_; rintro x w1 ⟨rfl, rfl⟩)
  go_ret
  exact ⟨rfl, rfl⟩
set_option maxHeartbeats 1000000 in
theorem rnfind_any (W : World) (k : K4) : Calls Try.prog 40 #[.pointer none, kyV k] W fun x w' => x = .returned (.int .i64 (-1)) ∧ Below W.heap.size W w' := by
  go_enter Try.func40, Try.ntmps40
  go_wp2
  go_ret
  exact ⟨rfl, balloc (Below.refl _ _) _⟩
set_option maxHeartbeats 1000000 in
theorem rnuse_any (W : World) (k : K4) : Calls Try.prog 35 #[.pointer none, kyV k] W fun x w' => x = .returned (.bool false) ∧ Below W.heap.size W w' := by
  have hb := balloc (Below.refl _ W) (.cells #[.int .i64 k.1, .int .i64 k.2.1, .int .i64 k.2.2.1, .int .i64 k.2.2.2] 34)
  have bx := heap_alloc_new W (.cells #[.int .i64 k.1, .int .i64 k.2.1, .int .i64 k.2.2.1, .int .i64 k.2.2.2] 34)
  obtain ⟨W1, hW1⟩ : ∃ W1, W.alloc (.cells #[.int .i64 k.1, .int .i64 k.2.1, .int .i64 k.2.2.1, .int .i64 k.2.2.2] 34) = W1 := ⟨_, rfl⟩
  rw [hW1] at bx hb
  have HF := Lib.hid (rnfind_any W1 k)
  have x0 : W1.cell? ⟨W.heap.size, 0, none⟩ = some (.int .i64 k.1) := nd_cell bx rfl
  have x1 : W1.cell? ⟨W.heap.size, 1, none⟩ = some (.int .i64 k.2.1) := nd_cell bx rfl
  have x2 : W1.cell? ⟨W.heap.size, 2, none⟩ = some (.int .i64 k.2.2.1) := nd_cell bx rfl
  have x3 : W1.cell? ⟨W.heap.size, 3, none⟩ = some (.int .i64 k.2.2.2) := nd_cell bx rfl
  have HW := Lib.hid hb
  go_enter Try.func35, Try.ntmps35
  go_wp2_with fail
  try rw [hW1]
  go_at_call 40
  refine HF.out.mono ?_
  rintro e w2 ⟨rfl, hb2⟩
  have HB2 := Lib.hid (bnext HW.out hb2)
  clear hW1 bx hb x0 x1 x2 x3 hb2
  go_wp2
  go_ret
  exact ⟨rfl, HB2.out⟩
set_option maxHeartbeats 1000000 in
theorem rnpin_any (W : World) (k : K4) (on : Bool) : Calls Try.prog 36 #[.pointer none, kyV k, .bool on] W fun x w' => x = .returned (.int .i64 5) ∧ Below W.heap.size W w' := by
  have hb := balloc (Below.refl _ W) (.cells #[.int .i64 k.1, .int .i64 k.2.1, .int .i64 k.2.2.1, .int .i64 k.2.2.2] 34)
  have bx := heap_alloc_new W (.cells #[.int .i64 k.1, .int .i64 k.2.1, .int .i64 k.2.2.1, .int .i64 k.2.2.2] 34)
  obtain ⟨W1, hW1⟩ : ∃ W1, W.alloc (.cells #[.int .i64 k.1, .int .i64 k.2.1, .int .i64 k.2.2.1, .int .i64 k.2.2.2] 34) = W1 := ⟨_, rfl⟩
  rw [hW1] at bx hb
  have HF := Lib.hid (rnfind_any W1 k)
  have x0 : W1.cell? ⟨W.heap.size, 0, none⟩ = some (.int .i64 k.1) := nd_cell bx rfl
  have x1 : W1.cell? ⟨W.heap.size, 1, none⟩ = some (.int .i64 k.2.1) := nd_cell bx rfl
  have x2 : W1.cell? ⟨W.heap.size, 2, none⟩ = some (.int .i64 k.2.2.1) := nd_cell bx rfl
  have x3 : W1.cell? ⟨W.heap.size, 3, none⟩ = some (.int .i64 k.2.2.2) := nd_cell bx rfl
  have HW := Lib.hid hb
  go_enter Try.func36, Try.ntmps36
  go_wp2_with fail
  try rw [hW1]
  go_at_call 40
  refine HF.out.mono ?_
  rintro e w2 ⟨rfl, hb2⟩
  have HB2 := Lib.hid (bnext HW.out hb2)
  clear hW1 bx hb x0 x1 x2 x3 hb2
  go_wp2
  go_ret
  exact ⟨rfl, HB2.out⟩
set_option maxHeartbeats 1000000 in
theorem rndrop_any (W : World) (k : K4) : Calls Try.prog 37 #[.pointer none, kyV k] W fun x w' => x = .returned (.int .i64 5) ∧ Below W.heap.size W w' := by
  have hb := balloc (Below.refl _ W) (.cells #[.int .i64 k.1, .int .i64 k.2.1, .int .i64 k.2.2.1, .int .i64 k.2.2.2] 34)
  have bx := heap_alloc_new W (.cells #[.int .i64 k.1, .int .i64 k.2.1, .int .i64 k.2.2.1, .int .i64 k.2.2.2] 34)
  obtain ⟨W1, hW1⟩ : ∃ W1, W.alloc (.cells #[.int .i64 k.1, .int .i64 k.2.1, .int .i64 k.2.2.1, .int .i64 k.2.2.2] 34) = W1 := ⟨_, rfl⟩
  rw [hW1] at bx hb
  have HF := Lib.hid (rnfind_any W1 k)
  have x0 : W1.cell? ⟨W.heap.size, 0, none⟩ = some (.int .i64 k.1) := nd_cell bx rfl
  have x1 : W1.cell? ⟨W.heap.size, 1, none⟩ = some (.int .i64 k.2.1) := nd_cell bx rfl
  have x2 : W1.cell? ⟨W.heap.size, 2, none⟩ = some (.int .i64 k.2.2.1) := nd_cell bx rfl
  have x3 : W1.cell? ⟨W.heap.size, 3, none⟩ = some (.int .i64 k.2.2.2) := nd_cell bx rfl
  have HW := Lib.hid hb
  go_enter Try.func37, Try.ntmps37
  go_wp2_with fail
  try rw [hW1]
  go_at_call 40
  refine HF.out.mono ?_
  rintro e w2 ⟨rfl, hb2⟩
  have HB2 := Lib.hid (bnext HW.out hb2)
  clear hW1 bx hb x0 x1 x2 x3 hb2
  go_wp2
  go_ret
  exact ⟨rfl, HB2.out⟩
set_option maxHeartbeats 1000000 in
theorem rnput_any (W : World) (k : K4) (s : Int) : Calls Try.prog 38 #[.pointer none, kyV k, .int .i64 s] W fun x w' => x = .returned (.tuple #[.slice none 0 0, .int .i64 1]) ∧ Below W.heap.size W w' := by
  go_enter Try.func38, Try.ntmps38
  go_wp2
  all_goals
    go_ret2
    exact ⟨rfl, balloc (Below.refl _ _) _⟩
set_option maxHeartbeats 1000000 in
theorem rnused_any (W : World)  : Calls Try.prog 24 #[.pointer none] W fun x w' => x = .returned (.int .i64 0) ∧ w' = W := by
  go_enter Try.func24, Try.ntmps24
  go_wp2
  go_ret
  exact ⟨rfl, rfl⟩
set_option maxHeartbeats 1000000 in
theorem rnlist_any (W : World)  : Calls Try.prog 25 #[.pointer none] W fun x w' => x = .returned (.slice none 0 0) ∧ w' = W := by
  go_enter Try.func25, Try.ntmps25
  go_wp2
  go_ret
  exact ⟨rfl, rfl⟩
end Go.Proofs.Ytmnajongifdajaa
