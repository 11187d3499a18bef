/- Right, Has and Range, of the program and of the reference. -/
import Derived.Test.YtamhhbgakaokgaaSetRefC
import Derived.Test.YtamhhbgakaokgaaShelf
import Derived.IntWalk
namespace Go.Proofs.Ytamhhbgakaokgaa
open Go.RowKit
namespace SP
theorem rises_next {L : List Int} {k : Nat} (h : Rises (L.take (k + 1))) (hk : k + 1 < L.length) (hx : L[k] < L[k + 1]) : Rises (L.take (k + 2)) := by
  rw [List.take_add_one, List.getElem?_eq_getElem hk]
  refine List.pairwise_append.2 ⟨h, List.pairwise_singleton _ _, fun a ha b hb => ?_⟩
  obtain rfl : b = L[k + 1] := by simpa using hb
  rw [List.take_add_one, List.getElem?_eq_getElem (by omega)] at h ha
  rcases List.mem_append.1 ha with ha | ha
  · have := (List.pairwise_append.1 h).2.2 a ha L[k] (by simp)
    omega
  · obtain rfl : a = L[k] := by simpa using ha
    exact hx
theorem rises_not {L : List Int} {k : Nat} (hk : k + 1 < L.length) (hx : L[k + 1] ≤ L[k]) : ¬ Rises L := fun h => by
  have := List.pairwise_iff_getElem.1 h k (k + 1) (by omega) hk (by omega)
  omega
def right (L : List Int) : Bool := decide (L.Pairwise (fun x y => x < y))
theorem right_true {L : List Int} (h : Rises L) : right L = true := decide_eq_true h
theorem right_false {L : List Int} (h : ¬ Rises L) : right L = false := decide_eq_false h
theorem right_iff {L : List Int} : right L = true ↔ Rises L := by unfold right; rw [decide_eq_true_eq]; rfl
/-- The numbers from one on, before another one. -/
def upto (a : Int) (n : Nat) : List Int := (List.range n).map fun i => a + (i : Nat)
def span (a b : Int) : List Int := if a < b ∧ b - a ≤ 4096 then upto a (b - a).toNat else []
theorem upto_next (a : Int) (n : Nat) : upto a (n + 1) = upto a n ++ [a + n] := by unfold upto; rw [List.range_succ, List.map_append]; rfl
theorem upto_len (a : Int) (n : Nat) : (upto a n).length = n := by simp [upto]
theorem mem_upto {a x : Int} {n : Nat} : x ∈ upto a n ↔ a ≤ x ∧ x < a + n := by
  unfold upto
  rw [List.mem_map]
  constructor
  · rintro ⟨i, hi, rfl⟩; have := List.mem_range.1 hi; omega
  · rintro ⟨h1, h2⟩; exact ⟨(x - a).toNat, List.mem_range.2 (by omega), by omega⟩
theorem span_no {a b : Int} (h : ¬ (a < b ∧ b - a ≤ 4096)) : span a b = [] := if_neg h
theorem span_yes {a b : Int} (h : a < b) (h2 : b - a ≤ 4096) : span a b = upto a (b - a).toNat := if_pos ⟨h, h2⟩
theorem span_len (a b : Int) : (span a b).length ≤ 4096 := by
  unfold span; split
  · rw [upto_len]; omega
  · simp
theorem mem_span {a b x : Int} (h : b - a ≤ 4096) : x ∈ span a b ↔ a ≤ x ∧ x < b := by
  by_cases hab : a < b
  · rw [span_yes hab h, mem_upto]; omega
  · rw [span_no (by omega)]; simp; omega
theorem rises_upto (a : Int) : ∀ n, Rises (upto a n)
  | 0 => List.Pairwise.nil
  | n + 1 => by
    rw [upto_next]
    exact List.pairwise_append.2 ⟨rises_upto a n, List.pairwise_singleton _ _, fun x hx y hy => by
      obtain rfl : y = a + n := by simpa using hy
      exact (mem_upto.1 hx).2⟩
theorem rises_span (a b : Int) : Rises (span a b) := by
  unfold span; split
  · exact rises_upto _ _
  · exact List.Pairwise.nil
end SP

set_option maxRecDepth 100000 in
set_option maxHeartbeats 1000000 in
theorem right_any (va : Value) (A : List Int) (w : World) (ha : RowAt w va (iv A)) (hA : A.length ≤ 1000000) :
    Calls Try.prog 15 #[va] w fun e w' => e = .returned (.bool (SP.right A)) ∧ Below w.heap.size w w' := by
  obtain ⟨aa, ac, rfl, hrowa⟩ := ha.out
  have Ha := Lib.hid ha
  clear hrowa ha
  rw [iv_len] at Ha ⊢
  go_enter Try.func15, Try.ntmps15
  go_wp2
  go_loopw [3] (fun i wr => ∃ k : Nat, (k = 0 ∨ k + 1 ≤ A.length) ∧ i = .int .i64 ((k : Int) + 1) ∧ Hid (SP.Rises (A.take (k + 1))) ∧ Below w.heap.size w wr) (fun i _ => A.length - (intOf i).toNat)
  case atStart => exact ⟨0, .inl rfl, rfl, Lib.hid (by cases A <;> simp [SP.Rises]), Below.refl _ _⟩
  case round =>
    obtain ⟨k, hk, rfl, hs, hbl⟩ := hrel
    by_cases hkl : k + 1 < A.length
    · obtain ⟨g1, o1, rfl, hg1, hc1⟩ := (Ha.out.keep hbl).cell (k := k) (by simp; omega)
      obtain ⟨g2, o2, hge, hg2, hc2⟩ := (Ha.out.keep hbl).cell (k := k + 1) (by simpa using hkl)
      simp only [Option.some.injEq, Addr.mk.injEq] at hge
      obtain ⟨rfl, rfl, _⟩ := hge
      clear hg2
      simp only [List.getElem_map] at hc1 hc2
      have hki : (k : Int) + 1 < (A.length : Int) := by omega
      have HN : Hid (A[k] < A[k + 1] → SP.Rises (A.take (k + 2))) := Lib.hid (SP.rises_next hs.out hkl)
      have HC : Hid (A[k + 1] ≤ A[k] → SP.right A = false) := Lib.hid (fun h => SP.right_false (SP.rises_not hkl h))
      obtain ⟨x, hx⟩ : ∃ x, A[k] = x := ⟨_, rfl⟩
      obtain ⟨y, hy⟩ : ∃ y, A[k + 1] = y := ⟨_, rfl⟩
      rw [hx] at hc1 HN HC
      rw [hy] at hc2 HN HC
      clear hx hy hs
      by_cases hxy : x < y
      · have HN' := Lib.hid (HN.out hxy)
        clear HN HC
        have e1 : IntKind.i64.wrap ((k : Int) + 1 - 1) = (k : Int) := by rw [show (k : Int) + 1 - 1 = k by omega]; exact IntWalk.i64_in _ (by omega)
        have e2 : ((k : Int) + 1).toNat = k + 1 := by omega
        go_wp2
        go_quiet (fail)
        go_wp2
        go_roundw
        case rel => exact ⟨k + 1, by omega, by go_num, HN', below_drewN hbl _⟩
        case measure => simp [intOf]; omega
      · have HR := Lib.hid (HC.out (by omega))
        clear HN HC
        have e1 : IntKind.i64.wrap ((k : Int) + 1 - 1) = (k : Int) := by rw [show (k : Int) + 1 - 1 = k by omega]; exact IntWalk.i64_in _ (by omega)
        have e2 : ((k : Int) + 1).toNat = k + 1 := by omega
        go_wp2
        go_quiet (fail)
        go_wp2
        go_ret
        exact ⟨retbool (HR.out).symm, below_drewN hbl _⟩
    · have HR : Hid (SP.right A = true) := Lib.hid (by
        have := hs.out
        rw [List.take_of_length_le (by omega)] at this
        exact SP.right_true this)
      clear hs
      go_wp2
      go_ret
      exact ⟨retbool HR.out.symm, hbl⟩

set_option maxRecDepth 100000 in
set_option maxHeartbeats 1000000 in
theorem rright_any (va : Value) (A : List Int) (w : World) (ha : RowAt w va (iv A)) (hA : A.length ≤ 1000000) :
    Calls Try.prog 16 #[va] w fun e w' => e = .returned (.bool (SP.right A)) ∧ Below w.heap.size w w' := by
  obtain ⟨aa, ac, rfl, hrowa⟩ := ha.out
  have Ha := Lib.hid ha
  clear hrowa ha
  rw [iv_len] at Ha ⊢
  go_enter Try.func16, Try.ntmps16
  go_wp2
  go_loopw [3] (fun i wr => ∃ k : Nat, (k = 0 ∨ k + 1 ≤ A.length) ∧ i = .int .i64 ((k : Int) + 1) ∧ Hid (SP.Rises (A.take (k + 1))) ∧ Below w.heap.size w wr) (fun i _ => A.length - (intOf i).toNat)
  case atStart => exact ⟨0, .inl rfl, rfl, Lib.hid (by cases A <;> simp [SP.Rises]), Below.refl _ _⟩
  case round =>
    obtain ⟨k, hk, rfl, hs, hbl⟩ := hrel
    by_cases hkl : k + 1 < A.length
    · obtain ⟨g1, o1, rfl, hg1, hc1⟩ := (Ha.out.keep hbl).cell (k := k) (by simp; omega)
      obtain ⟨g2, o2, hge, hg2, hc2⟩ := (Ha.out.keep hbl).cell (k := k + 1) (by simpa using hkl)
      simp only [Option.some.injEq, Addr.mk.injEq] at hge
      obtain ⟨rfl, rfl, _⟩ := hge
      clear hg2
      simp only [List.getElem_map] at hc1 hc2
      have hki : (k : Int) + 1 < (A.length : Int) := by omega
      have HN : Hid (A[k] < A[k + 1] → SP.Rises (A.take (k + 2))) := Lib.hid (SP.rises_next hs.out hkl)
      have HC : Hid (A[k + 1] ≤ A[k] → SP.right A = false) := Lib.hid (fun h => SP.right_false (SP.rises_not hkl h))
      obtain ⟨x, hx⟩ : ∃ x, A[k] = x := ⟨_, rfl⟩
      obtain ⟨y, hy⟩ : ∃ y, A[k + 1] = y := ⟨_, rfl⟩
      rw [hx] at hc1 HN HC
      rw [hy] at hc2 HN HC
      clear hx hy hs
      by_cases hxy : x < y
      · have HN' := Lib.hid (HN.out hxy)
        clear HN HC
        have e1 : IntKind.i64.wrap ((k : Int) + 1 - 1) = (k : Int) := by rw [show (k : Int) + 1 - 1 = k by omega]; exact IntWalk.i64_in _ (by omega)
        have e2 : ((k : Int) + 1).toNat = k + 1 := by omega
        go_wp2
        go_quiet (fail)
        go_wp2
        go_roundw
        case rel => exact ⟨k + 1, by omega, by go_num, HN', below_drewN hbl _⟩
        case measure => simp [intOf]; omega
      · have HR := Lib.hid (HC.out (by omega))
        clear HN HC
        have e1 : IntKind.i64.wrap ((k : Int) + 1 - 1) = (k : Int) := by rw [show (k : Int) + 1 - 1 = k by omega]; exact IntWalk.i64_in _ (by omega)
        have e2 : ((k : Int) + 1).toNat = k + 1 := by omega
        go_wp2
        go_quiet (fail)
        go_wp2
        go_ret
        exact ⟨retbool (HR.out).symm, below_drewN hbl _⟩
    · have HR : Hid (SP.right A = true) := Lib.hid (by
        have := hs.out
        rw [List.take_of_length_le (by omega)] at this
        exact SP.right_true this)
      clear hs
      go_wp2
      go_ret
      exact ⟨retbool HR.out.symm, hbl⟩

set_option maxHeartbeats 400000 in
theorem has_any (v : Value) (L : List Int) (n : Int) (w : World) (hv : RowAt w v (iv L)) (hL : L.length ≤ 1000000000000) :
    Calls Try.prog 17 #[v, .int .i64 n] w fun e w' => e = .returned (.bool (decide (n ∈ L))) ∧ w' = w := by
  obtain ⟨a, cap, rfl, hrow⟩ := hv.out
  rw [iv_len] at hv ⊢
  clear hv
  by_cases hl : L = []
  · subst hl
    have HC := Lib.hid (Try.slices_Contains_int_empty a cap n w)
    go_enter Try.func17, Try.ntmps17
    go_wp2_with (go_at_call 31; refine HC.out.mono ?_; rintro e w1 ⟨rfl, rfl⟩)
    go_ret
    exact ⟨retbool (by simp), rfl⟩
  · obtain ⟨g, o, rfl, hg, hc⟩ := hrow.resolve_left (by simpa using hl)
    have HC := Lib.hid (Try.slices_Contains_int g o L.length cap L n w (Nat.le_refl _) (by omega) (fun j hj => by rw [hc j (by simpa using hj)]; simp [List.getD, hj]))
    clear hc hrow
    go_enter Try.func17, Try.ntmps17
    go_wp2_with (go_at_call 31; refine HC.out.mono ?_; rintro e w1 ⟨rfl, rfl⟩)
    go_ret
    exact ⟨retbool (by simp), rfl⟩

set_option maxRecDepth 100000 in
set_option maxHeartbeats 2000000 in
theorem range_any (a b : Int) (w : World) (a0 : -9223372036854775808 ≤ a) (a1 : a ≤ 9223372036854775807) (b0 : -9223372036854775808 ≤ b) (b1 : b ≤ 9223372036854775807) :
    Calls Try.prog 27 #[.int .i64 a, .int .i64 b] w fun e w' => ∃ v', e = .returned v' ∧ Lst w' v' (SP.span a b) ∧ Below w.heap.size w w' := by
  by_cases hab : b ≤ a
  · have HE := Lib.hid (SP.span_no (a := a) (b := b) (by omega))
    go_enter Try.func27, Try.ntmps27
    go_wp2
    go_ret
    rw [HE.out]
    exact ⟨_, rfl, Lst.nil _, Below.refl _ _⟩
  · have hba : a < b := by omega
    have ew : IntKind.u64.wrap (IntKind.u64.wrap b - IntKind.u64.wrap a) = b - a := by
      unfold IntKind.wrap
      simp [IntKind.bits, IntKind.signed]
      omega
    by_cases h4 : b - a ≤ 4096
    · have HE := Lib.hid (SP.span_yes hba h4)
      obtain ⟨i0, hi, hz0, hz1, hz2⟩ := info_parts info_int
      go_enter Try.func27, Try.ntmps27
      go_wp2
      go_loopw [5, 6] (fun v i wr => ∃ k : Nat, (k : Int) ≤ b - a ∧ i = .int .i64 (a + k) ∧ wr.ownsRow w.heap.size 3 1 v k (iv (SP.upto a k)) ∧ Below w.heap.size w wr) (fun _ i _ => (b - intOf i).toNat)
      case atStart => exact ⟨0, by omega, by simp, World.ownsRow_nil _ _ _ _, Below.refl _ _⟩
      case round =>
        obtain ⟨k, hk, rfl, hown, hb⟩ := hrel
        have hown0 := Lib.hid hown
        obtain ⟨va, vc, rfl⟩ := own_shape hown
        have hwr := hb.size
        by_cases hkb : a + k < b
        · go_wp2_with (at_builtin; refine wpList_app _ rfl _ _ 22 rfl w.heap.size 3 i0 (.int .i64 0) 8 Try.underlying22 hi hz0 hz1 hz2 rfl _ _ _ rfl (hown0.out.alloc _) _ [.int .i64 (a + k)] rfl (Src.one (World.cell?_alloc_at _ _ _ _ rfl)) (by simp [Value.oneCell']) ?ca ?cb ?cc ?_)
          try case ca => unfold maxLen; first | omega | (simp <;> omega)
          try case cb => first | omega | (simp <;> omega)
          try case cc => first | omega | (simp <;> omega)
          intro v1 w1 hown1 hgrow1 _
          have hB : Below w.heap.size w w1 := (balloc hb _).grown hgrow1 (by simp; omega) (fun j hj => (hown0.out.lt j hj).1)
          replace hown1 := own_iv hown1 (SP.upto a (k + 1)) (by rw [SP.upto_next]; simp)
          rw [SP.upto_len] at hown1
          obtain ⟨a1, c1, rfl⟩ := own_shape hown1
          have HO := Lib.hid hown1
          clear hown1 hgrow1 hown0
          go_wp2
          go_roundw
          case rel => exact ⟨k + 1, by omega, by congr 1; omega, HO.out, hB⟩
          case measure => simp [intOf]; omega
        · have HK : Hid (SP.span a b = SP.upto a k) := Lib.hid (by rw [HE.out]; congr 1; omega)
          go_wp2
          go_ret
          rw [HK.out]
          exact ⟨_, rfl, own_lst hown0.out, hb⟩
    · have HE := Lib.hid (SP.span_no (a := a) (b := b) (by omega))
      go_enter Try.func27, Try.ntmps27
      go_wp2
      go_ret
      rw [HE.out]
      exact ⟨_, rfl, Lst.nil _, Below.refl _ _⟩

set_option maxRecDepth 100000 in
set_option maxHeartbeats 2000000 in
theorem rrange_any (a b : Int) (w : World) (a0 : -9223372036854775808 ≤ a) (a1 : a ≤ 9223372036854775807) (b0 : -9223372036854775808 ≤ b) (b1 : b ≤ 9223372036854775807) :
    Calls Try.prog 28 #[.int .i64 a, .int .i64 b] w fun e w' => ∃ v', e = .returned v' ∧ Lst w' v' (SP.span a b) ∧ Below w.heap.size w w' := by
  by_cases hab : b ≤ a
  · have HE := Lib.hid (SP.span_no (a := a) (b := b) (by omega))
    go_enter Try.func28, Try.ntmps28
    go_wp2
    go_ret
    rw [HE.out]
    exact ⟨_, rfl, Lst.nil _, Below.refl _ _⟩
  · have hba : a < b := by omega
    have ew : IntKind.u64.wrap (IntKind.u64.wrap b - IntKind.u64.wrap a) = b - a := by
      unfold IntKind.wrap
      simp [IntKind.bits, IntKind.signed]
      omega
    by_cases h4 : b - a ≤ 4096
    · have HE := Lib.hid (SP.span_yes hba h4)
      obtain ⟨i0, hi, hz0, hz1, hz2⟩ := info_parts info_int
      go_enter Try.func28, Try.ntmps28
      go_wp2
      go_loopw [5, 6] (fun v i wr => ∃ k : Nat, (k : Int) ≤ b - a ∧ i = .int .i64 (a + k) ∧ wr.ownsRow w.heap.size 3 1 v k (iv (SP.upto a k)) ∧ Below w.heap.size w wr) (fun _ i _ => (b - intOf i).toNat)
      case atStart => exact ⟨0, by omega, by simp, World.ownsRow_nil _ _ _ _, Below.refl _ _⟩
      case round =>
        obtain ⟨k, hk, rfl, hown, hb⟩ := hrel
        have hown0 := Lib.hid hown
        obtain ⟨va, vc, rfl⟩ := own_shape hown
        have hwr := hb.size
        by_cases hkb : a + k < b
        · go_wp2_with (at_builtin; refine wpList_app _ rfl _ _ 22 rfl w.heap.size 3 i0 (.int .i64 0) 8 Try.underlying22 hi hz0 hz1 hz2 rfl _ _ _ rfl (hown0.out.alloc _) _ [.int .i64 (a + k)] rfl (Src.one (World.cell?_alloc_at _ _ _ _ rfl)) (by simp [Value.oneCell']) ?ca ?cb ?cc ?_)
          try case ca => unfold maxLen; first | omega | (simp <;> omega)
          try case cb => first | omega | (simp <;> omega)
          try case cc => first | omega | (simp <;> omega)
          intro v1 w1 hown1 hgrow1 _
          have hB : Below w.heap.size w w1 := (balloc hb _).grown hgrow1 (by simp; omega) (fun j hj => (hown0.out.lt j hj).1)
          replace hown1 := own_iv hown1 (SP.upto a (k + 1)) (by rw [SP.upto_next]; simp)
          rw [SP.upto_len] at hown1
          obtain ⟨a1, c1, rfl⟩ := own_shape hown1
          have HO := Lib.hid hown1
          clear hown1 hgrow1 hown0
          go_wp2
          go_roundw
          case rel => exact ⟨k + 1, by omega, by congr 1; omega, HO.out, hB⟩
          case measure => simp [intOf]; omega
        · have HK : Hid (SP.span a b = SP.upto a k) := Lib.hid (by rw [HE.out]; congr 1; omega)
          go_wp2
          go_ret
          rw [HK.out]
          exact ⟨_, rfl, own_lst hown0.out, hb⟩
    · have HE := Lib.hid (SP.span_no (a := a) (b := b) (by omega))
      go_enter Try.func28, Try.ntmps28
      go_wp2
      go_ret
      rw [HE.out]
      exact ⟨_, rfl, Lst.nil _, Below.refl _ _⟩
end Go.Proofs.Ytamhhbgakaokgaa
