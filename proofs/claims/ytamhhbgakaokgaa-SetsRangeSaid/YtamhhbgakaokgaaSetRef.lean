/- The reference's functions on sets. -/
import Derived.Test.YtamhhbgakaokgaaApp
import Derived.Test.YtamhhbgakaokgaaSetPlain
namespace Go.Proofs.Ytamhhbgakaokgaa
open Go.RowKit
abbrev iv (L : List Int) : List Value := L.map (Value.int .i64)
theorem retbool {a b : Bool} (h : a = b) : Ending.returned (.bool a) = .returned (.bool b) := by rw [h]

set_option maxHeartbeats 400000 in
theorem rhas_any (v : Value) (L : List Int) (n : Int) (w : World) (hv : RowAt w v (iv L)) (hL : L.length ≤ 1000000000000) :
    Calls Try.prog 18 #[v, .int .i64 n] w fun e w' => e = .returned (.bool (decide (n ∈ L))) ∧ w' = w := by
  obtain ⟨a, cap, rfl, hrow⟩ := hv.out
  have HROW := Lib.hid hrow
  clear hrow hv
  have hml : (iv L).length = L.length := by simp
  rw [hml]
  go_enter Try.func18, Try.ntmps18
  go_wp2
  go_loop [5] (fun i => ∃ k : Nat, k ≤ L.length ∧ i = .int .i64 k ∧ Hid (n ∉ L.take k)) (fun i => L.length - (intOf i).toNat)
  case atStart => exact ⟨0, Nat.zero_le _, rfl, Lib.hid (by simp)⟩
  case round =>
    obtain ⟨k, hk, rfl, hn⟩ := hrel
    by_cases hkl : k < L.length
    · obtain ⟨g, o, rfl, hg, hc⟩ := HROW.out.resolve_left (by intro h; simp at h; simp [h] at hkl)
      have hcell := hc k (by rw [hml]; exact hkl)
      have hX : (iv L).getD k (.bool false) = .int .i64 L[k] := by simp [List.getD, hkl]
      rw [hX] at hcell
      clear hX hc
      have hki : (k : Int) < (L.length : Int) := by omega
      have HN : Hid (L[k] ≠ n → n ∉ L.take (k + 1)) := Lib.hid (by
        intro h
        rw [List.take_add_one, List.getElem?_eq_getElem hkl]
        have := hn.out
        simp only [Option.toList_some, List.mem_append, List.mem_singleton, not_or]
        exact ⟨this, fun e => h e.symm⟩)
      have HC : Hid (L[k] = n → decide (n ∈ L) = true) := Lib.hid (by rintro rfl; simp)
      obtain ⟨x, hx⟩ : ∃ x, L[k] = x := ⟨_, rfl⟩
      rw [hx] at hcell HN HC
      clear hx hn
      by_cases hxn : x = n
      · subst hxn
        have HR := Lib.hid (HC.out rfl)
        clear HC HN
        go_wp2
        go_ret
        exact ⟨retbool HR.out.symm, rfl⟩
      · have hb : (x == n) = false := by simpa using hxn
        go_wp2
        go_round
        case rel => exact ⟨k + 1, by omega, by go_num, Lib.hid (HN.out hxn)⟩
        case measure => simp [intOf]; omega
    · have hR : decide (n ∈ L) = false := by
        have := hn.out
        rw [List.take_of_length_le (by omega)] at this
        simpa using this
      have HR := Lib.hid hR
      clear hR
      go_wp2
      go_ret
      exact ⟨retbool HR.out.symm, rfl⟩

def sameTo (A B : List Int) (k : Nat) : Prop := A.take k = B.take k
theorem sameTo_next {A B : List Int} {k : Nat} (h : sameTo A B k) (hA : k < A.length) (hB : k < B.length) (e : A[k] = B[k]) : sameTo A B (k + 1) := by
  unfold sameTo at *
  rw [List.take_add_one, List.take_add_one, h, List.getElem?_eq_getElem hA, List.getElem?_eq_getElem hB, e]
set_option maxHeartbeats 400000 in
theorem same_any (va vb : Value) (A B : List Int) (w : World) (ha : RowAt w va (iv A)) (hb : RowAt w vb (iv B)) (hA : A.length ≤ 1000000000000) (hB : B.length ≤ 1000000000000) :
    Calls Try.prog 12 #[va, vb] w fun e w' => e = .returned (.bool (decide (A = B))) ∧ Below w.heap.size w w' := by
  obtain ⟨a, cap, rfl, hrow⟩ := ha.out
  obtain ⟨a2, cap2, rfl, hrow2⟩ := hb.out
  have HA := Lib.hid ha
  have HB := Lib.hid hb
  clear hrow hrow2 ha hb
  have hml : (iv A).length = A.length := by simp
  have hml2 : (iv B).length = B.length := by simp
  rw [hml] at HA ⊢
  rw [hml2] at HB ⊢
  clear hml hml2
  by_cases hl : A.length = B.length
  · rw [← hl] at HB ⊢
    go_enter Try.func12, Try.ntmps12
    go_wp2
    go_loopw [5] (fun i wr => ∃ k : Nat, k ≤ A.length ∧ i = .int .i64 k ∧ Hid (sameTo A B k) ∧ Below w.heap.size w wr) (fun i _ => A.length - (intOf i).toNat)
    case atStart => exact ⟨0, Nat.zero_le _, rfl, Lib.hid (by simp [sameTo]), Below.refl _ _⟩
    case round =>
      obtain ⟨k, hk, rfl, hs, hbl⟩ := hrel
      by_cases hkl : k < A.length
      · obtain ⟨g1, o1, rfl, hg1, hc1⟩ := (HA.out.keep hbl).cell (k := k) (by simpa using hkl)
        obtain ⟨g2, o2, rfl, hg2, hc2⟩ := (HB.out.keep hbl).cell (k := k) (by simp; omega)
        simp only [List.getElem_map] at hc1 hc2
        have hki : (k : Int) < (A.length : Int) := by omega
        have HN : Hid (A[k] = B[k] → sameTo A B (k + 1)) := Lib.hid (sameTo_next hs.out hkl (by omega))
        have HC : Hid (A[k] ≠ B[k] → A ≠ B) := Lib.hid (by rintro h rfl; exact h rfl)
        obtain ⟨x, hx⟩ : ∃ x, A[k] = x := ⟨_, rfl⟩
        obtain ⟨y, hy⟩ : ∃ y, B[k] = y := ⟨_, rfl⟩
        rw [hx] at hc1 HN HC
        rw [hy] at hc2 HN HC
        clear hx hy hs
        by_cases hxy : x = y
        · have HN' := Lib.hid (HN.out hxy)
          clear HN HC
          subst hxy
          go_wp2
          go_quiet (fail)
          go_wp2
          go_roundw
          case rel => exact ⟨k + 1, by omega, by go_num, HN', below_drewN hbl _⟩
          case measure => simp [intOf]; omega
        · have hb : (x == y) = false := by simpa using hxy
          have HR := Lib.hid (HC.out hxy)
          go_wp2
          go_quiet (fail)
          go_wp2
          go_ret
          exact ⟨retbool (by simpa using HR.out), below_drewN hbl _⟩
      · have HR : Hid (A = B) := Lib.hid (by
          have := hs.out
          unfold sameTo at this
          rwa [List.take_of_length_le (by omega), List.take_of_length_le (by omega)] at this)
        clear hs
        go_wp2
        go_ret
        exact ⟨retbool (by simpa using HR.out), hbl⟩
  · have h1 : ((A.length : Int) == B.length) = false := by simp; omega
    have HR : Hid (A ≠ B) := Lib.hid (fun e => hl (by rw [e]))
    go_enter Try.func12, Try.ntmps12
    go_wp2
    go_ret
    exact ⟨retbool (by simpa using HR.out), Below.refl _ _⟩
end Go.Proofs.Ytamhhbgakaokgaa
