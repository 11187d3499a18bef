/- The reference's sets: Join, Meet, Less, Overlap. -/
import Derived.Test.YtamhhbgakaokgaaSetRefC
namespace Go.Proofs.Ytamhhbgakaokgaa
open Go.RowKit

set_option maxRecDepth 100000 in
set_option maxHeartbeats 1000000 in
theorem rjoin_any (va vb : Value) (A B : List Int) (w : World) (ha : RowAt w va (iv A)) (hb : RowAt w vb (iv B)) (hA : A.length ≤ 1000000) (hB : B.length ≤ 1000000) :
    Calls Try.prog 20 #[va, vb] w fun e w' => ∃ v', e = .returned v' ∧ Lst w' v' (SP.join A B) ∧ Below w.heap.size w w' := by
  obtain ⟨ba, bc, rfl, hrowb⟩ := hb.out
  have Hb := Lib.hid hb
  clear hrowb hb
  have hmlb : (iv B).length = B.length := by simp
  rw [hmlb] at Hb ⊢
  clear hmlb
  obtain ⟨aa, ac, rfl, hrowa⟩ := ha.out
  have Ha := Lib.hid ha
  clear hrowa ha
  have hmla : (iv A).length = A.length := by simp
  rw [hmla] at Ha ⊢
  clear hmla
  go_enter Try.func20, Try.ntmps20
  go_wp2_with (go_at_call 14; refine (rnorm_any _ A _ Ha.out hA).mono ?_; rintro e w1 ⟨v1, rfl, hl1, hb1⟩; obtain ⟨a1, c1, rfl, _, _⟩ := hl1.out)
  go_loopw [5, 6] (fun v i wr => ∃ k : Nat, k ≤ B.length ∧ i = .int .i64 k ∧ Lst wr v (SP.join A (B.take k)) ∧ Below w.heap.size w wr) (fun _ i _ => B.length - (intOf i).toNat)
  case atStart => exact ⟨0, Nat.zero_le _, rfl, by simpa [SP.join] using hl1, hb1⟩
  case round =>
    obtain ⟨k, hk, rfl, hl, hb⟩ := hrel
    have hnl := SP.join_len A (B.take k)
    have hnk : (B.take k).length ≤ k := by simp; omega
    by_cases hkl : k < B.length
    · obtain ⟨g1, o1, rfl, hg1, hc1⟩ := (Hb.out.keep hb).cell (k := k) (by simpa using hkl)
      simp only [List.getElem_map] at hc1
      have hki : (k : Int) < (B.length : Int) := by omega
      have HN := Lib.hid (SP.join_next A B k hkl)
      obtain ⟨x, hx⟩ : ∃ x, B[k] = x := ⟨_, rfl⟩
      rw [hx] at hc1 HN
      clear hx
      obtain ⟨a3, c3, rfl, _, _⟩ := hl.out
      have HC := Lib.hid (with_lst _ _ x wr hl (by omega))
      clear hl hl1
      go_wp2_with (go_at_call 30; refine HC.out.mono ?_; rintro e w2 ⟨v', rfl, hl2, hb2⟩; obtain ⟨a4, c4, rfl, _, _⟩ := hl2.out)
      have HL := Lib.hid hl2
      clear hl2 HC
      go_roundw
      case rel => exact ⟨k + 1, by omega, by go_num, by rw [HN.out]; exact HL.out, bnext hb hb2⟩
      case measure => simp [intOf]; omega
    · rw [List.take_of_length_le (by omega)] at hl
      have HL := Lib.hid hl
      clear hl hl1
      go_wp2
      go_ret
      exact ⟨_, rfl, HL.out, hb⟩

set_option maxRecDepth 100000 in
set_option maxHeartbeats 1000000 in
theorem rmeet_any (va vb : Value) (A B : List Int) (w : World) (ha : RowAt w va (iv A)) (hb : RowAt w vb (iv B)) (hA : A.length ≤ 1000000) (hB : B.length ≤ 1000000) :
    Calls Try.prog 22 #[va, vb] w fun e w' => ∃ v', e = .returned v' ∧ Lst w' v' (SP.meet A B) ∧ Below w.heap.size w w' := by
  obtain ⟨aa, ac, rfl, hrowa⟩ := ha.out
  have Ha := Lib.hid ha
  clear hrowa ha
  have hmla : (iv A).length = A.length := by simp
  rw [hmla] at Ha ⊢
  clear hmla
  obtain ⟨ba, bc, rfl, hrowb⟩ := hb.out
  have Hb := Lib.hid hb
  clear hrowb hb
  have hmlb : (iv B).length = B.length := by simp
  rw [hmlb] at Hb ⊢
  clear hmlb
  go_enter Try.func22, Try.ntmps22
  go_wp2
  go_loopw [5, 6] (fun v i wr => ∃ k : Nat, k ≤ A.length ∧ i = .int .i64 k ∧ Lst wr v (SP.meet (A.take k) B) ∧ Below w.heap.size w wr) (fun _ i _ => A.length - (intOf i).toNat)
  case atStart => exact ⟨0, Nat.zero_le _, rfl, by simpa [SP.meet, SP.norm] using Lst.nil w, Below.refl _ _⟩
  case round =>
    obtain ⟨k, hk, rfl, hl, hb⟩ := hrel
    have hnl := SP.meet_len (A.take k) B
    have hnk : (A.take k).length ≤ k := by simp; omega
    by_cases hkl : k < A.length
    · obtain ⟨g1, o1, rfl, hg1, hc1⟩ := (Ha.out.keep hb).cell (k := k) (by simpa using hkl)
      simp only [List.getElem_map] at hc1
      have hki : (k : Int) < (A.length : Int) := by omega
      have HN := Lib.hid (SP.meet_next A B k hkl)
      obtain ⟨x, hx⟩ : ∃ x, A[k] = x := ⟨_, rfl⟩
      rw [hx] at hc1 HN
      clear hx
      obtain ⟨a3, c3, rfl, _, _⟩ := hl.out
      have HC := Lib.hid (with_lst _ _ x wr hl (by omega))
      have HL0 := Lib.hid hl
      clear hl
      by_cases hm : x ∈ B
      · replace HN := Lib.hid (HN.out.trans (if_pos hm))
        have hd : decide (x ∈ B) = true := decide_eq_true hm
        go_wp2_with (first | (go_at_call 18; refine (rhas_any _ B x _ (Hb.out.keep hb) (by omega)).mono ?_; rintro e w1 ⟨rfl, rfl⟩; rw [hd]) | (go_at_call 30; refine HC.out.mono ?_; rintro e w2 ⟨v', rfl, hl2, hb2⟩; obtain ⟨a4, c4, rfl, _, _⟩ := hl2.out))
        have HL := Lib.hid hl2
        clear hl2 HC
        go_roundw
        case rel => exact ⟨k + 1, by omega, by go_num, by rw [HN.out]; exact HL.out, bnext hb hb2⟩
        case measure => simp [intOf]; omega
      · replace HN := Lib.hid (HN.out.trans (if_neg hm))
        have hd : decide (x ∈ B) = false := decide_eq_false hm
        clear HC
        go_wp2_with (go_at_call 18; refine (rhas_any _ B x _ (Hb.out.keep hb) (by omega)).mono ?_; rintro e w1 ⟨rfl, rfl⟩; rw [hd])
        go_roundw
        case rel => exact ⟨k + 1, by omega, by go_num, by rw [HN.out]; exact HL0.out, hb⟩
        case measure => simp [intOf]; omega
    · rw [List.take_of_length_le (by omega)] at hl
      have HL := Lib.hid hl
      clear hl
      go_wp2
      go_ret
      exact ⟨_, rfl, HL.out, hb⟩

set_option maxRecDepth 100000 in
set_option maxHeartbeats 1000000 in
theorem rless_any (va vb : Value) (A B : List Int) (w : World) (ha : RowAt w va (iv A)) (hb : RowAt w vb (iv B)) (hA : A.length ≤ 1000000) (hB : B.length ≤ 1000000) :
    Calls Try.prog 24 #[va, vb] w fun e w' => ∃ v', e = .returned v' ∧ Lst w' v' (SP.less A B) ∧ Below w.heap.size w w' := by
  obtain ⟨aa, ac, rfl, hrowa⟩ := ha.out
  have Ha := Lib.hid ha
  clear hrowa ha
  have hmla : (iv A).length = A.length := by simp
  rw [hmla] at Ha ⊢
  clear hmla
  obtain ⟨ba, bc, rfl, hrowb⟩ := hb.out
  have Hb := Lib.hid hb
  clear hrowb hb
  have hmlb : (iv B).length = B.length := by simp
  rw [hmlb] at Hb ⊢
  clear hmlb
  go_enter Try.func24, Try.ntmps24
  go_wp2
  go_loopw [5, 6] (fun v i wr => ∃ k : Nat, k ≤ A.length ∧ i = .int .i64 k ∧ Lst wr v (SP.less (A.take k) B) ∧ Below w.heap.size w wr) (fun _ i _ => A.length - (intOf i).toNat)
  case atStart => exact ⟨0, Nat.zero_le _, rfl, by simpa [SP.less, SP.norm] using Lst.nil w, Below.refl _ _⟩
  case round =>
    obtain ⟨k, hk, rfl, hl, hb⟩ := hrel
    have hnl := SP.less_len (A.take k) B
    have hnk : (A.take k).length ≤ k := by simp; omega
    by_cases hkl : k < A.length
    · obtain ⟨g1, o1, rfl, hg1, hc1⟩ := (Ha.out.keep hb).cell (k := k) (by simpa using hkl)
      simp only [List.getElem_map] at hc1
      have hki : (k : Int) < (A.length : Int) := by omega
      have HN := Lib.hid (SP.less_next A B k hkl)
      obtain ⟨x, hx⟩ : ∃ x, A[k] = x := ⟨_, rfl⟩
      rw [hx] at hc1 HN
      clear hx
      obtain ⟨a3, c3, rfl, _, _⟩ := hl.out
      have HC := Lib.hid (with_lst _ _ x wr hl (by omega))
      have HL0 := Lib.hid hl
      clear hl
      by_cases hm : x ∈ B
      · replace HN := Lib.hid (HN.out.trans (if_pos hm))
        have hd : decide (x ∈ B) = true := decide_eq_true hm
        clear HC
        go_wp2_with (go_at_call 18; refine (rhas_any _ B x _ (Hb.out.keep hb) (by omega)).mono ?_; rintro e w1 ⟨rfl, rfl⟩; rw [hd])
        go_roundw
        case rel => exact ⟨k + 1, by omega, by go_num, by rw [HN.out]; exact HL0.out, hb⟩
        case measure => simp [intOf]; omega
      · replace HN := Lib.hid (HN.out.trans (if_neg hm))
        have hd : decide (x ∈ B) = false := decide_eq_false hm
        go_wp2_with (first | (go_at_call 18; refine (rhas_any _ B x _ (Hb.out.keep hb) (by omega)).mono ?_; rintro e w1 ⟨rfl, rfl⟩; rw [hd]) | (go_at_call 30; refine HC.out.mono ?_; rintro e w2 ⟨v', rfl, hl2, hb2⟩; obtain ⟨a4, c4, rfl, _, _⟩ := hl2.out))
        have HL := Lib.hid hl2
        clear hl2 HC
        go_roundw
        case rel => exact ⟨k + 1, by omega, by go_num, by rw [HN.out]; exact HL.out, bnext hb hb2⟩
        case measure => simp [intOf]; omega
    · rw [List.take_of_length_le (by omega)] at hl
      have HL := Lib.hid hl
      clear hl
      go_wp2
      go_ret
      exact ⟨_, rfl, HL.out, hb⟩

set_option maxRecDepth 100000 in
set_option maxHeartbeats 1000000 in
theorem roverlap_any (va vb : Value) (A B : List Int) (w : World) (ha : RowAt w va (iv A)) (hb : RowAt w vb (iv B)) (hA : A.length ≤ 1000000) (hB : B.length ≤ 1000000) :
    Calls Try.prog 26 #[va, vb] w fun e w' => e = .returned (.bool (decide (SP.meet A B ≠ []))) ∧ Below w.heap.size w w' := by
  have HC := Lib.hid (rmeet_any va vb A B w ha hb hA hB)
  go_enter Try.func26, Try.ntmps26
  go_wp2_with (go_at_call 22; refine HC.out.mono ?_; rintro e w1 ⟨v1, rfl, hl1, hb1⟩; obtain ⟨a1, c1, rfl, _, _⟩ := hl1.out)
  go_ret
  refine ⟨retbool ?_, hb1⟩
  rw [decide_eq_decide]
  first | exact List.length_pos_iff | (simp [List.length_pos_iff]) | (have := List.length_pos_iff (l := SP.meet A B); omega)
end Go.Proofs.Ytamhhbgakaokgaa
