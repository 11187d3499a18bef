/- The reference's sets: Norm, Join, Meet, Less, Overlap. -/
import Derived.Test.YtamhhbgakaokgaaSetRefB
namespace Go.Proofs.Ytamhhbgakaokgaa
open Go.RowKit
/-- A slice value that holds a list of numbers. -/
def Lst (w : World) (v : Value) (P : List Int) : Prop := ∃ a cap, v = .slice a P.length cap ∧ Src w v (iv P) ∧ P.length ≤ cap
theorem Lst.out {w : World} {v : Value} {P : List Int} (h : Lst w v P) : ∃ a cap, v = .slice a P.length cap ∧ Src w v (iv P) ∧ P.length ≤ cap := h
theorem Lst.keep {w w' : World} {v : Value} {P : List Int} (h : Lst w v P) (hb : Below w.heap.size w w') : Lst w' v P := by
  obtain ⟨a, cap, rfl, h1, h2⟩ := h.out
  exact ⟨a, cap, rfl, h1.keep hb, h2⟩
theorem Lst.row {w : World} {v : Value} {P : List Int} (h : Lst w v P) : RowAt w v (iv P) := by
  obtain ⟨a, cap, rfl, h1, h2⟩ := h.out
  exact h1.row
theorem Lst.nil (w : World) : Lst w (.slice none 0 0) [] := ⟨none, 0, rfl, Src.nil w, Nat.le_refl _⟩
theorem own_lst {w : World} {B e n : Nat} {v : Value} {P : List Int} (h : w.ownsRow B e 1 v n (iv P)) : Lst w v P := by
  have h' := own_iv h P rfl
  obtain ⟨a, c, rfl⟩ := own_shape h
  have hn : n = P.length := by have := h.1; simpa using this.symm
  subst hn
  exact ⟨a, c, rfl, own_src h' (by simp), own_cap h'⟩
theorem with_lst (v : Value) (L : List Int) (n : Int) (w : World) (hv : Lst w v L) (hL : L.length ≤ 1000000000) :
    Calls Try.prog 30 #[v, .int .i64 n] w fun e w' => ∃ v', e = .returned v' ∧ Lst w' v' (SP.put n L) ∧ Below w.heap.size w w' := by
  obtain ⟨a, cap, rfl, h1, h2⟩ := hv.out
  refine (with_any a cap L n w h1 h2 hL).mono fun e w' ⟨a', cap', he, h3, h4, hb⟩ => ⟨_, he, ⟨a', cap', rfl, h3, h4⟩, hb⟩
theorem SP.norm_next (L : List Int) (k : Nat) (h : k < L.length) : SP.norm (L.take (k + 1)) = SP.put L[k] (SP.norm (L.take k)) := by
  rw [List.take_add_one, List.getElem?_eq_getElem h]
  exact SP.norm_snoc _ _
theorem SP.join_next (A L : List Int) (k : Nat) (h : k < L.length) : SP.join A (L.take (k + 1)) = SP.put L[k] (SP.join A (L.take k)) := by
  unfold SP.join
  rw [List.take_add_one, List.getElem?_eq_getElem h]
  exact (congrArg SP.norm (List.append_assoc _ _ _).symm).trans (SP.norm_snoc _ _)
theorem SP.meet_next (L B : List Int) (k : Nat) (h : k < L.length) : SP.meet (L.take (k + 1)) B = if L[k] ∈ B then SP.put L[k] (SP.meet (L.take k) B) else SP.meet (L.take k) B := by
  unfold SP.meet
  rw [List.take_add_one, List.getElem?_eq_getElem h, List.filter_append]
  by_cases hc : L[k] ∈ B
  · rw [if_pos hc]; simp [hc, SP.norm_snoc]
  · rw [if_neg hc]; simp [hc]
theorem SP.less_next (L B : List Int) (k : Nat) (h : k < L.length) : SP.less (L.take (k + 1)) B = if L[k] ∈ B then SP.less (L.take k) B else SP.put L[k] (SP.less (L.take k) B) := by
  unfold SP.less
  rw [List.take_add_one, List.getElem?_eq_getElem h, List.filter_append]
  by_cases hc : L[k] ∈ B
  · rw [if_pos hc]; simp [hc]
  · rw [if_neg hc]; simp [hc, SP.norm_snoc]

set_option maxRecDepth 100000 in
set_option maxHeartbeats 1000000 in
theorem rnorm_any (va : Value) (A : List Int) (w : World) (ha : RowAt w va (iv A)) (hA : A.length ≤ 1000000) :
    Calls Try.prog 14 #[va] w fun e w' => ∃ v', e = .returned v' ∧ Lst w' v' (SP.norm A) ∧ Below w.heap.size w w' := by
  obtain ⟨aa, ac, rfl, hrowa⟩ := ha.out
  have Ha := Lib.hid ha
  clear hrowa ha
  have hmla : (iv A).length = A.length := by simp
  rw [hmla] at Ha ⊢
  clear hmla
  go_enter Try.func14, Try.ntmps14
  go_wp2
  go_loopw [3, 4] (fun v i wr => ∃ k : Nat, k ≤ A.length ∧ i = .int .i64 k ∧ Lst wr v (SP.norm (A.take k)) ∧ Below w.heap.size w wr) (fun _ i _ => A.length - (intOf i).toNat)
  case atStart => exact ⟨0, Nat.zero_le _, rfl, Lst.nil _, Below.refl _ _⟩
  case round =>
    obtain ⟨k, hk, rfl, hl, hb⟩ := hrel
    have hnl := SP.norm_len (A.take k)
    rw [List.length_take] at hnl
    by_cases hkl : k < A.length
    · obtain ⟨g1, o1, rfl, hg1, hc1⟩ := (Ha.out.keep hb).cell (k := k) (by simpa using hkl)
      simp only [List.getElem_map] at hc1
      have hki : (k : Int) < (A.length : Int) := by omega
      have HN := Lib.hid (SP.norm_next A k hkl)
      obtain ⟨x, hx⟩ : ∃ x, A[k] = x := ⟨_, rfl⟩
      rw [hx] at hc1 HN
      clear hx
      obtain ⟨a3, c3, rfl, _, _⟩ := hl.out
      have HC := Lib.hid (with_lst _ _ x wr hl (by omega))
      clear hl
      go_wp2_with (go_at_call 30; refine HC.out.mono ?_; rintro e w1 ⟨v', rfl, hl1, hb1⟩; obtain ⟨a4, c4, rfl, _, _⟩ := hl1.out)
      have HL := Lib.hid hl1
      clear hl1 HC
      go_roundw
      case rel => exact ⟨k + 1, by omega, by go_num, by rw [HN.out]; exact HL.out, bnext hb hb1⟩
      case measure => simp [intOf]; omega
    · rw [List.take_of_length_le (by omega)] at hl
      have HL := Lib.hid hl
      clear hl
      go_wp2
      go_ret
      exact ⟨_, rfl, HL.out, hb⟩
end Go.Proofs.Ytamhhbgakaokgaa
