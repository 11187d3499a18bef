/- The reference's way of reading a number. -/
import Derived.Test.YtinkhgmdeldniaaWireQ
import Derived.Deep.RegionHeld3
import Derived.Deep.RegionWith
namespace Go.Proofs.Ytinkhgmdeldniaa.W
set_option maxRecDepth 100000
set_option linter.unusedVariables false
open Go.RowKit
namespace WP
theorem lead_le : ∀ l : List UInt8, lead l ≤ l.length
  | [] => Nat.le_refl _
  | b :: l => by rw [lead]; split; omega; have := lead_le l; rw [List.length_cons]; omega
theorem lead_ge : ∀ (l : List UInt8) (k : Nat), k < lead l → 128 ≤ (l.getD k 0).toNat
  | [], k, h => by simp [lead] at h
  | b :: l, k, h => by
    rw [lead] at h
    split at h
    · omega
    · rename_i hb
      cases k with
      | zero => simpa using hb
      | succ k => have := lead_ge l k (by omega); simpa using this
theorem lead_at : ∀ l : List UInt8, lead l < l.length → (l.getD (lead l) 0).toNat < 128
  | [], h => by simp at h
  | b :: l, h => by
    rw [lead] at h ⊢
    split
    · rename_i hb; simpa using hb
    · rename_i hb
      rw [if_neg hb] at h
      have := lead_at l (by simpa using h)
      simpa using this
theorem hor_drop : ∀ (l : List UInt8) (i : Nat), i < l.length → hor (l.drop i) = (l.getD i 0).toNat % 128 + 128 * hor (l.drop (i + 1))
  | [], i, h => by simp at h
  | b :: l, 0, h => by simp [hor]
  | b :: l, i + 1, h => by have := hor_drop l i (by simpa using h); simpa using this
theorem getD_take (l : List UInt8) (m i : Nat) (h : i < m) : (l.take m).getD i 0 = l.getD i 0 := by
  simp [List.getD, List.getElem?_take, h]
theorem getD_dropp (l : List UInt8) (p i : Nat) : (l.drop p).getD i 0 = l.getD (p + i) 0 := by
  simp [List.getD, List.getElem?_drop]
theorem hor_next {l : List UInt8} {n j : Nat} (h : j < n + 1) (hn : n < l.length) : hor ((l.take (n + 1)).drop j) = (l.getD j 0).toNat % 128 + 128 * hor ((l.take (n + 1)).drop (j + 1)) := by
  rw [hor_drop _ j (by rw [List.length_take]; omega), getD_take _ _ _ h]
/-- What a number is read as, if all is well: how many bytes stand before its last one, and the bytes are its code. -/
theorem int_ok {r : RS} (hb : r.bad = false) : r.int = if lead (r.s.drop r.p) < 10 ∧ lead (r.s.drop r.p) < r.s.length - r.p ∧ enc (hor ((r.s.drop r.p).take (lead (r.s.drop r.p) + 1)) % 18446744073709551616) = (r.s.drop r.p).take (lead (r.s.drop r.p) + 1) then (uz (hor ((r.s.drop r.p).take (lead (r.s.drop r.p) + 1)) % 18446744073709551616), { r with p := r.p + (lead (r.s.drop r.p) + 1) }) else (0, r.fail) := by
  rw [RS.int, if_neg (by simp [hb]), rd_ref, List.length_drop]
  by_cases hc : lead (r.s.drop r.p) < 10 ∧ lead (r.s.drop r.p) < r.s.length - r.p ∧ enc (hor ((r.s.drop r.p).take (lead (r.s.drop r.p) + 1)) % 18446744073709551616) = (r.s.drop r.p).take (lead (r.s.drop r.p) + 1)
  · rw [if_pos hc, if_pos hc]
  · rw [if_neg hc, if_neg hc]
theorem fail_bad {r : RS} (h : r.bad = true) : r.fail = r := by
  obtain ⟨s, p, b⟩ := r
  simp only at h
  subst h
  rfl
end WP

set_option maxHeartbeats 400000 in
theorem qleft_q (b : Nat) (r : WP.RS) (w : World) (h : QAt b r w) : Calls Try.prog 58 #[.pointer (some ⟨b, 0, none⟩)] w fun e w' => e = .returned (.int .i64 r.left) ∧ ∃ n, w' = w.drewN n := by
  obtain ⟨c0, c1, c2, _⟩ := h.cells
  have hp := h.2.1
  have hs := h.2.2
  have hz := WP.S_size r.s
  have hbad := Lib.hid (qbad_any b r w h)
  go_enter Try.func58, Try.ntmps58
  go_wp2_with (go_at_call 62; refine hbad.out.mono ?_; rintro e w1 ⟨rfl, rfl⟩)
  · go_ret
    rename_i hb
    exact ⟨ret1 (by simp [WP.RS.left, hb]), 0, rfl⟩
  · go_quiet (fail)
    go_wp2
    go_ret
    rename_i hb
    exact ⟨ret1 (by simp [WP.RS.left, hb]; omega), _, rfl⟩
set_option maxRecDepth 100000 in
set_option maxHeartbeats 4000000 in
theorem qread_bad (b : Nat) (r : WP.RS) (w : World) (h : QAt b r w) (hb : r.bad = true) : Calls Try.prog 30 #[.pointer (some ⟨b, 0, none⟩)] w fun e w' => e = .returned (.int .i64 0) ∧ QAt b r w' ∧ Kept b w w' := by
  have hl : r.left = 0 := by unfold WP.RS.left; rw [if_pos hb]
  have HL := Lib.hid fun (V : World) (hV : Below w.heap.size w V) => qleft_q b r V (h.keep hV)
  have HM := Lib.hid fun (V : World) (hV : Below w.heap.size w V) => qleft_any b r V (h.keep hV)
  rw [hl] at HL HM
  obtain ⟨c0, c1, c2, _⟩ := h.cells
  go_enter Try.func30, Try.ntmps30
  go_wp2_with fail
  refine wp_loop_rounds 1 ?_
  rw [rounds_succ]
  go_wp2_with fail
  go_quiet ((go_at_call 58; exact Calls.quiet_of (HL.out _ (by (repeat' (first | exact Below.refl _ _ | (with_reducible assumption) | (refine bnext ?_ (by with_reducible assumption)) | (refine balloc ?_ _) | (refine below_drewN ?_ _) | (refine Below.drew ?_)))))))
  go_wp2_with (first | (go_at_call 58; refine (HM.out _ (by (repeat' (first | exact Below.refl _ _ | (with_reducible assumption) | (refine bnext ?_ (by with_reducible assumption)) | (refine balloc ?_ _) | (refine below_drewN ?_ _) | (refine Below.drew ?_))))).mono ?_; rintro e w5 ⟨rfl, hb5⟩) | (go_at_call 59; refine (qfail_any b r _ (h.keep (by (repeat' (first | exact Below.refl _ _ | (with_reducible assumption) | (refine bnext ?_ (by with_reducible assumption)) | (refine balloc ?_ _) | (refine below_drewN ?_ _) | (refine Below.drew ?_)))))).mono ?_; rintro e w6 ⟨rfl, h6, k6⟩))
  go_ret
  rw [WP.fail_bad hb] at h6
  exact ⟨rfl, h6, (Kept.of (by (repeat' (first | exact Below.refl _ _ | (with_reducible assumption) | (refine bnext ?_ (by with_reducible assumption)) | (refine balloc ?_ _) | (refine below_drewN ?_ _) | (refine Below.drew ?_))))).trans k6⟩
end Go.Proofs.Ytinkhgmdeldniaa.W
