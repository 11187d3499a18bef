/- The reader's methods: Int, count, Text, and the lists. -/
import Derived.Test.YtinkhgmdeldniaaWireRead
import Derived.Lib.Zigzag
namespace Go.Proofs.Ytinkhgmdeldniaa.W
set_option maxRecDepth 100000
open Go.RowKit

namespace WP
theorem xor_comm64 (a b : Int) : bits BinOp.xor IntKind.i64 a b = bits BinOp.xor IntKind.i64 b a := by
  show IntKind.i64.wrap ((BitVec.ofInt 64 a ^^^ BitVec.ofInt 64 b).toNat : Int) = IntKind.i64.wrap ((BitVec.ofInt 64 b ^^^ BitVec.ofInt 64 a).toNat : Int)
  rw [BitVec.xor_comm]
theorem xor_zero64 (x : Nat) (hx : x < 9223372036854775808) : bits BinOp.xor IntKind.i64 (x : Int) 0 = x := by
  show IntKind.i64.wrap ((BitVec.ofInt 64 (x : Int) ^^^ BitVec.ofInt 64 0).toNat : Int) = _
  have h2 : (BitVec.ofInt 64 (x : Int)).toNat = x := by
    rw [BitVec.ofInt_natCast, BitVec.toNat_ofNat]; exact Nat.mod_eq_of_lt (by omega)
  have h0 : BitVec.ofInt 64 0 = 0#64 := by decide
  rw [h0, BitVec.xor_zero, h2, IntKind.wrap_i64]
  omega
theorem zag {c : Nat} (h : c < 18446744073709551616) : bits BinOp.xor IntKind.i64 (wrap64 ((c : Int) / 2)) (wrap64 (-wrap64 (bits BinOp.and IntKind.u64 (c : Int) 1))) = uz c := by
  rw [Lib.u64_and1 _ (by omega) (by omega), IntWalk.wrap64_in _ (by omega), IntWalk.wrap64_in ((c : Int) % 2) (by omega), IntWalk.wrap64_in _ (by omega)]
  unfold uz
  have e : (c : Int) / 2 = ((c / 2 : Nat) : Int) := by omega
  rw [e]
  split
  · rw [show -((c : Int) % 2) = 0 by omega, xor_zero64 _ (by omega)]
  · rw [show -((c : Int) % 2) = -1 by omega, xor_comm64, Lib.i64_not _ (by omega)]
theorem rd_some : ∀ (l : List UInt8) (k acc c n : Nat), acc < 2 ^ (7 * k) → rd l k acc = some (c, n) → c < 18446744073709551616 ∧ k < n ∧ n ≤ k + l.length
  | [], _, _, _, _, _, h => by simp [rd] at h
  | b :: l, k, acc, c, n, ha, h => by
    rw [rd] at h
    split at h
    · simp at h
    · rename_i hb
      split at h
      · split at h
        · simp only [Option.some.injEq, Prod.mk.injEq] at h
          have := acc_small ha (by omega : 7 * k + Lib.bitLen (b.toNat % 128) ≤ 64) (Nat.mod_lt _ (by decide))
          simp only [List.length_cons]
          omega
        · simp at h
      · have := rd_some l (k + 1) _ c n (acc_next ha (Nat.mod_lt _ (by decide))) h
        simp only [List.length_cons]
        omega
end WP

set_option maxRecDepth 100000 in
set_option maxHeartbeats 1000000 in
theorem read_any (b : Nat) (r : WP.RS) (w : World) (h : RAt b r w) : Calls Try.prog 20 #[.pointer (some ⟨b, 0, none⟩)] w fun e w' => e = .returned (.int .i64 r.int.1) ∧ RAt b r.int.2 w' ∧ Kept b w w' := by
  have hbd := Lib.hid (bad_any b r w h)
  have hcd := Lib.hid (code_any b r w h)
  have hbad : r.bad = true ∨ r.bad = false := by cases r.bad <;> simp
  rcases hbad with hbad | hbad
  · go_enter Try.func20, Try.ntmps20
    go_wp2_with (go_at_call 22; refine hbd.out.mono ?_; rintro e w1 ⟨rfl, rfl⟩)
    go_ret
    have hr : WP.RS.int r = (0, r) := by rw [WP.RS.int, if_pos hbad]
    rw [hr]
    exact ⟨rfl, h, Kept.refl _ _⟩
  · obtain ⟨R, hR⟩ : ∃ R, WP.rd (r.s.drop r.p) 0 0 = R := ⟨_, rfl⟩
    rw [hR] at hcd
    have hbd' : Hid (r.bad = false) := Lib.hid hbad
    cases R with
    | none =>
      have hr : Hid (WP.RS.int r = (0, r.fail)) := Lib.hid (by rw [WP.RS.int, if_neg (by simp [hbad]), hR])
      go_enter Try.func20, Try.ntmps20
      go_wp2_with (first | (go_at_call 22; refine hbd.out.mono ?_; rintro e w1 ⟨rfl, rfl⟩) | (go_at_call 50; refine hcd.out.mono ?_; rintro e w2 ⟨⟨c, q, ok, rfl, hok, hno⟩, hb⟩; obtain rfl : ok = false := (by cases ok with | false => rfl | true => exact absurd (hok rfl) (by simp)); have k2 := h.keep hb; obtain ⟨e0, e1, e2, ef⟩ := k2.cells; have ef1 := ef 1; have ef2 := ef 2))
      go_ret
      rw [hr.out]
      exact ⟨rfl, k2.setBad, (Kept.of hb).trans (Kept.set _ _)⟩
    | some R =>
      obtain ⟨c', k⟩ := R
      have H1 := Lib.hid (WP.rd_some _ _ _ _ _ (by decide) hR)
      have hr : Hid (WP.RS.int r = (WP.uz c', { r with p := r.p + k })) := Lib.hid (by rw [WP.RS.int, if_neg (by simp [hbad]), hR])
      go_enter Try.func20, Try.ntmps20
      go_wp2_with (first | (go_at_call 22; refine hbd.out.mono ?_; rintro e w1 ⟨rfl, rfl⟩) | (go_at_call 50; refine hcd.out.mono ?_; rintro e w2 ⟨⟨c, q, ok, rfl, hok, hno⟩, hb⟩; obtain rfl : ok = true := (by cases ok with | true => rfl | false => exact absurd (hno rfl) (by simp)); obtain ⟨c1, k1, rfl, rfl, he⟩ := hok rfl; obtain ⟨rfl, rfl⟩ : c' = c1 ∧ k = k1 := (by simpa using he); have k2 := h.keep hb; obtain ⟨e0, e1, e2, ef⟩ := k2.cells; have ef1 := ef 1; have ef2 := ef 2))
      go_ret
      rw [hr.out]
      obtain ⟨h1, h2, h3⟩ := H1.out
      refine ⟨ret1 ?_, k2.setPlace _ (by simp at h3; have := h.2.1; omega) _ (by omega), (Kept.of hb).trans (Kept.set _ _)⟩
      exact WP.zag h1

set_option maxRecDepth 100000 in
set_option maxHeartbeats 1000000 in
theorem count_any (b : Nat) (r : WP.RS) (w : World) (h : RAt b r w) : Calls Try.prog 77 #[.pointer (some ⟨b, 0, none⟩)] w fun e w' => e = .returned (.int .i64 r.count.1) ∧ RAt b r.count.2 w' ∧ Kept b w w' := by
  have hrd := Lib.hid (read_any b r w h)
  have hct : Hid (r.count = if r.int.2.bad then (0, r.int.2) else if r.int.1 < 0 ∨ (r.int.2.left : Int) < r.int.1 then (0, r.int.2.fail) else r.int) := Lib.hid rfl
  generalize r.int = R at *
  obtain ⟨n, r1⟩ := R
  have hbad : r1.bad = true ∨ r1.bad = false := by cases r1.bad <;> simp
  simp only at hct
  rcases hbad with hbad | hbad
  · go_enter Try.func77, Try.ntmps77
    go_wp2_with (first | (go_at_call 20; refine hrd.out.mono ?_; rintro e w1 ⟨rfl, h1, k1⟩) | (go_at_call 22; refine (bad_any b r1 _ h1).mono ?_; rintro e w2 ⟨rfl, rfl⟩))
    go_ret
    rw [hct.out, if_pos hbad]
    exact ⟨rfl, h1, k1⟩
  · rw [hbad] at hct
    simp only [Bool.false_eq_true, if_false] at hct
    by_cases hn : n < 0
    · go_enter Try.func77, Try.ntmps77
      go_wp2_with (first | (go_at_call 20; refine hrd.out.mono ?_; rintro e w1 ⟨rfl, h1, k1⟩; have f1 := h1.cells.2.2.2 2; have c1 := h1.cells.2.2.1) | (go_at_call 22; refine (bad_any b r1 _ h1).mono ?_; rintro e w2 ⟨rfl, rfl⟩))
      go_ret
      rw [hct.out, if_pos (Or.inl hn)]
      exact ⟨rfl, h1.setBad, k1.trans (Kept.set _ _)⟩
    · by_cases hl : (r1.left : Int) < n
      · go_enter Try.func77, Try.ntmps77
        go_wp2_with (first | (go_at_call 20; refine hrd.out.mono ?_; rintro e w1 ⟨rfl, h1, k1⟩) | (go_at_call 22; refine (bad_any b r1 _ h1).mono ?_; rintro e w2 ⟨rfl, rfl⟩) | (go_at_call 23; refine (left_any b r1 _ h1).mono ?_; rintro e w3 ⟨rfl, hb3⟩; have f1 := (h1.keep hb3).cells.2.2.2 2; have c1 := (h1.keep hb3).cells.2.2.1))
        go_ret
        rw [hct.out, if_pos (Or.inr hl)]
        exact ⟨rfl, (h1.keep hb3).setBad, (k1.trans (Kept.of hb3)).trans (Kept.set _ _)⟩
      · go_enter Try.func77, Try.ntmps77
        go_wp2_with (first | (go_at_call 20; refine hrd.out.mono ?_; rintro e w1 ⟨rfl, h1, k1⟩) | (go_at_call 22; refine (bad_any b r1 _ h1).mono ?_; rintro e w2 ⟨rfl, rfl⟩) | (go_at_call 23; refine (left_any b r1 _ h1).mono ?_; rintro e w3 ⟨rfl, hb3⟩))
        go_ret
        rw [hct.out, if_neg (by omega)]
        exact ⟨rfl, h1.keep hb3, k1.trans (Kept.of hb3)⟩

theorem S_extract (s : List UInt8) (p m : Nat) : (WP.S s).extract p (p + m) = WP.S ((s.drop p).take m) := by
  apply ByteArray.ext
  simp only [WP.S, ByteArray.data_extract]
  apply Array.ext'
  simp
theorem count_ok (r : WP.RS) (h : r.count.2.bad = false) : 0 ≤ r.count.1 ∧ r.count.1 ≤ ((r.count.2.s.length - r.count.2.p : Nat) : Int) := by
  unfold WP.RS.count at h ⊢
  split at h
  · rename_i hb; simp [hb] at h
  · rename_i hb
    rw [if_neg hb]
    split at h
    · simp [WP.RS.fail] at h
    · rename_i hc
      rw [if_neg hc]
      simp only [WP.RS.left, hb] at hc
      simp at hc
      omega
set_option maxRecDepth 100000 in
set_option maxHeartbeats 2000000 in
theorem rtext_any' (b : Nat) (r : WP.RS) (w : World) (h : RAt b r w) : Calls Try.prog 52 #[.pointer (some ⟨b, 0, none⟩)] w fun e w' => e = .returned (.string (WP.S r.text.1)) ∧ RAt b r.text.2 w' ∧ Kept b w w' := by
  have hrd := Lib.hid (count_any b r w h)
  have hok := Lib.hid (count_ok r)
  have hct : Hid (r.text = if r.count.2.bad then ([], r.count.2) else ((r.count.2.s.drop r.count.2.p).take r.count.1.toNat, { r.count.2 with p := r.count.2.p + r.count.1.toNat })) := Lib.hid rfl
  generalize r.count = R at *
  obtain ⟨n, r1⟩ := R
  have hbad : r1.bad = true ∨ r1.bad = false := by cases r1.bad <;> simp
  simp only at hct hok
  rcases hbad with hbad | hbad
  · go_enter Try.func52, Try.ntmps52
    go_wp2_with (first | (go_at_call 77; refine hrd.out.mono ?_; rintro e w1 ⟨rfl, h1, k1⟩) | (go_at_call 22; refine (bad_any b r1 _ h1).mono ?_; rintro e w2 ⟨rfl, rfl⟩))
    go_ret
    rw [hct.out, if_pos hbad]
    exact ⟨rfl, h1, k1⟩
  · rw [hbad] at hct
    simp only [Bool.false_eq_true, if_false] at hct
    obtain ⟨n0, n1⟩ := hok.out hbad
    clear hok
    obtain ⟨m, rfl⟩ : ∃ m : Nat, n = m := ⟨n.toNat, by omega⟩
    go_enter Try.func52, Try.ntmps52
    go_wp2_with (first | (go_at_call 77; refine hrd.out.mono ?_; rintro e w1 ⟨rfl, h1, k1⟩; obtain ⟨c0, c1, c2, cf⟩ := h1.cells; have cf1 := cf 1; have hp := h1.2.1; have hs := h1.2.2; have hz := WP.S_size r1.s) | (go_at_call 22; refine (bad_any b r1 _ h1).mono ?_; rintro e w2 ⟨rfl, rfl⟩))
    go_quiet (fail)
    go_wp2
    go_ret
    rw [hct.out]
    have hd := below_drewN (Below.refl w2.heap.size w2) ‹Nat›
    have hq := (h1.keep hd).setPlace (r1.p + (m : Int).toNat) (by simp only [Int.toNat_natCast]; omega) ((r1.p : Int) + m) (by simp)
    rw [hbad] at hq
    exact ⟨rets (S_extract _ _ _), hq, (k1.trans (Kept.of hd)).trans (Kept.set _ _)⟩
end Go.Proofs.Ytinkhgmdeldniaa.W
