/- The reader of package wire: what each of its methods answers, and what it leaves, by plain functions of the bytes, the place and the mark. -/
import Derived.Test.YtinkhgmdeldniaaWireList
namespace Go.Proofs.Ytinkhgmdeldniaa.W
set_option maxRecDepth 100000
open Go.RowKit

namespace WP
/-- A reader: its bytes, its place, and whether something could not be read. -/
structure RS where
  s : List UInt8
  p : Nat
  bad : Bool
/-- The number whose digits begin here (k digits are read, their sum is acc), and how many digits it has. -/
def rd : List UInt8 → Nat → Nat → Option (Nat × Nat)
  | [], _, _ => none
  | b :: l, k, acc =>
    if 64 < 7 * k + Lib.bitLen (b.toNat % 128) then none
    else if b.toNat < 128 then (if 0 < b.toNat % 128 ∨ k = 0 then some (acc + 2 ^ (7 * k) * (b.toNat % 128), k + 1) else none)
    else rd l (k + 1) (acc + 2 ^ (7 * k) * (b.toNat % 128))
def RS.fail (r : RS) : RS := { r with bad := true }
def RS.int (r : RS) : Int × RS := if r.bad then (0, r) else match rd (r.s.drop r.p) 0 0 with
  | none => (0, r.fail)
  | some (c, k) => (uz c, { r with p := r.p + k })
def RS.left (r : RS) : Nat := if r.bad then 0 else r.s.length - r.p
def RS.count (r : RS) : Int × RS := if r.int.2.bad then (0, r.int.2) else if r.int.1 < 0 ∨ (r.int.2.left : Int) < r.int.1 then (0, r.int.2.fail) else r.int
def RS.text (r : RS) : List UInt8 × RS := if r.count.2.bad then ([], r.count.2) else ((r.count.2.s.drop r.count.2.p).take r.count.1.toNat, { r.count.2 with p := r.count.2.p + r.count.1.toNat })
theorem and127 : ∀ x : Fin 256, bits BinOp.and IntKind.u8 (x.val : Int) 127 = ((x.val % 128 : Nat) : Int) := by decide +kernel
theorem rd_step {s : List UInt8} {i X k acc : Nat} (h : i < s.length) (hX : s[i].toNat = X) : rd (s.drop i) k acc =
    if 64 < 7 * k + Lib.bitLen (X % 128) then none
    else if X < 128 then (if 0 < X % 128 ∨ k = 0 then some (acc + 2 ^ (7 * k) * (X % 128), k + 1) else none)
    else rd (s.drop (i + 1)) (k + 1) (acc + 2 ^ (7 * k) * (X % 128)) := by
  rw [List.drop_eq_getElem_cons h, rd, hX]
theorem lt_len : ∀ d : Fin 128, d.val < 2 ^ Lib.bitLen d.val := by decide +kernel
theorem acc_next {acc d k : Nat} (ha : acc < 2 ^ (7 * k)) (hd : d < 128) : acc + 2 ^ (7 * k) * d < 2 ^ (7 * (k + 1)) := by
  rw [Nat.mul_succ 7 k, Nat.pow_add, show (2 : Nat) ^ 7 = 128 by decide]
  have : 2 ^ (7 * k) * d ≤ 2 ^ (7 * k) * 127 := Nat.mul_le_mul_left _ (by omega)
  omega
theorem shift_small {d k : Nat} (h : 7 * k + Lib.bitLen d ≤ 64) (hd : d < 128) : 2 ^ (7 * k) * (d + 1) ≤ 18446744073709551616 := by
  have h1 := lt_len ⟨d, hd⟩
  have h2 : 2 ^ (7 * k) * (d + 1) ≤ 2 ^ (7 * k) * 2 ^ Lib.bitLen d := Nat.mul_le_mul_left _ h1
  have h3 : 2 ^ (7 * k) * 2 ^ Lib.bitLen d ≤ 2 ^ 64 := by rw [← Nat.pow_add]; exact Nat.pow_le_pow_right (by decide) h
  have h4 : (2 : Nat) ^ 64 = 18446744073709551616 := by decide
  omega
theorem acc_small {acc d k : Nat} (ha : acc < 2 ^ (7 * k)) (h : 7 * k + Lib.bitLen d ≤ 64) (hd : d < 128) : acc + 2 ^ (7 * k) * d < 18446744073709551616 := by
  have := shift_small h hd
  rw [Nat.mul_succ] at this
  omega
theorem or_shift {acc d k : Nat} (ha : acc < 2 ^ (7 * k)) (h : 7 * k + Lib.bitLen d ≤ 64) (hd : d < 128) :
    bits BinOp.or IntKind.u64 (acc : Int) (IntKind.u64.wrap ((d : Int) * 2 ^ (7 * k))) = ((acc + 2 ^ (7 * k) * d : Nat) : Int) := by
  have h1 := acc_small ha h hd
  have e : IntKind.u64.wrap ((d : Int) * 2 ^ (7 * k)) = ((2 ^ (7 * k) * d : Nat) : Int) := by
    have : (d : Int) * 2 ^ (7 * k) = ((2 ^ (7 * k) * d : Nat) : Int) := by push_cast; rw [Int.mul_comm]
    rw [this, IntWalk.u64_in _ (by omega)]
  rw [e, u64_or_nat _ _ (by omega) (by omega), Nat.or_comm, ← Nat.two_pow_add_eq_or_of_lt ha, Nat.add_comm]
end WP

/-- A reader in block b. -/
def RAt (b : Nat) (r : WP.RS) (w : World) : Prop := w.heap[b]? = some (.cells #[.string (WP.S r.s), .int .i64 r.p, .bool r.bad] 69 (0, 0)) ∧ r.p ≤ r.s.length ∧ r.s.length ≤ 140737488355328
theorem RAt.out {b : Nat} {r : WP.RS} {w : World} (h : RAt b r w) : w.heap[b]? = some (.cells #[.string (WP.S r.s), .int .i64 r.p, .bool r.bad] 69 (0, 0)) ∧ r.p ≤ r.s.length ∧ r.s.length ≤ 140737488355328 := h
theorem RAt.lt {b : Nat} {r : WP.RS} {w : World} (h : RAt b r w) : b < w.heap.size := by
  rcases Nat.lt_or_ge b w.heap.size with h' | h'
  · exact h'
  · have := h.out.1; simp [Array.getElem?_eq_none h'] at this
theorem RAt.keep {b : Nat} {r : WP.RS} {w w' : World} (h : RAt b r w) (hb : Below w.heap.size w w') : RAt b r w' := ⟨(hb.block b h.lt).trans h.1, h.2⟩
theorem RAt.cells {b : Nat} {r : WP.RS} {w : World} (h : RAt b r w) : w.cell? ⟨b, 0, none⟩ = some (.string (WP.S r.s)) ∧ w.cell? ⟨b, 1, none⟩ = some (.int .i64 r.p) ∧ w.cell? ⟨b, 2, none⟩ = some (.bool r.bad) ∧ (∀ j, w.frozen? ⟨b, j, none⟩ = false) :=
  ⟨by rw [Lib.cell_of_heap h.1]; rfl, by rw [Lib.cell_of_heap h.1]; rfl, by rw [Lib.cell_of_heap h.1]; rfl, fun j => Lib.frozen_of_heap h.1 j⟩
theorem RAt.setPlace {b : Nat} {r : WP.RS} {w : World} (h : RAt b r w) (q : Nat) (hq : q ≤ r.s.length) (v : Int) (hv : v = q) : RAt b { r with p := q } (w.setCell ⟨b, 1, none⟩ (.int .i64 v)) := by
  subst hv
  exact ⟨by simp [World.setCell, Array.getElem?_modify, h.1], hq, h.2.2⟩
theorem RAt.setBad {b : Nat} {r : WP.RS} {w : World} (h : RAt b r w) : RAt b r.fail (w.setCell ⟨b, 2, none⟩ (.bool true)) := by
  exact ⟨by simp [World.setCell, Array.getElem?_modify, h.1, WP.RS.fail], h.2⟩

/-- What a call leaves that changes nothing but the reader and its own memory. -/
abbrev Kept (b : Nat) (w w' : World) : Prop := w.grownBy w' (some b)
theorem Kept.refl (b : Nat) (w : World) : Kept b w w := ⟨rfl, rfl, rfl, Nat.le_refl _, fun _ _ _ => rfl⟩
theorem Kept.of {b : Nat} {w w' : World} (h : Below w.heap.size w w') : Kept b w w' := ⟨h.os, h.tape, h.output, h.size, fun k hk _ => h.block k hk⟩
theorem Kept.trans {b : Nat} {w w1 w2 : World} (h : Kept b w w1) (k : Kept b w1 w2) : Kept b w w2 := ⟨k.os.trans h.os, k.tape.trans h.tape, k.output.trans h.output, Nat.le_trans h.size k.size, fun j hj hne => (k.block j (Nat.lt_of_lt_of_le hj h.size) hne).trans (h.block j hj hne)⟩
theorem Kept.set {b j : Nat} (w : World) (u : Value) : Kept b w (w.setCell ⟨b, j, none⟩ u) := ⟨rfl, rfl, rfl, by simp [World.setCell], fun k _ hk => Below.heap_setCell _ _ _ _ (fun e => hk (by simp [e]))⟩
theorem Kept.below {b B : Nat} {w w' : World} (h : Kept b w w') (h1 : B ≤ b) (h2 : B ≤ w.heap.size) : Below B w w' := (Below.refl B w).grown h h2 (fun k hk => by simp at hk; omega)

set_option maxHeartbeats 400000 in
theorem bad_any (b : Nat) (r : WP.RS) (w : World) (h : RAt b r w) : Calls Try.prog 22 #[.pointer (some ⟨b, 0, none⟩)] w fun e w' => e = .returned (.bool r.bad) ∧ w' = w := by
  obtain ⟨c0, c1, c2, _⟩ := h.cells
  go_enter Try.func22, Try.ntmps22
  go_wp2
  go_ret
  exact ⟨rfl, rfl⟩

set_option maxHeartbeats 400000 in
theorem left_any (b : Nat) (r : WP.RS) (w : World) (h : RAt b r w) : Calls Try.prog 23 #[.pointer (some ⟨b, 0, none⟩)] w fun e w' => e = .returned (.int .i64 r.left) ∧ Below w.heap.size w w' := by
  obtain ⟨c0, c1, c2, _⟩ := h.cells
  have hp := h.2.1
  have hs := h.2.2
  have hz := WP.S_size r.s
  have hbad := Lib.hid (bad_any b r w h)
  go_enter Try.func23, Try.ntmps23
  go_wp2_with (go_at_call 22; refine hbad.out.mono ?_; rintro e w1 ⟨rfl, rfl⟩)
  · go_ret
    rename_i hb
    exact ⟨ret1 (by simp [WP.RS.left, hb]), Below.refl _ _⟩
  · go_quiet (fail)
    go_wp2
    go_ret
    rename_i hb
    exact ⟨ret1 (by simp [WP.RS.left, hb]; omega), below_drewN (Below.refl _ _) _⟩
def CodeRel (w : World) (r : WP.RS) (c i : Value) (wr : World) : Prop := ∃ k acc : Nat, r.p + k ≤ r.s.length ∧ k ≤ 10 ∧ c = .int .u64 acc ∧ i = .int .i64 ((r.p + k : Nat) : Int) ∧ acc < 2 ^ (7 * k) ∧ WP.rd (r.s.drop r.p) 0 0 = WP.rd (r.s.drop (r.p + k)) k acc ∧ Below w.heap.size w wr
theorem CodeRel.out {w : World} {r : WP.RS} {c i : Value} {wr : World} (h : CodeRel w r c i wr) : ∃ k acc : Nat, r.p + k ≤ r.s.length ∧ k ≤ 10 ∧ c = .int .u64 acc ∧ i = .int .i64 ((r.p + k : Nat) : Int) ∧ acc < 2 ^ (7 * k) ∧ WP.rd (r.s.drop r.p) 0 0 = WP.rd (r.s.drop (r.p + k)) k acc ∧ Below w.heap.size w wr := h
set_option maxHeartbeats 400000 in
theorem new_any (s : List UInt8) (w : World) (hs : s.length ≤ 140737488355328) : Calls Try.prog 19 #[.string (WP.S s)] w fun e w' => e = .returned (.pointer (some ⟨w.heap.size, 0, none⟩)) ∧ RAt w.heap.size ⟨s, 0, false⟩ w' ∧ Below w.heap.size w w' := by
  go_enter Try.func19, Try.ntmps19
  go_wp2
  go_ret
  exact ⟨rfl, ⟨by rw [heap_alloc_new]; rfl, Nat.zero_le _, hs⟩, (Below.refl _ _).alloc (Nat.le_refl _) _⟩

set_option maxRecDepth 100000 in
set_option maxHeartbeats 1000000 in
theorem code_any (b : Nat) (r : WP.RS) (w : World) (h : RAt b r w) : Calls Try.prog 50 #[.pointer (some ⟨b, 0, none⟩)] w fun e w' =>
    (∃ c q ok, e = .returned (.tuple #[.int .u64 c, .int .i64 q, .bool ok]) ∧ (ok = true → ∃ c' k : Nat, c = c' ∧ q = ((r.p + k : Nat) : Int) ∧ WP.rd (r.s.drop r.p) 0 0 = some (c', k)) ∧ (ok = false → WP.rd (r.s.drop r.p) 0 0 = none)) ∧ Below w.heap.size w w' := by
  obtain ⟨c0, c1, c2, _⟩ := h.cells
  have hp := h.2.1
  have hs := h.2.2
  have hz := WP.S_size r.s
  have hlt := h.lt
  go_enter Try.func50, Try.ntmps50
  go_wp2
  go_loopw [2, 5] (fun c i wr => CodeRel w r c i wr) (fun _ i _ => r.s.length - (intOf i).toNat)
  case atStart => exact ⟨0, 0, by omega, by omega, rfl, rfl, by omega, rfl, Below.refl _ _⟩
  case round =>
    obtain ⟨k, acc, hk, hk9, rfl, rfl, hacc, hrd, hb⟩ := hrel.out
    have d0 := (hb.cell (p := ⟨b, 0, none⟩) hlt).trans c0
    have d1 := (hb.cell (p := ⟨b, 1, none⟩) hlt).trans c1
    by_cases hin : r.p + k < r.s.length
    · have hki : ((r.p + k : Nat) : Int) < (r.s.length : Int) := by omega
      obtain ⟨X, hX⟩ : ∃ X, ((WP.S r.s)[r.p + k]'(by rw [hz]; exact hin)).toNat = X := ⟨_, rfl⟩
      have hX256 : X < 256 := by rw [← hX]; exact UInt8.toNat_lt _
      have hand : bits BinOp.and IntKind.u8 (X : Int) 127 = ((X % 128 : Nat) : Int) := WP.and127 ⟨X, hX256⟩
      have h7 : (7 : Int) * ((r.p : Int) + k - r.p) = ((7 * k : Nat) : Int) := by omega
      have hlen := Lib.hid (fun w => Try.bits_Len64 ((X % 128 : Nat) : Int) w (by omega) (by omega))
      have hL8 : Lib.bitLen (X % 128) ≤ 8 := Lib.bitLen_le8 ⟨X % 128, by omega⟩
      have hstep := Lib.hid (WP.rd_step (s := r.s) (i := r.p + k) (X := X) (k := k) (acc := acc) hin (by rw [← hX, WP.S_get _ _ (by rw [hz]; exact hin), List.getD, List.getElem?_eq_getElem hin]; rfl))
      by_cases hbl : 64 < 7 * k + Lib.bitLen (X % 128)
      · go_wp2_with (go_at_call 76; refine (hlen.out _).mono ?_; rintro e w1 ⟨rfl, rfl⟩)
        go_ret3
        exact ⟨⟨_, _, _, rfl, fun h => absurd h (by decide), fun _ => by rw [hrd, hstep.out, if_pos hbl]⟩, hb⟩
      · have hor := WP.or_shift hacc (by omega : 7 * k + Lib.bitLen (X % 128) ≤ 64) (Nat.mod_lt _ (by decide))
        have hnx := Lib.hid (WP.acc_next (d := X % 128) hacc (Nat.mod_lt _ (by decide)))
        have hab : acc + 2 ^ (7 * k) * (X % 128) < 18446744073709551616 := WP.acc_small hacc (by omega : 7 * k + Lib.bitLen (X % 128) ≤ 64) (Nat.mod_lt _ (by decide))
        obtain ⟨cc, hcc⟩ : ∃ cc, bits BinOp.or IntKind.u64 (acc : Int) (IntKind.u64.wrap ((X : Int) % 128 * 2 ^ (7 * k))) = cc := ⟨_, rfl⟩
        have HOR : Hid (cc = ((acc + 2 ^ (7 * k) * (X % 128) : Nat) : Int)) := Lib.hid (by rw [← hcc, ← hor]; congr 2)
        clear hor
        by_cases hl : X < 128
        · go_wp2_with (go_at_call 76; refine (hlen.out _).mono ?_; rintro e w1 ⟨rfl, rfl⟩)
          clear hlen hand h7 hL8 hX hki c0 c1 c2 hcc
          by_cases hd : 0 < X % 128
          · have hdd : decide ((0 : Int) < (X : Int) % 128) = true := decide_eq_true (by omega)
            go_quiet (fail)
            go_wp2
            go_ret3
            exact ⟨⟨_, _, _, rfl, fun _ => ⟨_, k + 1, HOR.out, by omega, by rw [hrd, hstep.out, if_neg hbl, if_pos hl, if_pos (Or.inl hd)]⟩, fun h => by simp at h⟩, below_drewN hb _⟩
          · have hdd : decide ((0 : Int) < (X : Int) % 128) = false := decide_eq_false (by omega)
            have hkp : decide ((r.p : Int) + k = r.p) = decide (k = 0) := decide_eq_decide.2 (by omega)
            go_quiet (fail)
            go_wp2
            go_ret3
            refine ⟨⟨_, _, _, rfl, fun h => ⟨_, k + 1, HOR.out, by omega, ?_⟩, fun h => ?_⟩, below_drewN hb _⟩
            · rw [hrd, hstep.out, if_neg hbl, if_pos hl, if_pos (Or.inr ?_)]
              simp at h; omega
            · rw [hrd, hstep.out, if_neg hbl, if_pos hl, if_neg ?_]
              simp at h; omega
        · go_wp2_with (go_at_call 76; refine (hlen.out _).mono ?_; rintro e w1 ⟨rfl, rfl⟩)
          exact ⟨⟨k + 1, _, by omega, by omega, congrArg (Value.int .u64) HOR.out, congrArg (Value.int .i64) (by omega), hnx.out, by rw [hrd, hstep.out, if_neg hbl, if_neg hl]; rfl, hb⟩, by simp [intOf]; omega⟩
    · go_wp2
      go_ret3
      exact ⟨⟨_, _, _, rfl, fun h => absurd h (by decide), fun _ => by rw [hrd, List.drop_eq_nil_of_le (by omega)]; rfl⟩, hb⟩
end Go.Proofs.Ytinkhgmdeldniaa.W
