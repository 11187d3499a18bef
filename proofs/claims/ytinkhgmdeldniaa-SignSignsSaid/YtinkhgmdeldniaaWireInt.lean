/- The contracts of wire.Int, wire.Text and of the reference's: the bytes that the plain functions say, for every number and every string. -/
import Derived.Test.YtinkhgmdeldniaaRows
import Derived.Handy
import Derived.BigQuiet
import Derived.Deep.QuietTactic
import Derived.Laws.EntriesVeiled
import Derived.WalkSmall
import Derived.Lib.Hide
import Derived.WalkSpells
import Derived.WalkLawsBesides
import Derived.ArgAppend
import Derived.Lib.SlBytesRow
import Derived.Test.YtinkhgmdeldniaaWirePlain
namespace Go.Proofs.Ytinkhgmdeldniaa.W
set_option maxRecDepth 100000
open Go.RowKit

theorem bnext {w w1 w2 : World} (h : Below w.heap.size w w1) (k : Below w1.heap.size w1 w2) : Below w.heap.size w w2 := h.trans (k.mono h.size)
theorem balloc {w w1 : World} (h : Below w.heap.size w w1) (o : Obj) : Below w.heap.size w (w1.alloc o) := h.alloc h.size o
theorem bset {w w1 : World} (h : Below w.heap.size w w1) {p : Addr} (hp : w.heap.size ≤ p.block) (u : Value) : Below w.heap.size w (w1.setCell p u) := h.setCell hp u
theorem ret1 {a b : Int} (h : a = b) : Ending.returned (.int .i64 a) = .returned (.int .i64 b) := by rw [h]
theorem retb {a b : Bool} (h : a = b) : Ending.returned (.bool a) = .returned (.bool b) := by rw [h]
theorem rets {a b : ByteArray} (h : a = b) : Ending.returned (.string a) = .returned (.string b) := by rw [h]
theorem info_byte : (Try.prog.info? 5).map (fun i => (i.zero, i.size, i.bytes)) = some (some (.int .u8 0), 1, 1) := by kernel_rfl

/-- One value appended to a row of one-cell elements that has room. -/
theorem wpList_push {P : Program} {w : World} {ops : Array Oper} {rest : List Oper} {o : Oper} {a : Act} {Q : Exit → Act → World → Prop}
    (hg : o.guard = none) (s x : Operand) (t : TypeId) (hop : o.op = Op.call { callee := Callee.builtin Builtin.append, args := #[s, x], argTypes := #[t, t] })
    (e : TypeId) (i : TypeInfo) (h1 : P.underlying t = some (.slice e)) (h2 : P.info? e = some i) (h4 : i.size = 1)
    (b n cap : Nat) (hs : a.eval s = .slice (some ⟨b, 0, none⟩) n cap) (g : Nat) (c : Nat) (u : Value) (hx : a.eval x = .slice (some ⟨g, 0, none⟩) 1 c)
    (hu : w.cell? ⟨g, 0, none⟩ = some u) (h1c : u.oneCell' = true) (hroom : n < cap) (hc : (w.cell? ⟨b, n, none⟩).isSome = true) (hf : w.frozen? ⟨b, n, none⟩ = false)
    (h : wpList P ops Q rest (a.put o.dst (.slice (some ⟨b, 0, none⟩) (n + 1) cap)) (w.setCell ⟨b, n, none⟩ u)) : wpList P ops Q (o :: rest) a w := by
  refine wpList_plain hg fun K hK' => ?_
  have hrun := run_append_room_cells (P := P) w t o.type e i h1 h2 b 0 n cap ⟨g, 0, none⟩ 1 c [u] (by simp [h4]) (fun j v hj => by
    match j, hj with
    | 0, hj => simp at hj; subst hj; rw [Addr.add_lit]; simpa using hu) (by simpa using h1c) (by omega) (fun j hj => by
    obtain rfl : j = 0 := by simpa using hj
    simpa [h4] using hc) (fun j hj => by
    obtain rfl : j = 0 := by simpa using hj
    simpa [h4] using hf)
  have hset : w.setCells b (0 + n * i.size) [u] = w.setCell ⟨b, n, none⟩ u := by simp [World.setCells, h4]
  rw [hset] at hrun
  unfold Oper.wp
  simp [execOp, hop, resolve, invoke, builtin, hs, hx, hrun, Result.andThen]
  exact hK' _ _ h

/-- What holds at the head of the loop: k digits are written, and x is left. -/
def IntLoop (w : World) (c : Nat) (l x : Value) (wr : World) : Prop :=
  ∃ k y : Nat, k ≤ 9 ∧ l = .slice (some ⟨w.heap.size, 0, none⟩) k 10 ∧ x = .int .u64 y ∧ Hid (y = c / 128 ^ k) ∧ Hid (∀ j, j < k → 128 ≤ c / 128 ^ j) ∧
    Hid (∀ j, j < k → wr.cell? ⟨w.heap.size, j, none⟩ = some (.int .u8 ((c / 128 ^ j % 128 + 128 : Nat) : Int))) ∧
    Hid (∀ j, j < 10 → (wr.cell? ⟨w.heap.size, j, none⟩).isSome = true ∧ wr.frozen? ⟨w.heap.size, j, none⟩ = false) ∧ w.heap.size < wr.heap.size ∧ Below w.heap.size w wr
theorem IntLoop.out {w : World} {c : Nat} {l x : Value} {wr : World} (h : IntLoop w c l x wr) :
  ∃ k y : Nat, k ≤ 9 ∧ l = .slice (some ⟨w.heap.size, 0, none⟩) k 10 ∧ x = .int .u64 y ∧ Hid (y = c / 128 ^ k) ∧ Hid (∀ j, j < k → 128 ≤ c / 128 ^ j) ∧
    Hid (∀ j, j < k → wr.cell? ⟨w.heap.size, j, none⟩ = some (.int .u8 ((c / 128 ^ j % 128 + 128 : Nat) : Int))) ∧
    Hid (∀ j, j < 10 → (wr.cell? ⟨w.heap.size, j, none⟩).isSome = true ∧ wr.frozen? ⟨w.heap.size, j, none⟩ = false) ∧ w.heap.size < wr.heap.size ∧ Below w.heap.size w wr := h

theorem IntLoop.next {w : World} {c k x : Nat} {wr : World} (hk : k < 9) (hx : 128 ≤ x) (HX : Hid (x = c / 128 ^ k)) (HM : Hid (∀ j, j < k → 128 ≤ c / 128 ^ j))
    (HC : Hid (∀ j, j < k → wr.cell? ⟨w.heap.size, j, none⟩ = some (.int .u8 ((c / 128 ^ j % 128 + 128 : Nat) : Int))))
    (HS : Hid (∀ j, j < 10 → (wr.cell? ⟨w.heap.size, j, none⟩).isSome = true ∧ wr.frozen? ⟨w.heap.size, j, none⟩ = false)) (hlt : w.heap.size < wr.heap.size) (hb : Below w.heap.size w wr) (o : Obj) :
    IntLoop w c (.slice (some ⟨w.heap.size, 0, none⟩) (k + 1) 10) (.int .u64 ((x : Int) / 128)) ((wr.setCell ⟨w.heap.size, k, none⟩ (.int .u8 ((x : Int) % 128 + 128))).alloc o) := by
  have e0 : c / 128 ^ (k + 1) = x / 128 := by rw [HX.out, WP.div_next]
  obtain ⟨u, hu⟩ := Option.isSome_iff_exists.1 (HS.out k (by omega)).1
  have past : ∀ j, ((wr.setCell ⟨w.heap.size, k, none⟩ (.int .u8 ((x : Int) % 128 + 128))).alloc o).cell? ⟨w.heap.size, j, none⟩ = (wr.setCell ⟨w.heap.size, k, none⟩ (.int .u8 ((x : Int) % 128 + 128))).cell? ⟨w.heap.size, j, none⟩ := fun j => World.cell?_alloc_past _ _ _ (by simpa using hlt)
  refine ⟨k + 1, x / 128, by omega, rfl, congrArg (Value.int .u64) (by omega), Lib.hid e0.symm, Lib.hid fun j hj => ?_, Lib.hid fun j hj => ?_, Lib.hid fun j hj => ⟨?_, ?_⟩, by simp; try omega, ?_⟩
  · rcases Nat.lt_or_ge j k with h | h
    · exact HM.out j h
    · obtain rfl : j = k := by omega
      rw [← HX.out]; exact hx
  · rw [past j]
    rcases Nat.lt_or_ge j k with h | h
    · exact (World.cell?_setCell_other _ _ _ _ (by simp; try omega)).trans (HC.out j h)
    · obtain rfl : j = k := by omega
      rw [World.cell?_setCell_same _ _ _ hu, ← HX.out]
      exact congrArg (fun z => some (Value.int .u8 z)) (by omega)
  · rw [past j]
    rcases Nat.lt_or_ge j k with h | h
    · rw [World.cell?_setCell_other _ _ _ _ (by simp; try omega)]; exact (HS.out j hj).1
    · rcases Nat.lt_or_ge k j with h2 | h2
      · rw [World.cell?_setCell_other _ _ _ _ (by simp; try omega)]; exact (HS.out j hj).1
      · obtain rfl : j = k := by omega
        rw [World.cell?_setCell_same _ _ _ hu]; rfl
  · rw [World.frozen?_alloc_past _ _ _ (by simpa using hlt), World.frozen?_setCell]
    exact (HS.out j hj).2
  · exact (hb.setCell (p := ⟨w.heap.size, k, none⟩) (Nat.le_refl _) _).alloc (by simp; try omega) o

/-- The bytes written, as a string. -/
theorem conv_of {wr : World} {B c k x : Nat} {T : TypeId} (HC : Hid (∀ j, j < k → wr.cell? ⟨B, j, none⟩ = some (.int .u8 ((c / 128 ^ j % 128 + 128 : Nat) : Int)))) (hs : (wr.cell? ⟨B, k, none⟩).isSome = true) (hlt : B < wr.heap.size) (hx : x < 128) :
    (convert 51 9 (.slice (some ⟨B, 0, none⟩) (k + 1) 10)).run Try.prog ((wr.setCell ⟨B, k, none⟩ (.int .u8 (x : Int))).alloc (.cells #[.int .u8 (x : Int)] T)) =
      .ok (.string (WP.S (WP.pre c k ++ [UInt8.ofNat x]))) ((wr.setCell ⟨B, k, none⟩ (.int .u8 (x : Int))).alloc (.cells #[.int .u8 (x : Int)] T)) := by
  obtain ⟨u, hu⟩ := Option.isSome_iff_exists.1 hs
  have hsz : (WP.S (WP.pre c k ++ [UInt8.ofNat x])).size = k + 1 := by rw [WP.S_size]; simp [WP.pre_len]
  have := Lib.run_convert_whole (P := Try.prog) ((wr.setCell ⟨B, k, none⟩ (.int .u8 (x : Int))).alloc (.cells #[.int .u8 (x : Int)] T)) 51 5 9 Try.underlying51 Try.underlying5 Try.underlying9 B 0 (WP.S (WP.pre c k ++ [UInt8.ofNat x])) (fun i h => by
    rw [hsz] at h
    rw [WP.S_get, Nat.zero_add, World.cell?_alloc_past _ _ _ (by simpa using hlt)]
    rcases Nat.lt_or_ge i k with e | e
    · rw [WP.pre_getD e, World.cell?_setCell_other _ _ _ _ (by simp; try omega)]
      exact HC.out i e
    · obtain rfl : i = k := by omega
      rw [WP.pre_getD_last, World.cell?_setCell_same _ _ _ hu]
      exact congrArg (fun z => some (Value.int .u8 z)) (by simp; omega)) 10
  rw [hsz] at this
  exact this

set_option maxRecDepth 100000 in
set_option maxHeartbeats 1000000 in
theorem int_any (n : Int) (w : World) (n0 : -9223372036854775808 ≤ n) (n1 : n ≤ 9223372036854775807) :
    Calls Try.prog 42 #[.int .i64 n] w fun e w' => e = .returned (.string (WP.S (WP.int n))) ∧ Below w.heap.size w w' := by
  have hc := WP.zz_lt n0 n1
  have hzig := WP.zig n0 n1
  have HR : Hid (WP.S (WP.int n) = WP.S (WP.enc (WP.zz n))) := Lib.hid rfl
  generalize WP.zz n = c at *
  obtain ⟨i0, hi, hz0, hz1, hz2⟩ := info_parts info_byte
  go_enter Try.func42, Try.ntmps42
  go_wp2
  clear hzig
  go_loopw [4, 5] (fun l x wr => IntLoop w c l x wr) (fun _ x _ => (intOf x).toNat)
  case atStart => exact ⟨0, c, by omega, rfl, rfl, Lib.hid (by simp), Lib.hid fun j hj => absurd hj (by omega), Lib.hid fun j hj => absurd hj (by omega), Lib.hid fun j hj => ⟨by
      match j, hj with
      | 0, _ | 1, _ | 2, _ | 3, _ | 4, _ | 5, _ | 6, _ | 7, _ | 8, _ | 9, _ => rw [World.cell?_alloc_at _ _ _ _ rfl]; rfl, World.frozen?_alloc_at _ _ _ _ rfl⟩, by simp, (Below.refl _ _).alloc (Nat.le_refl _) _⟩
  case round =>
    obtain ⟨k, x, hk, rfl, rfl, HX, HM, HC, HS, hlt, hb⟩ := hrel.out
    by_cases hx : 128 ≤ x
    · have hk9 : k < 9 := WP.ninth hc (by rw [← HX.out]; exact hx)
      have hcell := (HS.out k (by omega)).1
      have hfr := (HS.out k (by omega)).2
      have hm := WP.mark' (x := x)
      go_wp2_with (at_builtin; refine wpList_push rfl _ _ 51 rfl 5 i0 Try.underlying51 hi hz1 w.heap.size k 10 rfl wr.heap.size 1 (.int .u8 ((x % 128 + 128 : Nat) : Int)) rfl ?c1 rfl (by omega) ?c2 ?c3 ?_)
      case c1 => rw [World.cell?_alloc_at _ _ _ _ rfl]; exact congrArg (fun z => some (Value.int .u8 z)) (by omega)
      case c2 => rw [World.cell?_alloc_past _ _ _ hlt]; exact hcell
      case c3 => rw [World.frozen?_alloc_past _ _ _ hlt]; exact hfr
      exact ⟨IntLoop.next hk9 hx HX HM HC HS hlt hb _, by simp [intOf]; omega⟩
    · have hcell := (HS.out k (by omega)).1
      have hfr := (HS.out k (by omega)).2
      have hE : Hid (WP.enc c = WP.pre c k ++ [UInt8.ofNat x]) := Lib.hid (by rw [HX.out]; exact WP.enc_of hc HM.out (by rw [← HX.out]; omega))
      have hconv := conv_of (T := 5) HC hcell hlt (show x < 128 by omega)
      rw [← hE.out] at hconv
      go_wp2_with (at_builtin; refine wpList_push rfl _ _ 51 rfl 5 i0 Try.underlying51 hi hz1 w.heap.size k 10 rfl wr.heap.size 1 (.int .u8 (x : Int)) rfl ?c1 rfl (by omega) ?c2 ?c3 ?_)
      case c1 => rw [World.cell?_alloc_at _ _ _ _ rfl]; rfl
      case c2 => rw [World.cell?_alloc_past _ _ _ hlt]; exact hcell
      case c3 => rw [World.frozen?_alloc_past _ _ _ hlt]; exact hfr
      go_ret
      exact ⟨rets HR.out.symm, (hb.setCell (p := ⟨w.heap.size, k, none⟩) (Nat.le_refl _) _).alloc (by simp; try omega) _⟩
set_option maxHeartbeats 400000 in
theorem text_any (s : ByteArray) (w : World) (hs : s.size ≤ 4611686018427387904) :
    Calls Try.prog 72 #[.string s] w fun e w' => e = .returned (.string (WP.S (WP.text s.data.toList))) ∧ Below w.heap.size w w' := by
  have h10 := WP.int_size (s.size : Int)
  go_enter Try.func72, Try.ntmps72
  go_wp2_with (go_at_call 42; refine (int_any _ _ (by omega) (by omega)).mono ?_; rintro e w1 ⟨rfl, hb1⟩)
  go_ret
  exact ⟨rets (by apply ByteArray.ext; simp [WP.text, WP.S]), hb1⟩

set_option maxHeartbeats 400000 in
theorem rcode_any (n : Int) (w : World) (n0 : -9223372036854775808 ≤ n) (n1 : n ≤ 9223372036854775807) :
    Calls Try.prog 78 #[.int .i64 n] w fun e w' => e = .returned (.int .u64 (WP.zz n : Nat)) ∧ w = w' := by
  go_enter Try.func78, Try.ntmps78
  go_wp2
  all_goals
    go_ret
    exact ⟨congrArg (fun z => Ending.returned (.int .u64 z)) (by unfold WP.zz; split <;> omega), rfl⟩

/-- One byte, as a string. -/
theorem one_byte (w : World) (v : Int) (h0 : 0 ≤ v) (h1 : v < 256) :
    (convert 51 9 (.slice (some ⟨w.heap.size, 0, none⟩) 1 1)).run Try.prog (w.alloc (.cells #[.int .u8 v] 5)) = .ok (.string (WP.one v)) (w.alloc (.cells #[.int .u8 v] 5)) := by
  have := Lib.run_convert_whole (P := Try.prog) (w.alloc (.cells #[.int .u8 v] 5)) 51 5 9 Try.underlying51 Try.underlying5 Try.underlying9 w.heap.size 0 (WP.S [UInt8.ofNat v.toNat]) (fun i h => by
    obtain rfl : i = 0 := by rw [WP.S_size] at h; simpa using h
    rw [WP.S_get, Nat.zero_add, World.cell?_alloc_at _ _ _ _ rfl]
    exact congrArg (fun z => some (Value.int .u8 z)) (by simp; omega)) 1
  rw [WP.S_size] at this
  exact this
/-- What holds at the head of the reference's loop. -/
def RIntLoop (w : World) (c : Nat) (x s : Value) (wr : World) : Prop :=
  ∃ k y : Nat, k ≤ 9 ∧ x = .int .u64 y ∧ s = .string (WP.S (WP.pre c k)) ∧ Hid (y = c / 128 ^ k) ∧ Hid (∀ j, j < k → 128 ≤ c / 128 ^ j) ∧ Below w.heap.size w wr
theorem RIntLoop.out {w : World} {c : Nat} {x s : Value} {wr : World} (h : RIntLoop w c x s wr) :
  ∃ k y : Nat, k ≤ 9 ∧ x = .int .u64 y ∧ s = .string (WP.S (WP.pre c k)) ∧ Hid (y = c / 128 ^ k) ∧ Hid (∀ j, j < k → 128 ≤ c / 128 ^ j) ∧ Below w.heap.size w wr := h

set_option maxRecDepth 100000 in
set_option maxHeartbeats 1000000 in
theorem rint_any (n : Int) (w : World) (n0 : -9223372036854775808 ≤ n) (n1 : n ≤ 9223372036854775807) :
    Calls Try.prog 54 #[.int .i64 n] w fun e w' => e = .returned (.string (WP.S (WP.int n))) ∧ Below w.heap.size w w' := by
  have hc := WP.zz_lt n0 n1
  have HR : Hid (WP.S (WP.int n) = WP.S (WP.enc (WP.zz n))) := Lib.hid rfl
  have hcode := Lib.hid (rcode_any n w n0 n1)
  generalize WP.zz n = c at *
  go_enter Try.func54, Try.ntmps54
  go_wp2_with (go_at_call 78; refine hcode.out.mono ?_; rintro e w1 ⟨rfl, rfl⟩)
  go_loopw [3, 4] (fun x s wr => RIntLoop w c x s wr) (fun x _ _ => (intOf x).toNat)
  case atStart => exact ⟨0, c, by omega, rfl, congrArg Value.string (by simp [WP.pre, WP.S]), Lib.hid (by simp), Lib.hid fun j hj => absurd hj (by omega), Below.refl _ _⟩
  case round =>
    obtain ⟨k, x, hk, rfl, rfl, HX, HM, hb⟩ := hrel.out
    have hp : (WP.S (WP.pre c k)).size ≤ 9 := by rw [WP.S_size, WP.pre_len]; exact hk
    by_cases hx : 128 ≤ x
    · have hk9 : k < 9 := WP.ninth hc (by rw [← HX.out]; exact hx)
      have hconv := one_byte wr ((x : Int) % 128 + 128) (by omega) (by omega)
      have hs1 := WP.one_size ((x : Int) % 128 + 128)
      have HE : Hid (WP.S (WP.pre c k) ++ WP.one ((x : Int) % 128 + 128) = WP.S (WP.pre c (k + 1))) := Lib.hid (by
        unfold WP.one
        rw [WP.S_append, WP.pre_succ, ← HX.out, show ((x : Int) % 128 + 128).toNat = x % 128 + 128 by omega])
      have hn : ∀ j, j < k + 1 → 128 ≤ c / 128 ^ j := fun j hj => by
        rcases Nat.lt_or_ge j k with h | h
        · exact HM.out j h
        · obtain rfl : j = k := by omega
          rw [← HX.out]; exact hx
      have HN := Lib.hid hn
      clear hn
      have hxc : x ≤ c := by rw [HX.out]; exact Nat.div_le_self _ _
      go_wp2
      exact ⟨⟨k + 1, x / 128, by omega, congrArg (Value.int .u64) (by omega), congrArg Value.string HE.out, Lib.hid (by rw [HX.out, WP.div_next]), HN, balloc hb _⟩, by simp [intOf]; omega⟩
    · have hxc : x ≤ c := by rw [HX.out]; exact Nat.div_le_self _ _
      have hconv := one_byte wr (x : Int) (by omega) (by omega)
      have hs1 := WP.one_size (x : Int)
      have HE : Hid (WP.S (WP.pre c k) ++ WP.one (x : Int) = WP.S (WP.enc c)) := Lib.hid (by
        rw [WP.enc_of hc HM.out (by rw [← HX.out]; omega), ← HX.out]
        unfold WP.one
        rw [WP.S_append, show ((x : Int)).toNat = x by omega])
      go_wp2
      go_ret
      exact ⟨rets (by rw [HE.out, HR.out]), balloc hb _⟩

set_option maxHeartbeats 400000 in
theorem rtext_any (s : ByteArray) (w : World) (hs : s.size ≤ 4611686018427387904) :
    Calls Try.prog 53 #[.string s] w fun e w' => e = .returned (.string (WP.S (WP.text s.data.toList))) ∧ Below w.heap.size w w' := by
  have h10 := WP.int_size (s.size : Int)
  go_enter Try.func53, Try.ntmps53
  go_wp2_with (go_at_call 54; refine (rint_any _ _ (by omega) (by omega)).mono ?_; rintro e w1 ⟨rfl, hb1⟩)
  go_ret
  exact ⟨rets (by apply ByteArray.ext; simp [WP.text, WP.S]), hb1⟩
end Go.Proofs.Ytinkhgmdeldniaa.W
