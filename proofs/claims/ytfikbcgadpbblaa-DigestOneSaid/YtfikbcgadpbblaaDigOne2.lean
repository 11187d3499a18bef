/- A string in which one byte is another one; its pieces. No conditions. -/
import Derived.Test.YtfikbcgadpbblaaDigSane
import Derived.Test.YtfikbcgadpbblaaDigCut
import Derived.Test.YtfikbcgadpbblaaDigOne
namespace Go.Proofs.Ytfikbcgadpbblaa
set_option linter.unusedVariables false
open Go.RowKit
theorem of_ne {s : ByteArray} {k : Nat} {d : UInt8} (hk : k < s.size) (hd : s[k] ≠ d) : DG.Of s ≠ DG.Of (s.extract 0 k ++ (DG.S [d] ++ s.extract (k + 1) s.size)) := by
  intro h
  have h2 := DG.S_inj h
  obtain ⟨l, hl⟩ : ∃ l, s.data.toList = l := ⟨_, rfl⟩
  have hk' : k < l.length := by rw [← hl]; exact hk
  have e1 : l = l.take k ++ l[k] :: l.drop (k + 1) := by
    rw [List.getElem_cons_drop, List.take_append_drop]
  have p1 : (s.extract 0 k).data.toList = l.take k := by rw [ByteArray.data_extract, Array.toList_extract, hl]; rfl
  have p2 : (s.extract (k + 1) s.size).data.toList = l.drop (k + 1) := by
    rw [ByteArray.data_extract, Array.toList_extract, hl]
    exact List.take_of_length_le (by rw [List.length_drop, ← hl]; exact Nat.le_refl _)
  have e2 : (s.extract 0 k ++ (DG.S [d] ++ s.extract (k + 1) s.size)).data.toList = l.take k ++ d :: l.drop (k + 1) := by
    rw [ByteArray.data_append, Array.toList_append, ByteArray.data_append, Array.toList_append, p1, p2]
    rfl
  have e3 : l[k] = s[k] := by
    subst hl
    rfl
  rw [hl, e2] at h2
  rw [← e3] at hd
  have h3 := DG.dig_ne (l.take k) (l.drop (k + 1)) hd
  rw [← e1] at h3
  exact h3 h2
theorem slice_from (X : ByteArray) (m : Nat) (h : (m : Int) ≤ (X.size : Int)) (V : World) : (Instr.slice 9 (.string X) (some (.int .i64 (m : Int))) none none).run Try.prog V = .ok (.string (X.extract m X.size)) V := by
  have := run_slice_string_l (P := Try.prog) (w := V) (t := 9) (s := X) Try.underlying9 .i64 (m : Int) (by omega) h
  rw [Int.toNat_natCast] at this
  exact this
theorem slice_to (X : ByteArray) (m : Nat) (h : (m : Int) ≤ (X.size : Int)) (V : World) : (Instr.slice 9 (.string X) none (some (.int .i64 (m : Int))) none).run Try.prog V = .ok (.string (X.extract 0 m)) V := by
  have := run_slice_string_h (P := Try.prog) (w := V) (t := 9) (s := X) Try.underlying9 .i64 (m : Int) (by omega) h
  rw [Int.toNat_natCast] at this
  exact this
theorem xor8 (x y : Nat) (hx : x < 256) (hy : y < 256) (h0 : y ≠ 0) : bits BinOp.xor IntKind.u8 (x : Int) (y : Int) = ((x ^^^ y : Nat) : Int) ∧ x ^^^ y < 256 ∧ x ^^^ y ≠ x := by
  have hlt : x ^^^ y < 2 ^ 8 := Nat.xor_lt_two_pow (by omega) (by omega)
  refine ⟨?_, hlt, fun h => h0 ?_⟩
  · have h1 : (BitVec.ofInt 8 (x : Int)).toNat = x := by
      rw [BitVec.ofInt_natCast, BitVec.toNat_ofNat]; exact Nat.mod_eq_of_lt (by omega)
    have h2 : (BitVec.ofInt 8 (y : Int)).toNat = y := by
      rw [BitVec.ofInt_natCast, BitVec.toNat_ofNat]; exact Nat.mod_eq_of_lt (by omega)
    show IntKind.u8.wrap ((BitVec.ofInt 8 (x : Int) ^^^ BitVec.ofInt 8 (y : Int)).toNat : Int) = _
    rw [BitVec.toNat_xor, h1, h2]
    have : IntKind.u8.wrap (((x ^^^ y : Nat) : Int)) = ((x ^^^ y : Nat) : Int) % 256 := by simp [IntKind.wrap, IntKind.bits, IntKind.signed]
    rw [this]
    omega
  · have e : x ^^^ (x ^^^ y) = x ^^^ x := by rw [h]
    rwa [← Nat.xor_assoc, Nat.xor_self, Nat.zero_xor] at e
end Go.Proofs.Ytfikbcgadpbblaa
