/- The reference's digests. -/
import Derived.Test.YtinkhgmdeldniaaDigNode
namespace Go.Proofs.Ytinkhgmdeldniaa
set_option linter.unusedVariables false
open Go.RowKit
set_option maxRecDepth 100000 in
set_option maxHeartbeats 1000000 in
theorem bytes4_any (n : Nat) (hn : n < 2147483648) (w : World) : Calls Try.prog 57 #[.int .i64 n] w fun e w' => e = .returned (.string (DG.S (DG.b4 n))) ∧ Below w.heap.size w w' := by
  have hcv := conv_lit w (DG.b4 n) 4 4 5 rfl
  have e : ((DG.b4 n).map fun b => Value.int .u8 (b.toNat : Int)).toArray = #[.int .u8 (n / 16777216), .int .u8 (n / 65536 % 256), .int .u8 (n / 256 % 256), .int .u8 (n % 256)] := by
    have e0 : (n : Int) / 16777216 % 256 = n / 16777216 := by omega
    simp [DG.b4, e0]
  rw [e] at hcv
  obtain ⟨r, hr⟩ : ∃ r, DG.S (DG.b4 n) = r := ⟨_, rfl⟩
  rw [hr] at hcv ⊢
  clear e hr
  go_enter Try.func57, Try.ntmps57
  go_wp2
  go_ret
  exact ⟨rfl, balloc (Below.refl _ _) _⟩
set_option maxRecDepth 100000 in
set_option maxHeartbeats 4000000 in
theorem rOf_any (s : ByteArray) (w : World) (hs : s.size ≤ maxLen) : Calls Try.prog 28 #[.string s] w fun e w' => e = .returned (.string (DG.Of s)) ∧ Below w.heap.size w w' := by
  unfold maxLen at hs
  go_enter Try.func28, Try.ntmps28
  go_wp2
  go_loopw [3, 4, 5] (fun v3 v4 v5 wr => ∃ j : Nat, j ≤ s.size ∧ v3 = .int .i64 (DG.X (s.data.toList.take j)) ∧ v4 = .int .i64 (DG.Y (s.data.toList.take j)) ∧ v5 = .int .i64 j ∧ Below w.heap.size w wr) (fun _ _ v _ => s.size - (intOf v).toNat)
  case atStart => exact ⟨0, Nat.zero_le _, rfl, rfl, rfl, Below.refl _ _⟩
  case round =>
    obtain ⟨j, hj, rfl, rfl, rfl, hb⟩ := hrel
    have hX := DG.X_lt (s.data.toList.take j)
    have hY := DG.Y_lt (s.data.toList.take j)
    by_cases hjl : j < s.size
    · have hji : (j : Int) < (s.size : Int) := by omega
      obtain ⟨n, hn⟩ : ∃ n, s[j].toNat = n := ⟨_, rfl⟩
      have hn2 : n < 256 := by rw [← hn]; exact s[j].toNat_lt
      obtain ⟨X', hX1⟩ : ∃ X', DG.X (s.data.toList.take (j + 1)) = X' := ⟨_, rfl⟩
      obtain ⟨Y', hY1⟩ : ∃ Y', DG.Y (s.data.toList.take (j + 1)) = Y' := ⟨_, rfl⟩
      have HX := Lib.hid hX1
      have HY := Lib.hid hY1
      rw [DG.take_snoc s hjl, DG.X_snoc] at hX1
      rw [DG.take_snoc s hjl, DG.Y_snoc] at hY1
      generalize DG.X (s.data.toList.take j) = x at *
      generalize DG.Y (s.data.toList.take j) = y at *
      unfold DG.fx at hX1
      unfold DG.fy at hY1
      rw [hn] at hX1 hY1
      have x0 : (x : Int) * 1000003 ≤ 2147490089486351 := by omega
      have y0 : (y : Int) * 69069 ≤ 148324546702332 := by omega
      have x1 : ((x : Int) * 1000003 + (n : Int) + 1) % 2147483647 = (X' : Int) := by omega
      have y1 : ((y : Int) * 69069 + (n : Int) + 1) % 2147483629 = (Y' : Int) := by omega
      have x2 : ((x : Int) * 1000003 + (n : Int) + 1).tmod 2147483647 = (X' : Int) := by rw [Int.tmod_eq_emod_of_nonneg (by omega)]; exact x1
      have y2 : ((y : Int) * 69069 + (n : Int) + 1).tmod 2147483629 = (Y' : Int) := by rw [Int.tmod_eq_emod_of_nonneg (by omega)]; exact y1
      clear hX1 hY1
      go_wp2
      case roundEnd => exact ⟨⟨j + 1, hjl, by rw [HX.out], by rw [HY.out], by go_num, hb⟩, by simp [intOf]; omega⟩
    · have hje : j = s.size := by omega
      subst hje
      have hji : ¬ (s.size : Int) < (s.size : Int) := by omega
      have hfu : s.data.toList.take s.size = s.data.toList := List.take_of_length_le (by rw [Array.length_toList]; exact Nat.le_refl _)
      rw [hfu] at hX hY ⊢
      have HO : Hid (DG.S (DG.b4 (DG.X s.data.toList)) ++ DG.S (DG.b4 (DG.Y s.data.toList)) = DG.Of s) := Lib.hid (by rw [DG.S_append]; unfold DG.Of DG.dig; with_reducible rfl)
      have hX' : DG.X s.data.toList < 2147483648 := by omega
      have hY' : DG.Y s.data.toList < 2147483648 := by omega
      generalize DG.X s.data.toList = x at *
      generalize DG.Y s.data.toList = y at *
      clear hfu hX hY
      go_wp2_with (first | (go_at_call 57; refine (bytes4_any _ (by with_reducible assumption) _).mono ?_; rintro e w1 ⟨rfl, hb1⟩))
      go_ret
      exact ⟨by rw [← HO.out]; rfl, by repeat' (first | exact Below.refl _ _ | (with_reducible assumption) | (refine bnext ?_ (by with_reducible assumption)) | (refine balloc ?_ _) | (refine below_drewN ?_ _) | (refine Below.drew ?_))⟩
set_option maxRecDepth 100000 in
set_option maxHeartbeats 1000000 in
theorem rPair_any (a b : ByteArray) (w : World) (ha : a.size < 2147483648) (hb : b.size < 2147483648) : Calls Try.prog 55 #[.string a, .string b] w fun e w' => e = .returned (.string (DG.Pair a b)) ∧ Below w.heap.size w w' := by
  obtain ⟨h, hh⟩ : ∃ h, DG.S (DG.b4 a.size) = h := ⟨_, rfl⟩
  have h4 : h.size = 4 := by rw [← hh, DG.S_size]; rfl
  have z1 : (⟨#[1]⟩ : ByteArray).size = 1 := rfl
  have z2 : ((⟨#[1]⟩ : ByteArray) ++ h).size = 5 := by rw [ByteArray.size_append, h4]; rfl
  have z3 : ((⟨#[1]⟩ : ByteArray) ++ h ++ a).size = 5 + a.size := by rw [ByteArray.size_append, z2]
  have HL : Hid ((⟨#[1]⟩ ++ h ++ a ++ b : ByteArray).size ≤ maxLen) := Lib.hid (by
    rw [ByteArray.size_append, z3]
    unfold maxLen; omega)
  have HP : Hid (DG.Of (⟨#[1]⟩ ++ h ++ a ++ b) = DG.Pair a b) := Lib.hid (by
    rw [← hh]
    unfold DG.Of DG.Pair DG.pairL
    simp [DG.S])
  have HC := Lib.hid (fun w => bytes4_any a.size ha w)
  rw [hh] at HC
  clear hh
  go_enter Try.func55, Try.ntmps55
  go_wp2_with (first | (go_at_call 57; refine (HC.out _).mono ?_; rintro e w1 ⟨rfl, hb1⟩) | (go_at_call 28; refine (rOf_any _ _ HL.out).mono ?_; rintro e w2 ⟨rfl, hb2⟩))
  go_ret
  exact ⟨by rw [← HP.out]; rfl, bnext (bnext (Below.refl _ _) hb1) hb2⟩
set_option maxRecDepth 100000 in
set_option maxHeartbeats 1000000 in
theorem rtop_any (k : Nat) (b : ByteArray) (w : World) (ha : k < 256) (hb : b.size < 2147483648) : Calls Try.prog 56 #[.int .i64 k, .string b] w fun e w' => e = .returned (.string (DG.S (DG.dig (DG.rootL k b)))) ∧ Below w.heap.size w w' := by
  have hcv := conv_lit w [UInt8.ofNat k] 1 1 5 rfl
  have e : (([UInt8.ofNat k] : List UInt8).map fun b => Value.int .u8 (b.toNat : Int)).toArray = #[.int .u8 k] := by
    have e0 : (k : Int) % 256 = k := by omega
    simp [e0]
  rw [e] at hcv
  obtain ⟨h, hh⟩ : ∃ h, DG.S [UInt8.ofNat k] = h := ⟨_, rfl⟩
  rw [hh] at hcv
  have h4 : h.size = 1 := by rw [← hh, DG.S_size]; rfl
  have z1 : (⟨#[2]⟩ : ByteArray).size = 1 := rfl
  have z2 : ((⟨#[2]⟩ : ByteArray) ++ h).size = 2 := by rw [ByteArray.size_append, h4]; rfl
  have HL : Hid ((⟨#[2]⟩ ++ h ++ b : ByteArray).size ≤ maxLen) := Lib.hid (by
    rw [ByteArray.size_append, z2]
    unfold maxLen; omega)
  have HP : Hid (DG.Of (⟨#[2]⟩ ++ h ++ b) = DG.S (DG.dig (DG.rootL k b))) := Lib.hid (by
    rw [← hh]
    unfold DG.Of DG.rootL
    simp [DG.S])
  clear hh e
  have hki : (k : Int) < 256 := by omega
  go_enter Try.func56, Try.ntmps56
  go_wp2_with (first | (go_at_call 28; refine (rOf_any _ _ HL.out).mono ?_; rintro e w2 ⟨rfl, hb2⟩))
  go_ret
  exact ⟨by rw [← HP.out]; rfl, bnext (balloc (Below.refl _ _) _) hb2⟩
end Go.Proofs.Ytinkhgmdeldniaa
