/- The contracts of the reference's class and of its question whether a cluster begins. -/
import Derived.Test.YtbgmbcngkmlfeaaDoorCluBase
namespace Go.Proofs.YtbgmbcngkmlfeaaDoor
set_option linter.unusedVariables false
open Go.RowKit
set_option maxHeartbeats 1000000 in
theorem rclass6_any (s : ByteArray) (i : Nat) (w : World) (hs : s.size ≤ maxLen) (hi : i < s.size) :
    Calls Tryd.prog 60 #[.string s, .int .i64 i] w fun e w' => e = .returned (.int .i64 (CP.cl s i)) ∧ w = w' := by
  unfold maxLen at hs
  have HC := Lib.hid (rclass_any (s[i].toNat : Int) w)
  have HE := Lib.hid (CP.ch_at hi)
  have hii : (i : Int) < (s.size : Int) := by omega
  have hby : (s[i].toNat : Int) ≤ 255 := by have := s[i].toNat_lt; omega
  go_enter Tryd.func60, Tryd.ntmps60
  go_wp2_with fail
  refine HC.out.mono ?_
  rintro e w1 ⟨rfl, rfl⟩
  go_wp2
  go_ret
  exact ⟨ret1 (by unfold CP.cl; rw [HE.out]), rfl⟩
set_option maxHeartbeats 1000000 in
theorem rbegins_zero (s : ByteArray) (m : Int) (w : World) :
    Calls Tryd.prog 56 #[.string s, .int .i64 0, .int .i64 m] w fun e w' => e = .returned (.bool true) ∧ w = w' := by
  go_enter Tryd.func56, Tryd.ntmps56
  go_wp2_with fail
  go_ret
  exact ⟨rfl, rfl⟩
set_option maxRecDepth 100000 in
set_option maxHeartbeats 2000000 in
theorem rbegins_any (s : ByteArray) (f i : Nat) (w : World) (hs : s.size ≤ maxLen) (hi : i < s.size) (hfi : f < i) :
    Calls Tryd.prog 56 #[.string s, .int .i64 i, .int .i64 ((i : Int) - (f : Int))] w fun e w' => e = .returned (.bool (CP.beg s f i)) ∧ w = w' := by
  have HS := Lib.hid hs
  unfold maxLen at hs
  have hi1 : i - 1 < s.size := by omega
  have hii : (i : Int) < (s.size : Int) := by omega
  have ei : (i : Int) - 1 = ((i - 1 : Nat) : Int) := by omega
  have HB : Hid (CP.beg s f i = ((decide (CP.cl s (i - 1) = 1) || decide (i = f + 6)) || (!(decide (CP.cl s i = 9) && decide (CP.cl s (i - 1) = 10)) && !CP.ex s i))) := Lib.hid rfl
  have HCH := Lib.hid (CP.ch_at hi)
  have HX : Hid (CP.ex s i = FC.extB (s[i].toNat : Int)) := Lib.hid (by unfold CP.ex; rw [HCH.out])
  clear HCH
  have hby : (s[i].toNat : Int) ≤ 255 := by have := s[i].toNat_lt; omega
  obtain ⟨x, hx⟩ : ∃ x, CP.cl s (i - 1) = x := ⟨_, rfl⟩
  obtain ⟨y, hy⟩ : ∃ y, CP.cl s i = y := ⟨_, rfl⟩
  obtain ⟨z, hz⟩ : ∃ z, CP.ex s i = z := ⟨_, rfl⟩
  have CA : ∀ W, Calls Tryd.prog 60 #[.string s, .int .i64 ((i : Int) - 1)] W fun e w' => e = .returned (.int .i64 x) ∧ W = w' := fun W => by
    have := rclass6_any s (i - 1) W HS.out hi1
    rwa [hx, ← ei] at this
  have CB : ∀ W, Calls Tryd.prog 60 #[.string s, .int .i64 (i : Int)] W fun e w' => e = .returned (.int .i64 y) ∧ W = w' := fun W => by
    have := rclass6_any s i W HS.out hi
    rwa [hy] at this
  rw [hz] at HX
  rw [hx, hy, hz] at HB
  have CX : ∀ W, Calls Tryd.prog 57 #[.int .i64 (s[i].toNat : Int)] W fun e w' => e = .returned (.bool z) ∧ W = w' := fun W => by
    have := rextends_any (s[i].toNat : Int) W
    rwa [← HX.out] at this
  have HCA := Lib.hid CA
  have HCB := Lib.hid CB
  have HEX := Lib.hid CX
  clear CA CB CX HX hx hy hz ei
  have hi0 : ((i : Int) == 0) = false := by simp; omega
  have hfi2 : (f : Int) < (i : Int) := by omega
  by_cases h6 : i = f + 6
  · have HR : Hid (CP.beg s f i = true) := Lib.hid (by rw [HB.out, decide_eq_true h6]; simp)
    have h6' : ((i : Int) - (f : Int) == 6) = true := by simp; omega
    have h6b : (i : Int) - (f : Int) = 6 := by omega
    clear HB h6
    go_enter Tryd.func56, Tryd.ntmps56
    go_wp2_with fail
    go_ret
    exact ⟨retb HR.out.symm, rfl⟩
  · have h6' : ((i : Int) - (f : Int) == 6) = false := by simp; omega
    have h6b : (i : Int) - (f : Int) ≠ 6 := by omega
    by_cases h1 : x = 1
    · have HR : Hid (CP.beg s f i = true) := Lib.hid (by rw [HB.out, h1]; rfl)
      subst h1
      clear HB h6
      go_enter Tryd.func56, Tryd.ntmps56
      go_wp2_with fail
      refine (HCA.out _).mono ?_
      rintro e _ ⟨rfl, rfl⟩
      go_wp2_with fail
      go_ret
      exact ⟨retb HR.out.symm, rfl⟩
    · have hx1 : (x == 1) = false := by simpa using h1
      have HB2 : Hid (CP.beg s f i = (!(decide (y = 9) && decide (x = 10)) && !z)) := Lib.hid (by rw [HB.out, decide_eq_false h1, decide_eq_false h6]; simp)
      clear HB h1 h6
      cases z with
      | true =>
        have HR : Hid (CP.beg s f i = false) := Lib.hid (by rw [HB2.out]; simp)
        clear HB2
        go_enter Tryd.func56, Tryd.ntmps56
        go_wp2_with fail
        refine (HCA.out _).mono ?_
        rintro e _ ⟨rfl, rfl⟩
        go_wp2_with fail
        refine (HEX.out _).mono ?_
        rintro e _ ⟨rfl, rfl⟩
        go_wp2_with fail
        go_ret
        exact ⟨retb HR.out.symm, rfl⟩
      | false =>
        by_cases h9 : y = 9
        · subst h9
          by_cases h10 : x = 10
          · have HR : Hid (CP.beg s f i = false) := Lib.hid (by rw [HB2.out, h10]; rfl)
            subst h10
            clear HB2
            go_enter Tryd.func56, Tryd.ntmps56
            go_wp2_with fail
            refine (HCA.out _).mono ?_
            rintro e _ ⟨rfl, rfl⟩
            go_wp2_with fail
            refine (HEX.out _).mono ?_
            rintro e _ ⟨rfl, rfl⟩
            go_wp2_with fail
            refine (HCB.out _).mono ?_
            rintro e _ ⟨rfl, rfl⟩
            go_wp2_with fail
            refine (HCA.out _).mono ?_
            rintro e _ ⟨rfl, rfl⟩
            go_wp2_with fail
            go_ret
            exact ⟨retb HR.out.symm, rfl⟩
          · have HR : Hid (CP.beg s f i = true) := Lib.hid (by rw [HB2.out, decide_eq_false h10]; simp)
            have hx10 : (x == 10) = false := by simpa using h10
            clear HB2 h10
            go_enter Tryd.func56, Tryd.ntmps56
            go_wp2_with fail
            refine (HCA.out _).mono ?_
            rintro e _ ⟨rfl, rfl⟩
            go_wp2_with fail
            refine (HEX.out _).mono ?_
            rintro e _ ⟨rfl, rfl⟩
            go_wp2_with fail
            refine (HCB.out _).mono ?_
            rintro e _ ⟨rfl, rfl⟩
            go_wp2_with fail
            refine (HCA.out _).mono ?_
            rintro e _ ⟨rfl, rfl⟩
            go_wp2_with fail
            go_ret
            exact ⟨retb HR.out.symm, rfl⟩
        · have HR : Hid (CP.beg s f i = true) := Lib.hid (by rw [HB2.out, decide_eq_false h9]; simp)
          have hy9 : (y == 9) = false := by simpa using h9
          clear HB2 h9
          go_enter Tryd.func56, Tryd.ntmps56
          go_wp2_with fail
          refine (HCA.out _).mono ?_
          rintro e _ ⟨rfl, rfl⟩
          go_wp2_with fail
          refine (HEX.out _).mono ?_
          rintro e _ ⟨rfl, rfl⟩
          go_wp2_with fail
          refine (HCB.out _).mono ?_
          rintro e _ ⟨rfl, rfl⟩
          go_wp2_with fail
          go_ret
          exact ⟨retb HR.out.symm, rfl⟩
end Go.Proofs.YtbgmbcngkmlfeaaDoor
