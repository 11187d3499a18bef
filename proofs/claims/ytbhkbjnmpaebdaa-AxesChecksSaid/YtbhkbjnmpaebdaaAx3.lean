/- The names of axes. No conditions. -/
import Derived.Test.YtbhkbjnmpaebdaaAx1
namespace Go.Proofs.Ytbhkbjnmpaebdaa.AX
def okB (c : Nat) (i : Nat) : Bool := decide ((97 ≤ c ∧ c ≤ 122) ∨ (48 ≤ c ∧ c ≤ 57 ∧ 0 < i))
def okAt (s : ByteArray) (i : Nat) : Bool := if h : i < s.size then okB s[i].toNat i else true
def isName (s : ByteArray) : Bool := (List.range s.size).all (okAt s) && decide (1 ≤ s.size ∧ s.size ≤ 12)
theorem name_no {s : ByteArray} {i : Nat} (h : i < s.size) (hn : okB s[i].toNat i = false) : isName s = false := by
  unfold isName
  rw [Bool.and_eq_false_iff]
  left
  rw [List.all_eq_false]
  refine ⟨i, List.mem_range.2 h, ?_⟩
  unfold okAt
  rw [dif_pos h, hn]
  simp
theorem name_len {s : ByteArray} (h : ¬ (1 ≤ s.size ∧ s.size ≤ 12)) : isName s = false := by
  unfold isName
  rw [Bool.and_eq_false_iff]
  right
  simpa using h
theorem name_yes {s : ByteArray} (h : ∀ i (hi : i < s.size), okB s[i].toNat i = true) (h1 : 1 ≤ s.size) (h2 : s.size ≤ 12) : isName s = true := by
  unfold isName
  rw [Bool.and_eq_true, List.all_eq_true, decide_eq_true_iff]
  refine ⟨fun i hi => ?_, h1, h2⟩
  unfold okAt
  rw [dif_pos (List.mem_range.1 hi)]
  exact h i _
end Go.Proofs.Ytbhkbjnmpaebdaa.AX
namespace Go.Proofs.Ytbhkbjnmpaebdaa
set_option maxRecDepth 100000
set_option linter.unusedVariables false
open Go.RowKit Go.Deep
set_option maxHeartbeats 4000000 in
theorem isName_any (s : ByteArray) (w : World) (hs : s.size ≤ 1000000000000) :
    Calls Try.prog 44 #[.string s] w fun e w' => e = .returned (.bool (AX.isName s)) ∧ w' = w := by
  obtain ⟨n, hn⟩ : ∃ n, s.size = n := ⟨_, rfl⟩
  have HN := Lib.hid hn
  go_enter Try.func44, Try.ntmps44
  go_wp2_with fail
  go_loopw [3, 4, 5, 8] (fun v3 v4 v5 v wr => ∃ i : Nat, v = .int .i64 (i : Int) ∧ i ≤ n ∧ Hid (∀ (j : Nat) (hj : j < s.size), j < i → AX.okB s[j].toNat j = true) ∧ wr = w) (fun _ _ _ v _ => n - (intOf v).toNat)
  case atStart => exact ⟨0, rfl, Nat.zero_le _, Lib.hid (fun j _ hj => absurd hj (Nat.not_lt_zero _)), rfl⟩
  case round =>
    obtain ⟨i, rfl, hi, hyes, rfl⟩ := hrel
    by_cases hin : i < n
    · have hii : (i : Int) < (n : Int) := by omega
      have hi0 : (0 : Int) ≤ (i : Int) := by omega
      have hkt : ((i : Int)).toNat = i := by omega
      have hkd : i < s.size := by omega
      obtain ⟨c, hc⟩ : ∃ c, s[i].toNat = c := ⟨_, rfl⟩
      have HNO : Hid (AX.okB c i = false → AX.isName s = false) := Lib.hid (fun h => AX.name_no hkd (by rw [hc]; exact h))
      have HYES : Hid (AX.okB c i = true → ∀ (j : Nat) (hj : j < s.size), j < i + 1 → AX.okB s[j].toNat j = true) := Lib.hid (fun h j hj hji => by
        by_cases e : j = i
        · subst e
          rw [hc]
          exact h
        · exact hyes.out j hj (by omega))
      have hcc : c < 256 := by rw [← hc]; exact s[i].toNat_lt
      have hni : (s.size : Int) = (n : Int) := by rw [HN.out]
      clear hyes
      by_cases k1 : 97 ≤ c
      · have e1 : (97 : Int) ≤ (c : Int) := by omega
        by_cases k2 : c ≤ 122
        · have e2 : (c : Int) ≤ 122 := by omega
          have hv := HYES.out (by unfold AX.okB; rw [decide_eq_true_iff]; omega)
          have HV := Lib.hid hv
          clear hv
          go_wp2
          go_roundw
          case rel => exact ⟨i + 1, by simp, by omega, HV.out, trivial⟩
          case measure => simp [intOf]; omega
        · have e2 : ¬ (c : Int) ≤ 122 := by omega
          have hv : AX.isName s = false := HNO.out (by unfold AX.okB; rw [decide_eq_false_iff_not]; omega)
          have HV := Lib.hid hv
          clear hv
          go_wp2
          go_ret
          exact ⟨by rw [HV.out]; rfl, rfl⟩
      · have e1 : ¬ (97 : Int) ≤ (c : Int) := by omega
        by_cases k3 : 48 ≤ c
        · have e3 : (48 : Int) ≤ (c : Int) := by omega
          by_cases k4 : c ≤ 57
          · have e4 : (c : Int) ≤ 57 := by omega
            by_cases k5 : 0 < i
            · have e5 : (0 : Int) < (i : Int) := by omega
              have hv := HYES.out (by unfold AX.okB; rw [decide_eq_true_iff]; omega)
              have HV := Lib.hid hv
              clear hv
              go_wp2
              go_roundw
              case rel => exact ⟨i + 1, by simp, by omega, HV.out, trivial⟩
              case measure => simp [intOf]; omega
            · have e5 : ¬ (0 : Int) < (i : Int) := by omega
              have hv : AX.isName s = false := HNO.out (by unfold AX.okB; rw [decide_eq_false_iff_not]; omega)
              have HV := Lib.hid hv
              clear hv
              go_wp2
              go_ret
              exact ⟨by rw [HV.out]; rfl, rfl⟩
          · have e4 : ¬ (c : Int) ≤ 57 := by omega
            have hv : AX.isName s = false := HNO.out (by unfold AX.okB; rw [decide_eq_false_iff_not]; omega)
            have HV := Lib.hid hv
            clear hv
            go_wp2
            go_ret
            exact ⟨by rw [HV.out]; rfl, rfl⟩
        · have e3 : ¬ (48 : Int) ≤ (c : Int) := by omega
          have hv : AX.isName s = false := HNO.out (by unfold AX.okB; rw [decide_eq_false_iff_not]; omega)
          have HV := Lib.hid hv
          clear hv
          go_wp2
          go_ret
          exact ⟨by rw [HV.out]; rfl, rfl⟩
    · obtain rfl : i = n := by omega
      have hni : (s.size : Int) = (i : Int) := by rw [HN.out]
      by_cases k1 : 1 ≤ i
      · have e1 : (1 : Int) ≤ (i : Int) := by omega
        by_cases k2 : i ≤ 12
        · have e2 : (i : Int) ≤ 12 := by omega
          have hv : AX.isName s = true := AX.name_yes (fun j hj => hyes.out j hj (by omega)) (by omega) (by omega)
          have HV := Lib.hid hv
          clear hv
          go_wp2
          go_ret
          exact ⟨by rw [HV.out]; rfl, rfl⟩
        · have e2 : ¬ (i : Int) ≤ 12 := by omega
          have hv : AX.isName s = false := AX.name_len (by omega)
          have HV := Lib.hid hv
          clear hv
          go_wp2
          go_ret
          exact ⟨by rw [HV.out]; rfl, rfl⟩
      · have e1 : ¬ (1 : Int) ≤ (i : Int) := by omega
        have hv : AX.isName s = false := AX.name_len (by omega)
        have HV := Lib.hid hv
        clear hv
        go_wp2
        go_ret
        exact ⟨by rw [HV.out]; rfl, rfl⟩
end Go.Proofs.Ytbhkbjnmpaebdaa
