/- The reference: names. No conditions. -/
import Derived.Test.YtbhkbjnmpaebdaaAx3
namespace Go.Proofs.Ytbhkbjnmpaebdaa
set_option maxRecDepth 100000
set_option linter.unusedVariables false
open Go.RowKit Go.Deep
set_option maxHeartbeats 4000000 in
theorem rName_any (s : ByteArray) (w : World) (hs : s.size ≤ 1000000000000) :
    Calls Try.prog 46 #[.string s] w fun e w' => e = .returned (.bool (AX.isName s)) ∧ w' = w := by
  obtain ⟨n, hn⟩ : ∃ n, s.size = n := ⟨_, rfl⟩
  have HN := Lib.hid hn
  have hni : (s.size : Int) = (n : Int) := by rw [hn]
  go_enter Try.func46, Try.ntmps46
  by_cases k1 : n < 1
  · have e1 : (n : Int) < 1 := by omega
    have hv : AX.isName s = false := AX.name_len (by omega)
    have HV := Lib.hid hv
    clear hv
    go_wp2
    go_ret
    exact ⟨by rw [HV.out]; rfl, rfl⟩
  · have e1 : ¬ (n : Int) < 1 := by omega
    by_cases k2 : 12 < n
    · have e2 : (12 : Int) < (n : Int) := by omega
      have hv : AX.isName s = false := AX.name_len (by omega)
      have HV := Lib.hid hv
      clear hv
      go_wp2
      go_ret
      exact ⟨by rw [HV.out]; rfl, rfl⟩
    · have e2 : ¬ (12 : Int) < (n : Int) := by omega
      have h0 : 0 < s.size := by omega
      obtain ⟨c0, hc0⟩ : ∃ c, s[0].toNat = c := ⟨_, rfl⟩
      have hm0 : (0 : Int) < (n : Int) := by omega
      have HNO0 : Hid (AX.okB c0 0 = false → AX.isName s = false) := Lib.hid (fun h => AX.name_no h0 (by rw [hc0]; exact h))
      have hcc0 : c0 < 256 := by rw [← hc0]; exact s[0].toNat_lt
      by_cases k3 : c0 < 97
      · have e3 : (c0 : Int) < 97 := by omega
        have hv : AX.isName s = false := HNO0.out (by unfold AX.okB; rw [decide_eq_false_iff_not]; omega)
        have HV := Lib.hid hv
        clear hv
        go_wp2
        go_ret
        exact ⟨by rw [HV.out]; rfl, rfl⟩
      · have e3 : ¬ (c0 : Int) < 97 := by omega
        by_cases k4 : 122 < c0
        · have e4 : (122 : Int) < (c0 : Int) := by omega
          have hv : AX.isName s = false := HNO0.out (by unfold AX.okB; rw [decide_eq_false_iff_not]; omega)
          have HV := Lib.hid hv
          clear hv
          go_wp2
          go_ret
          exact ⟨by rw [HV.out]; rfl, rfl⟩
        · have e4 : ¬ (122 : Int) < (c0 : Int) := by omega
          have HC0 : Hid (97 ≤ s[0].toNat) := Lib.hid (by omega)
          go_wp2_with fail
          go_loopw [3] (fun v wr => ∃ i : Nat, v = .int .i64 (i : Int) ∧ i ≤ n ∧ Hid (∀ (j : Nat) (hj : j < s.size), j < i → AX.okB s[j].toNat j = true) ∧ wr = w) (fun v _ => n - (intOf v).toNat)
          case atStart => exact ⟨0, rfl, Nat.zero_le _, Lib.hid (fun j _ hj => absurd hj (Nat.not_lt_zero _)), rfl⟩
          case round =>
            obtain ⟨i, rfl, hi, hyes, rfl⟩ := hrel
            clear hc0 e3 e4 k3 k4 hcc0 HNO0
            by_cases hin : i < n
            · have hii : (i : Int) < (n : Int) := by omega
              have hi0 : (0 : Int) ≤ (i : Int) := by omega
              have hkt : ((i : Int)).toNat = i := by omega
              have hkd : i < s.size := by omega
              obtain ⟨c, hc⟩ : ∃ c, s[i].toNat = c := ⟨_, rfl⟩
              have hpos : c ≤ 57 → 0 < i := fun h => by
                rcases Nat.eq_zero_or_pos i with e | e
                · exfalso
                  have := HC0.out
                  subst e
                  omega
                · exact e
              have HNO : Hid (AX.okB c i = false → AX.isName s = false) := Lib.hid (fun h => AX.name_no hkd (by rw [hc]; exact h))
              have HYES : Hid (AX.okB c i = true → ∀ (j : Nat) (hj : j < s.size), j < i + 1 → AX.okB s[j].toNat j = true) := Lib.hid (fun h j hj hji => by
                by_cases e : j = i
                · subst e
                  rw [hc]
                  exact h
                · exact hyes.out j hj (by omega))
              have hcc : c < 256 := by rw [← hc]; exact s[i].toNat_lt
              clear hyes
              by_cases k1 : 97 ≤ c
              · have e1 : (97 : Int) ≤ (c : Int) := by omega
                clear hpos
                by_cases k2 : c ≤ 122
                · have e2 : (c : Int) ≤ 122 := by omega
                  have hv := HYES.out (by unfold AX.okB; rw [decide_eq_true_iff]; omega)
                  have HV := Lib.hid hv
                  clear hv
                  go_wp2
                  go_roundw
                  case rel => exact ⟨i + 1, by simp, by omega, HV.out, trivial⟩
                  case measure => simp [intOf]; omega
                · have e2 : ¬ (c : Int) ≤ 122 := by omega
                  have e6 : ¬ (c : Int) ≤ 57 := by omega
                  have e7 : (48 : Int) ≤ (c : Int) := by omega
                  have hv : AX.isName s = false := HNO.out (by unfold AX.okB; rw [decide_eq_false_iff_not]; omega)
                  have HV := Lib.hid hv
                  clear hv
                  go_wp2
                  go_ret
                  exact ⟨by rw [HV.out]; rfl, rfl⟩
              · have e1 : ¬ (97 : Int) ≤ (c : Int) := by omega
                by_cases k3 : 48 ≤ c
                · have e3 : (48 : Int) ≤ (c : Int) := by omega
                  by_cases k4 : c ≤ 57
                  · have e4 : (c : Int) ≤ 57 := by omega
                    have e5 := hpos k4
                    clear hpos
                    have hv := HYES.out (by unfold AX.okB; rw [decide_eq_true_iff]; omega)
                    have HV := Lib.hid hv
                    clear hv
                    go_wp2
                    go_roundw
                    case rel => exact ⟨i + 1, by simp, by omega, HV.out, trivial⟩
                    case measure => simp [intOf]; omega
                  · have e4 : ¬ (c : Int) ≤ 57 := by omega
                    clear hpos
                    have hv : AX.isName s = false := HNO.out (by unfold AX.okB; rw [decide_eq_false_iff_not]; omega)
                    have HV := Lib.hid hv
                    clear hv
                    go_wp2
                    go_ret
                    exact ⟨by rw [HV.out]; rfl, rfl⟩
                · have e3 : ¬ (48 : Int) ≤ (c : Int) := by omega
                  clear hpos
                  have hv : AX.isName s = false := HNO.out (by unfold AX.okB; rw [decide_eq_false_iff_not]; omega)
                  have HV := Lib.hid hv
                  clear hv
                  go_wp2
                  go_ret
                  exact ⟨by rw [HV.out]; rfl, rfl⟩
            · obtain rfl : i = n := by omega
              have hv : AX.isName s = true := AX.name_yes (fun j hj => hyes.out j hj (by omega)) (by omega) (by omega)
              have HV := Lib.hid hv
              clear hv
              go_wp2
              go_ret
              exact ⟨by rw [HV.out]; rfl, rfl⟩
end Go.Proofs.Ytbhkbjnmpaebdaa
