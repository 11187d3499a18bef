/- Check of the program. No conditions. -/
import Derived.Test.YtbhkbjnmpaebdaaAx4
namespace Go.Proofs.Ytbhkbjnmpaebdaa.AX
def check (x : Ax) : Int := if isName x.name = false then 36 else if x.lo < -10000 ∨ x.de < x.lo ∨ x.hi < x.de ∨ 10000 < x.hi ∨ isMap x = false then 10 else 0
theorem check_name {x : Ax} (h : isName x.name = false) : check x = 36 := by unfold check; rw [if_pos h]
theorem check_axis {x : Ax} (h : isName x.name = true) (h2 : x.lo < -10000 ∨ x.de < x.lo ∨ x.hi < x.de ∨ 10000 < x.hi ∨ isMap x = false) : check x = 10 := by unfold check; rw [if_neg (by rw [h]; simp), if_pos h2]
theorem check_ok {x : Ax} (h : isName x.name = true) (h2 : ¬ (x.lo < -10000 ∨ x.de < x.lo ∨ x.hi < x.de ∨ 10000 < x.hi ∨ isMap x = false)) : check x = 0 := by unfold check; rw [if_neg (by rw [h]; simp), if_neg h2]
theorem check_zero {x : Ax} (h : check x = 0) : isName x.name = true ∧ -10000 ≤ x.lo ∧ x.lo ≤ x.de ∧ x.de ≤ x.hi ∧ x.hi ≤ 10000 ∧ isMap x = true := by
  unfold check at h
  split at h
  · omega
  · rename_i h1
    split at h
    · omega
    · rename_i h2
      refine ⟨by simpa using h1, by omega, by omega, by omega, by omega, ?_⟩
      cases hm : isMap x with
      | true => rfl
      | false => exact absurd (Or.inr (Or.inr (Or.inr (Or.inr hm)))) h2
end Go.Proofs.Ytbhkbjnmpaebdaa.AX
namespace Go.Proofs.Ytbhkbjnmpaebdaa
set_option maxRecDepth 100000
set_option linter.unusedVariables false
open Go.RowKit Go.Deep
set_option maxHeartbeats 8000000 in
theorem check_any (x : AX.Ax) (v : Value) (w : World) (hl : x.map.length ≤ 1000000000000) (hs : x.name.size ≤ 1000000000000) (hv : PrAt w v x.map) :
    Calls Try.prog 14 #[AxV v x] w fun e w' => e = .returned (.int .i64 (AX.check x)) ∧ Below w.heap.size w w' := by
  have HM : Hid (∀ V, Below w.heap.size w V → Calls Try.prog 45 #[AxV v x] V fun e w' => e = .returned (.bool (AX.isMap x)) ∧ Below V.heap.size V w') := Lib.hid fun V hV => isMap_any x v V hl (hv.keep hV)
  obtain ⟨r, hr⟩ : ∃ r, AX.isName x.name = r := ⟨_, rfl⟩
  have HN : Hid (∀ V, Calls Try.prog 44 #[.string x.name] V fun e w' => e = .returned (.bool r) ∧ w' = V) := Lib.hid fun V => by
    have := isName_any x.name V hs
    rwa [hr] at this
  obtain ⟨r2, hr2⟩ : ∃ r, AX.isMap x = r := ⟨_, rfl⟩
  rw [hr2] at HM
  have HR := Lib.hid hr
  have HR2 := Lib.hid hr2
  clear hr hr2
  obtain ⟨a, c, rfl, -⟩ := hv
  have HA : Hid (∀ k : Int, AX.check x = k → AX.check x = k) := Lib.hid fun k h => h
  have HC1 : Hid (r = false → AX.check x = 36) := Lib.hid fun h => AX.check_name (by rw [HR.out]; exact h)
  have HC2 : Hid (r = true → (x.lo < -10000 ∨ x.de < x.lo ∨ x.hi < x.de ∨ 10000 < x.hi ∨ r2 = false) → AX.check x = 10) := Lib.hid fun h h2 => AX.check_axis (by rw [HR.out]; exact h) (by rw [HR2.out]; exact h2)
  have HC3 : Hid (r = true → ¬ (x.lo < -10000 ∨ x.de < x.lo ∨ x.hi < x.de ∨ 10000 < x.hi ∨ r2 = false) → AX.check x = 0) := Lib.hid fun h h2 => AX.check_ok (by rw [HR.out]; exact h) (by rw [HR2.out]; exact h2)
  obtain ⟨A, hA⟩ : ∃ A, AX.check x = A := ⟨_, rfl⟩
  rw [hA] at HC1 HC2 HC3 ⊢
  obtain ⟨nm, lo, de, hi, l⟩ := x
  simp only at HN HC2 HC3
  obtain ⟨m, hm⟩ : ∃ m, l.length = m := ⟨_, rfl⟩
  simp only [AxV] at HM ⊢
  rw [hm] at HM ⊢
  clear hm hA HA HR HR2 hl hs
  go_enter Try.func14, Try.ntmps14
  go_wp2_with fail
  obtain ⟨B, hB⟩ : ∃ B, w.heap.size = B := ⟨_, rfl⟩
  obtain ⟨W0, hW0⟩ : ∃ W0, w.alloc (.cells #[.string nm, .int .i64 lo, .int .i64 de, .int .i64 hi, .slice a m c] 24) = W0 := ⟨_, rfl⟩
  have hbx : W0.heap[B]? = some (.cells #[.string nm, .int .i64 lo, .int .i64 de, .int .i64 hi, .slice a m c] 24 (0, 0)) := by rw [← hW0, ← hB]; exact heap_alloc_new w _
  have hb0 : Below w.heap.size w W0 := by rw [← hW0]; exact balloc (Below.refl _ _) _
  (try rw [hW0])
  (try rw [hB])
  have c0 : W0.cell? ⟨B, 0, none⟩ = some (.string nm) := by simp [World.cell?, hbx]
  have c1 : W0.cell? ⟨B, 1, none⟩ = some (.int .i64 lo) := by simp [World.cell?, hbx]
  have c2 : W0.cell? ⟨B, 2, none⟩ = some (.int .i64 de) := by simp [World.cell?, hbx]
  have c3 : W0.cell? ⟨B, 3, none⟩ = some (.int .i64 hi) := by simp [World.cell?, hbx]
  have c4 : W0.cell? ⟨B, 4, none⟩ = some (.slice a m c) := by simp [World.cell?, hbx]
  have HB0 := Lib.hid hb0
  clear hW0 hB hb0 hbx
  refine (HN.out _).mono ?_
  rintro e w1 ⟨rfl, rfl⟩
  cases r with
  | false =>
    have HV := Lib.hid (HC1.out rfl)
    go_wp2
    go_ret
    exact ⟨by rw [HV.out]; rfl, HB0.out⟩
  | true =>
    by_cases k1 : lo < -10000
    · have HV := Lib.hid (HC2.out rfl (by omega))
      go_wp2
      go_ret
      exact ⟨by rw [HV.out]; rfl, HB0.out⟩
    · by_cases k2 : de < lo
      · have HV := Lib.hid (HC2.out rfl (by omega))
        go_wp2
        go_ret
        exact ⟨by rw [HV.out]; rfl, HB0.out⟩
      · by_cases k3 : hi < de
        · have HV := Lib.hid (HC2.out rfl (by omega))
          go_wp2
          go_ret
          exact ⟨by rw [HV.out]; rfl, HB0.out⟩
        · by_cases k4 : 10000 < hi
          · have HV := Lib.hid (HC2.out rfl (by omega))
            go_wp2
            go_ret
            exact ⟨by rw [HV.out]; rfl, HB0.out⟩
          · have HV2 : Hid (A = if r2 = false then 10 else 0) := Lib.hid (by
              cases r2 with
              | false => exact HC2.out rfl (by simp)
              | true => exact HC3.out rfl (by simp; omega))
            go_wp2_with fail
            refine (HM.out _ HB0.out).mono ?_
            rintro e w2 ⟨rfl, k⟩
            have hbw := bnext HB0.out k
            have HBW := Lib.hid hbw
            clear hbw k
            cases r2 with
            | false =>
              go_wp2
              go_ret
              exact ⟨by rw [HV2.out]; rfl, HBW.out⟩
            | true =>
              go_wp2
              go_ret
              exact ⟨by rw [HV2.out]; rfl, HBW.out⟩
theorem check_c {x : AX.Ax} {r : Int} (h : AX.check x = r) (v : Value) (w : World) (hl : x.map.length ≤ 1000000000000) (hs : x.name.size ≤ 1000000000000) (hv : PrAt w v x.map) :
    Calls Try.prog 14 #[AxV v x] w fun e w' => e = .returned (.int .i64 r) ∧ Below w.heap.size w w' := by
  have := check_any x v w hl hs hv
  rwa [h] at this
end Go.Proofs.Ytbhkbjnmpaebdaa
