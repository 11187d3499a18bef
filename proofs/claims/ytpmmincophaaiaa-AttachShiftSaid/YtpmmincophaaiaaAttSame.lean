/- Whether two lists of places are the same, of the reference. No conditions. -/
import Derived.Test.YtpmmincophaaiaaAttRPl
import Derived.Deep.RegionHeld3
namespace Go.Proofs.Ytpmmincophaaiaa
set_option maxRecDepth 100000
set_option linter.unusedVariables false
open Go.RowKit Go.Deep
theorem neq_two (w : World) (x y x' y' : Int) : (binOp .neq 37 (.agg #[.int .i64 x, .int .i64 y]) (.agg #[.int .i64 x', .int .i64 y'])).run Try.prog w = .ok (.bool (!(x == x' && y == y'))) w := by
  have h := eq_two w x y x' y'
  rw [run_eql_struct] at h
  rw [run_neq_struct]
  generalize (Op.equalIn 10000 37 (.agg #[.int .i64 x, .int .i64 y]) (.agg #[.int .i64 x', .int .i64 y'])).run Try.prog w = r at h ⊢
  cases r with
  | ok b w' =>
    simp at h ⊢
    obtain ⟨h1, h2⟩ := h
    exact ⟨by rw [h1], h2⟩
  | halt x w' => simp at h
set_option maxHeartbeats 4000000 in
theorem rsame_any (a b : Value) (A B : List (Int × Int)) (w : World) (ha : PtAt w a A) (hb : PtAt w b B) (hl : A.length ≤ 1000000000000) (hl2 : B.length ≤ 1000000000000) :
    Calls Try.prog 12 #[a, b] w fun e w' => e = .returned (.bool (decide (A = B))) ∧ Below w.heap.size w w' := by
  obtain ⟨aa, ac, rfl, ha⟩ := ha
  obtain ⟨ba, bc, rfl, hb⟩ := hb
  by_cases hne : A.length = B.length
  · obtain ⟨n, hn⟩ : ∃ n, A.length = n := ⟨_, rfl⟩
    have hn2 : B.length = n := by omega
    have HN := Lib.hid hn
    have HN2 := Lib.hid hn2
    rw [hn] at hl ⊢
    rw [hn2]
    have HA := Lib.hid ha
    have HB := Lib.hid hb
    have hq : ((n : Int) != (n : Int)) = false := by simp
    clear ha hb hne hn hn2 hl2
    go_enter Try.func12, Try.ntmps12
    go_wp2
    go_loopw [5] (fun v wr => ∃ k : Nat, v = .int .i64 (k : Int) ∧ k ≤ n ∧ (∀ j, j < k → A[j]? = B[j]?) ∧ Below w.heap.size w wr) (fun v _ => n - (intOf v).toNat)
    case atStart => exact ⟨0, rfl, Nat.zero_le _, fun j hj => absurd hj (Nat.not_lt_zero _), Below.refl _ _⟩
    case round =>
      obtain ⟨k, rfl, hk, hall, hbw⟩ := hrel
      have HALL := Lib.hid hall
      have HBW := Lib.hid hbw
      by_cases hkn : k < n
      · have hki : (k : Int) < (n : Int) := by omega
        have hk0 : (0 : Int) ≤ (k : Int) := by omega
        obtain ⟨x, hx⟩ : ∃ x, A[k]? = some x := ⟨A[k]'(by rw [HN.out]; exact hkn), List.getElem?_eq_getElem _⟩
        obtain ⟨y, hy⟩ : ∃ y, B[k]? = some y := ⟨B[k]'(by rw [HN2.out]; exact hkn), List.getElem?_eq_getElem _⟩
        rcases HA.out with h | ⟨g, o, rfl, hg, hc⟩
        · rw [h] at hx
          simp at hx
        rcases HB.out with h | ⟨g2, o2, rfl, hg2, hc2⟩
        · rw [h] at hy
          simp at hy
        obtain ⟨c0, c1⟩ := hc k x hx
        obtain ⟨d0, d1⟩ := hc2 k y hy
        replace c0 := (hbw.cell (p := ⟨g, o + k * 2, none⟩) hg).trans c0
        replace c1 := (hbw.cell (p := ⟨g, o + k * 2 + 1, none⟩) hg).trans c1
        replace d0 := (hbw.cell (p := ⟨g2, o2 + k * 2, none⟩) hg2).trans d0
        replace d1 := (hbw.cell (p := ⟨g2, o2 + k * 2 + 1, none⟩) hg2).trans d1
        have hneq := fun V => neq_two V x.1 x.2 y.1 y.2
        have HX := Lib.hid hx
        have HY := Lib.hid hy
        clear hc hc2 hx hy hall hbw
        by_cases hxy : x = y
        · have hb2 : (!(x.1 == y.1 && x.2 == y.2)) = false := by subst hxy; simp
          rw [hb2] at hneq
          have HXY := Lib.hid hxy
          clear hxy
          go_wp2_with fail
          go_region_held3 (fun w' => w'.cell? ⟨g, o + k * 2, none⟩ = some (.int .i64 x.1) ∧ w'.cell? ⟨g, o + k * 2 + 1, none⟩ = some (.int .i64 x.2) ∧ w'.cell? ⟨g2, o2 + k * 2, none⟩ = some (.int .i64 y.1) ∧ w'.cell? ⟨g2, o2 + k * 2 + 1, none⟩ = some (.int .i64 y.2)) (go_keep) (fail)
          go_wp2
          go_roundw
          case rel =>
            refine ⟨k + 1, by go_num, hkn, fun j hj => ?_, by first | exact HBW.out | exact HBW.out.drew | exact below_drewN HBW.out _⟩
            by_cases hjk : j = k
            · subst hjk
              rw [HX.out, HY.out, HXY.out]
            · exact HALL.out j (by omega)
          case measure => simp [intOf]; omega
        · have hb2 : (!(x.1 == y.1 && x.2 == y.2)) = true := by
            simp only [Bool.not_eq_true', Bool.and_eq_false_iff, beq_eq_false_iff_ne]
            by_cases h1 : x.1 = y.1
            · exact .inr (fun h2 => hxy (Prod.ext h1 h2))
            · exact .inl h1
          rw [hb2] at hneq
          have HV : Hid (decide (A = B) = false) := Lib.hid (by
            rw [decide_eq_false_iff_not]
            intro h
            have h1 := HX.out
            rw [h, HY.out] at h1
            exact hxy (Option.some.inj h1).symm)
          clear hxy
          go_wp2_with fail
          go_region_held3 (fun w' => w'.cell? ⟨g, o + k * 2, none⟩ = some (.int .i64 x.1) ∧ w'.cell? ⟨g, o + k * 2 + 1, none⟩ = some (.int .i64 x.2) ∧ w'.cell? ⟨g2, o2 + k * 2, none⟩ = some (.int .i64 y.1) ∧ w'.cell? ⟨g2, o2 + k * 2 + 1, none⟩ = some (.int .i64 y.2)) (go_keep) (fail)
          go_wp2
          go_ret
          exact ⟨by rw [HV.out]; rfl, by first | exact HBW.out | exact HBW.out.drew | exact below_drewN HBW.out _⟩
      · obtain rfl : k = n := by omega
        have HV : Hid (decide (A = B) = true) := Lib.hid (by
          rw [decide_eq_true_iff]
          apply List.ext_getElem?
          intro j
          rcases Nat.lt_or_ge j k with h | h
          · exact HALL.out j h
          · rw [List.getElem?_eq_none (by rw [HN.out]; exact h), List.getElem?_eq_none (by rw [HN2.out]; exact h)])
        clear hall hbw
        go_wp2
        go_ret
        exact ⟨by rw [HV.out]; rfl, HBW.out⟩
  · have hq : ((A.length : Int) != (B.length : Int)) = true := by simp; omega
    have HV : Hid (decide (A = B) = false) := Lib.hid (by rw [decide_eq_false_iff_not]; intro h; exact hne (by rw [h]))
    clear ha hb hne
    go_enter Try.func12, Try.ntmps12
    go_wp2
    go_ret
    exact ⟨by rw [HV.out]; rfl, Below.refl _ _⟩
end Go.Proofs.Ytpmmincophaaiaa
