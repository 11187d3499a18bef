/- The reference: Within and Name. No conditions. -/
import Derived.Test.YtbhkbjnmpaebdaaAx9
import Derived.Test.YtbhkbjnmpaebdaaAx3
import Derived.Test.YtbhkbjnmpaebdaaAxWi
namespace Go.Proofs.Ytbhkbjnmpaebdaa
set_option maxRecDepth 100000
set_option linter.unusedVariables false
open Go.RowKit Go.Deep
theorem rranges_c {l : List AX.Pr} {k : Int} {r : Bool} (h : AX.ranges l k = r) (v : Value) (w : World) (hl : l.length ≤ 1000000000000) (hv : PrAt w v l) :
    Calls Try.prog 33 #[v, .int .i64 k] w fun e w' => e = .returned (.bool r) ∧ Below w.heap.size w w' := by
  have := rranges_any l v k w hl hv
  rwa [h] at this
set_option maxHeartbeats 4000000 in
theorem rwithin_any (at' : List Int) (l : List AX.Pr) (va v : Value) (w : World) (hal : at'.length ≤ 1000000000000) (hl : l.length ≤ 1000000000000) (ha : InAt w va at') (hv : PrAt w v l) :
    Calls Try.prog 35 #[va, v] w fun e w' => e = .returned (.bool (AX.within at' l)) ∧ Below w.heap.size w w' := by
  have HV : Hid (∀ V, Below w.heap.size w V → PrAt V v l) := Lib.hid fun V hV => hv.keep hV
  have HA : Hid (∀ V, Below w.heap.size w V → InAt V va at') := Lib.hid fun V hV => ha.keep hV
  obtain ⟨a, c, rfl, -⟩ := hv
  obtain ⟨aa, ac, rfl, -⟩ := ha
  obtain ⟨m, hm⟩ : ∃ m, l.length = m := ⟨_, rfl⟩
  obtain ⟨k, hk⟩ : ∃ k, at'.length = k := ⟨_, rfl⟩
  have HM := Lib.hid hm
  have HK := Lib.hid hk
  rw [hm] at hl HV ⊢
  rw [hk] at hal HA ⊢
  obtain ⟨r1, hr1⟩ : ∃ r, AX.ranges l (k : Int) = r := ⟨_, rfl⟩
  have CR : Hid (∀ V, Below w.heap.size w V → Calls Try.prog 33 #[.slice a m c, .int .i64 (k : Int)] V fun e w' => e = .returned (.bool r1) ∧ Below V.heap.size V w') := Lib.hid fun V hV => rranges_c hr1 _ _ (by rw [HM.out]; exact hl) (HV.out V hV)
  have HR1 := Lib.hid hr1
  clear hm hk hr1
  go_enter Try.func35, Try.ntmps35
  go_wp2_with fail
  refine (CR.out _ (Below.refl _ _)).mono ?_
  rintro e w1 ⟨rfl, k1⟩
  have HB1 := Lib.hid k1
  cases r1 with
  | false =>
    have hno : AX.within at' l = false := AX.within_no (by rw [HK.out, HR1.out])
    have HV := Lib.hid hno
    clear hno
    go_wp2
    go_ret
    exact ⟨by rw [HV.out]; rfl, HB1.out⟩
  | true =>
    have hmk : m = k := by
      have := ((AX.ranges_iff _ _).1 HR1.out).1.2.2
      rw [HM.out] at this
      omega
    have HMK := Lib.hid hmk
    have HZL : Hid ((at'.zip l).length = k) := Lib.hid (by rw [List.length_zip, HK.out, HM.out, hmk, Nat.min_self])
    clear hmk k1
    go_wp2_with fail
    go_loopw [6] (fun v wr => ∃ i : Nat, v = .int .i64 (i : Int) ∧ i ≤ k ∧ Hid (∀ (j : Nat) (z : Int × AX.Pr), j < i → (at'.zip l)[j]? = some z → AX.ins z = true) ∧ Below w.heap.size w wr) (fun v _ => k - (intOf v).toNat)
    case atStart => exact ⟨0, rfl, Nat.zero_le _, Lib.hid (fun j z hj => absurd hj (Nat.not_lt_zero _)), HB1.out⟩
    case round =>
      obtain ⟨i, rfl, hi, hyes, hb⟩ := hrel
      have HB := Lib.hid hb
      by_cases hin : i < k
      · have hii : (i : Int) < (k : Int) := by omega
        have hi0 : (0 : Int) ≤ (i : Int) := by omega
        have him : (i : Int) < (m : Int) := by have := HMK.out; omega
        obtain ⟨x, hx⟩ : ∃ x, (at'.zip l)[i]? = some x := ⟨(at'.zip l)[i]'(by rw [HZL.out]; exact hin), List.getElem?_eq_getElem _⟩
        have hx2 := List.getElem?_zip_eq_some.1 hx
        obtain ⟨xn, x1, x2⟩ := x
        obtain ⟨aw, cw, e1, hc⟩ := HA.out wr hb
        obtain ⟨aw', cw', e1', hc'⟩ := HV.out wr hb
        rw [HK.out] at e1
        rw [HM.out] at e1'
        injection e1 with e1 e2 e3
        injection e1' with e1' e2' e3'
        subst e1 e3 e1' e3'
        rcases hc with h | ⟨g, o, rfl, hg, hcl⟩
        · rw [h] at hx2
          simp at hx2
        rcases hc' with h | ⟨g', o', rfl, hg', hcl'⟩
        · rw [h] at hx2
          simp at hx2
        have d0 := hcl i _ hx2.1
        obtain ⟨d1, d2⟩ := hcl' i _ hx2.2
        simp only at d0 d1 d2
        have HX := Lib.hid hx
        clear hcl hcl' hx hx2 hb e2 e2'
        by_cases hlo : xn < x1
        · have hno : AX.within at' l = false := AX.within_out HX.out (by unfold AX.ins; simp; omega)
          have HV := Lib.hid hno
          clear hno
          go_wp2_with fail
          go_quiet (fail)
          go_wp2
          go_ret
          exact ⟨by rw [HV.out]; rfl, below_drewN HB.out _⟩
        · by_cases hhi : x2 < xn
          · have hno : AX.within at' l = false := AX.within_out HX.out (by unfold AX.ins; simp; omega)
            have HV := Lib.hid hno
            clear hno
            go_wp2_with fail
            go_quiet (fail)
            go_wp2
            go_ret
            exact ⟨by rw [HV.out]; rfl, below_drewN HB.out _⟩
          · have HYES : Hid (∀ (j : Nat) (z : Int × AX.Pr), j < i + 1 → (at'.zip l)[j]? = some z → AX.ins z = true) := Lib.hid (fun j z hj hz => by
              by_cases hji : j = i
              · subst hji
                rw [HX.out] at hz
                rw [← Option.some.inj hz]
                unfold AX.ins
                simp
                omega
              · exact hyes.out j z (by omega) hz)
            go_wp2_with fail
            go_quiet (fail)
            go_wp2
            go_roundw
            case rel => exact ⟨i + 1, by go_num, hin, HYES, below_drewN HB.out _⟩
            case measure => simp [intOf]; omega
      · obtain rfl : i = k := by omega
        have HT : Hid (AX.within at' l = true) := Lib.hid (AX.within_yes (by rw [HK.out, HR1.out]) (all_upto HZL.out hyes.out))
        clear hb
        go_wp2
        go_ret
        exact ⟨by rw [HT.out]; rfl, HB.out⟩
end Go.Proofs.Ytbhkbjnmpaebdaa
