/- Whether all numbers of a glyph are small, of the reference. No conditions. -/
import Derived.Test.YtpmmincophaaiaaAttSmall
namespace Go.Proofs.Ytpmmincophaaiaa
set_option maxRecDepth 100000
set_option linter.unusedVariables false
open Go.RowKit Go.Deep
theorem rsmall_c {n : Int} {r : Bool} (h : AT.small n = r) (w : World) : Calls Try.prog 25 #[.int .i64 n] w fun e w' => e = .returned (.bool r) ∧ w' = w := by
  have := rsmall_any n w
  rwa [h] at this
set_option maxHeartbeats 4000000 in
theorem rright_any (d : AT.Dr) (ca : Option Addr) (cn cc : Nat) (va : Value) (w : World) (hl : d.anchors.length ≤ 1000000000000) (ha : AnAt w va d.anchors) :
    Calls Try.prog 20 #[.agg #[.slice ca cn cc, va, .int .i64 d.hang.1, .int .i64 d.hang.2.1, .int .i64 d.hang.2.2, .int .i64 d.adv]] w fun e w' => e = .returned (.bool (AT.right d)) ∧ Below w.heap.size w w' := by
  obtain ⟨aa, ac, rfl, hal⟩ := ha
  obtain ⟨m, hm⟩ : ∃ m, d.anchors.length = m := ⟨_, rfl⟩
  have HM := Lib.hid hm
  have HAL : Hid (∀ V, Below w.heap.size w V → AnAt V (.slice aa m ac) d.anchors) := Lib.hid fun V hV => by rw [← hm]; exact AnAt.keep ⟨aa, ac, rfl, hal⟩ hV
  rw [hm] at hl ⊢
  clear hm hal
  obtain ⟨r1, hr1⟩ : ∃ r1, AT.small d.hang.2.1 = r1 := ⟨_, rfl⟩
  obtain ⟨r2, hr2⟩ : ∃ r2, AT.small d.hang.2.2 = r2 := ⟨_, rfl⟩
  obtain ⟨r3, hr3⟩ : ∃ r3, AT.small d.adv = r3 := ⟨_, rfl⟩
  have C1 := Lib.hid (fun V => rsmall_c hr1 V)
  have C2 := Lib.hid (fun V => rsmall_c hr2 V)
  have C3 := Lib.hid (fun V => rsmall_c hr3 V)
  have HR1 := Lib.hid hr1
  have HR2 := Lib.hid hr2
  have HR3 := Lib.hid hr3
  clear hr1 hr2 hr3
  have hdb : DrB (w.alloc (.cells #[.slice ca cn cc, .slice aa m ac, .int .i64 d.hang.1, .int .i64 d.hang.2.1, .int .i64 d.hang.2.2, .int .i64 d.adv] 35)) w.heap.size (.slice ca cn cc) (.slice aa m ac) d := heap_alloc_new w _
  have hb1 := balloc (Below.refl _ w) (.cells #[.slice ca cn cc, .slice aa m ac, .int .i64 d.hang.1, .int .i64 d.hang.2.1, .int .i64 d.hang.2.2, .int .i64 d.adv] 35)
  go_enter Try.func20, Try.ntmps20
  go_wp2_with fail
  obtain ⟨W1, hW1⟩ : ∃ W1, w.alloc (.cells #[.slice ca cn cc, .slice aa m ac, .int .i64 d.hang.1, .int .i64 d.hang.2.1, .int .i64 d.hang.2.2, .int .i64 d.adv] 35) = W1 := ⟨_, rfl⟩
  obtain ⟨G, hG⟩ : ∃ G, w.heap.size = G := ⟨_, rfl⟩
  rw [hW1] at hdb hb1 ⊢
  have HB1 := Lib.hid hb1
  rw [hG] at hdb ⊢
  have HDB := Lib.hid hdb
  clear hW1 hG hdb hb1
  go_loopw [3] (fun v wr => ∃ k : Nat, v = .int .i64 (k : Int) ∧ k ≤ m ∧ (∀ (j : Nat) (b : AT.An), j < k → d.anchors[j]? = some b → AT.anOk b = true) ∧ Below W1.heap.size W1 wr) (fun v _ => m - (intOf v).toNat)
  case atStart => exact ⟨0, rfl, Nat.zero_le _, fun j b hj => absurd hj (Nat.not_lt_zero _), Below.refl _ _⟩
  case round =>
    obtain ⟨k, rfl, hk, hok, hb⟩ := hrel
    have HOK := Lib.hid hok
    have HB := Lib.hid hb
    obtain ⟨d0, d1, d2, d3, d4, d5⟩ := (HDB.out.keep hb).cells
    by_cases hkm : k < m
    · have hki : (k : Int) < (m : Int) := by omega
      have hk0 : (0 : Int) ≤ (k : Int) := by omega
      obtain ⟨z, hz⟩ : ∃ z, d.anchors[k]? = some z := ⟨d.anchors[k]'(by rw [HM.out]; exact hkm), List.getElem?_eq_getElem _⟩
      obtain ⟨ab, ac', e1, hal⟩ := HAL.out wr (bnext HB1.out hb)
      rw [HM.out] at e1
      injection e1 with e1 e2 e3
      subst e1 e3
      rcases hal with h | ⟨g', o', rfl, hg', hcl'⟩
      · rw [h] at hz
        simp at hz
      obtain ⟨c1, c2, c3⟩ := hcl' k z hz
      obtain ⟨s1, hs1⟩ : ∃ s1, AT.small z.2.1 = s1 := ⟨_, rfl⟩
      obtain ⟨s2, hs2⟩ : ∃ s2, AT.small z.2.2 = s2 := ⟨_, rfl⟩
      have E1 := Lib.hid (fun V => rsmall_c hs1 V)
      have E2 := Lib.hid (fun V => rsmall_c hs2 V)
      have HOZ : Hid (AT.anOk z = (s1 && s2)) := Lib.hid (by unfold AT.anOk; rw [hs1, hs2])
      have HZI := Lib.hid hz
      clear hcl' hok hz hs1 hs2 hb
      go_wp2_with fail
      refine (E1.out _).mono ?_
      rintro e W2 ⟨rfl, rfl⟩
      cases s1 with
      | false =>
        have HV := Lib.hid (AT.right_not (.inr (.inr ⟨k, z, HZI.out, HOZ.out⟩)))
        go_wp2
        go_ret
        exact ⟨by rw [HV.out]; rfl, bnext HB1.out HB.out⟩
      | true =>
        go_wp2_with fail
        refine (E2.out _).mono ?_
        rintro e W3 ⟨rfl, rfl⟩
        cases s2 with
        | false =>
          have HV := Lib.hid (AT.right_not (.inr (.inr ⟨k, z, HZI.out, HOZ.out⟩)))
          go_wp2
          go_ret
          exact ⟨by rw [HV.out]; rfl, bnext HB1.out HB.out⟩
        | true =>
          go_wp2
          go_roundw
          case rel =>
            refine ⟨k + 1, by go_num, hkm, fun j b hj hb' => ?_, HB.out⟩
            by_cases hjk : j = k
            · subst hjk
              rw [HZI.out] at hb'
              obtain rfl := Option.some.inj hb'
              exact HOZ.out
            · exact HOK.out j b (by omega) hb'
          case measure => simp [intOf]; omega
    · obtain rfl : k = m := by omega
      have HALL : Hid (∀ (j : Nat) (b : AT.An), d.anchors[j]? = some b → AT.anOk b = true) := Lib.hid fun j b hb' => HOK.out j b (by have := (List.getElem?_eq_some_iff.1 hb').1; rw [HM.out] at this; exact this) hb'
      clear hok hb
      go_wp2_with fail
      refine (C1.out _).mono ?_
      rintro e W2 ⟨rfl, rfl⟩
      cases r1 with
      | false =>
        have HV := Lib.hid (AT.right_not (.inr (.inl (by rw [HR1.out]; rfl))))
        go_wp2
        go_ret
        exact ⟨by rw [HV.out]; rfl, bnext HB1.out HB.out⟩
      | true =>
        go_wp2_with fail
        refine (C2.out _).mono ?_
        rintro e W3 ⟨rfl, rfl⟩
        cases r2 with
        | false =>
          have HV := Lib.hid (AT.right_not (.inr (.inl (by rw [HR1.out, HR2.out]; rfl))))
          go_wp2
          go_ret
          exact ⟨by rw [HV.out]; rfl, bnext HB1.out HB.out⟩
        | true =>
          go_wp2_with fail
          refine (C3.out _).mono ?_
          rintro e W4 ⟨rfl, rfl⟩
          cases r3 with
          | false =>
            have HV := Lib.hid (AT.right_not (.inl HR3.out))
            go_wp2
            go_ret
            exact ⟨by rw [HV.out]; rfl, bnext HB1.out HB.out⟩
          | true =>
            have HV := Lib.hid (AT.right_of HR3.out (by rw [HR1.out, HR2.out]; rfl) HALL.out)
            go_wp2
            go_ret
            exact ⟨by rw [HV.out]; rfl, bnext HB1.out HB.out⟩
end Go.Proofs.Ytpmmincophaaiaa
