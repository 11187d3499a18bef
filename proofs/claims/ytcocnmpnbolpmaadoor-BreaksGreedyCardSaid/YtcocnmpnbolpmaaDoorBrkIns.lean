/- The contract of breaks.inside. -/
import Derived.Test.YtcocnmpnbolpmaaDoorBrkHeads
namespace Go.Proofs.YtcocnmpnbolpmaaDoor
set_option linter.unusedVariables false
open Go.RowKit Go.Shelf
set_option maxRecDepth 100000 in
set_option maxHeartbeats 4000000 in
theorem inside_any (h d n : Int) (g : Nat × Nat) (w : World) (hl : Laid w g) :
    Calls Tryd.prog 25 #[.int .i64 h, .int .i64 d, .int .i64 n] w fun e W' => e = .returned (.int .i64 (BP.ins h d n)) ∧ Below w.heap.size w W' := by
  have KN := Lib.hid fun (W : World) (hW : Below w.heap.size w W) => class_any n g W (hl.mono hW)
  have KH := Lib.hid fun (W : World) (hW : Below w.heap.size w W) => class_any h g W (hl.mono hW)
  have KD := Lib.hid fun (W : World) (hW : Below w.heap.size w W) => class_any d g W (hl.mono hW)
  have SH := Lib.hid fun (W : World) (hW : Below w.heap.size w W) => script_any h g W (hl.mono hW)
  have SN := Lib.hid fun (W : World) (hW : Below w.heap.size w W) => script_any n g W (hl.mono hW)
  have HB0 : Hid (Below w.heap.size w w) := Lib.hid (Below.refl _ _)
  obtain ⟨r, hr⟩ : ∃ r, BP.ins h d n = r := ⟨_, rfl⟩
  have HR : Hid (r = if FC.cls n = 1 ∨ FC.cls n = 2 ∨ FC.cls n = 4 then 0 else if FC.cls h = 2 ∨ FC.cls d = 14 then 1 else if FC.cls d = 13 then 0 else if h = 45 ∨ (FC.scr h = 3 ∧ FC.scr n = 3) then 1 else 0) := Lib.hid hr.symm
  rw [hr]
  clear hl hr
  generalize FC.cls n = a at KN HR
  generalize FC.cls h = b at KH HR
  generalize FC.cls d = c at KD HR
  generalize FC.scr h = x at SH HR
  generalize FC.scr n = y at SN HR
  go_enter Tryd.func25, Tryd.ntmps25
  by_cases a1 : a = 1
  · subst a1
    go_wp2_with fail
    refine (KN.out _ HB0.out).mono ?_
    rintro e' w1 ⟨rfl, hb1⟩
    have HB1 := Lib.hid (bnext HB0.out hb1)
    clear hb1
    go_wp2_with fail
    go_ret
    exact ⟨by rw [HR.out]; simp, HB1.out⟩
  · by_cases a2 : a = 2
    · subst a2
      have q1 : ((2 : Int) == 1) = false := rfl
      go_wp2_with fail
      refine (KN.out _ HB0.out).mono ?_
      rintro e' w1 ⟨rfl, hb1⟩
      have HB1 := Lib.hid (bnext HB0.out hb1)
      clear hb1
      go_wp2_with fail
      go_ret
      exact ⟨by rw [HR.out]; simp, HB1.out⟩
    · by_cases a4 : a = 4
      · subst a4
        go_wp2_with fail
        refine (KN.out _ HB0.out).mono ?_
        rintro e' w1 ⟨rfl, hb1⟩
        have HB1 := Lib.hid (bnext HB0.out hb1)
        clear hb1
        go_wp2_with fail
        go_ret
        exact ⟨by rw [HR.out]; simp, HB1.out⟩
      · have q1 : (a == 1) = false := by simpa using a1
        have q2 : (a == 2) = false := by simpa using a2
        have q4 : (a == 4) = false := by simpa using a4
        replace HR : Hid (r = if b = 2 ∨ c = 14 then 1 else if c = 13 then 0 else if h = 45 ∨ (x = 3 ∧ y = 3) then 1 else 0) := Lib.hid (by rw [HR.out, if_neg (by omega)])
        clear a1 a2 a4
        by_cases b2 : b = 2
        · subst b2
          go_wp2_with fail
          refine (KN.out _ HB0.out).mono ?_
          rintro e' w1 ⟨rfl, hb1⟩
          have HB1 := Lib.hid (bnext HB0.out hb1)
          clear hb1
          go_wp2_with fail
          refine (KH.out _ HB1.out).mono ?_
          rintro e' w2 ⟨rfl, hb2⟩
          have HB2 := Lib.hid (bnext HB1.out hb2)
          clear hb2
          go_wp2_with fail
          go_ret
          exact ⟨by rw [HR.out]; simp, HB2.out⟩
        · have q5 : (b == 2) = false := by simpa using b2
          by_cases c14 : c = 14
          · subst c14
            go_wp2_with fail
            refine (KN.out _ HB0.out).mono ?_
            rintro e' w1 ⟨rfl, hb1⟩
            have HB1 := Lib.hid (bnext HB0.out hb1)
            clear hb1
            go_wp2_with fail
            refine (KH.out _ HB1.out).mono ?_
            rintro e' w2 ⟨rfl, hb2⟩
            have HB2 := Lib.hid (bnext HB1.out hb2)
            clear hb2
            go_wp2_with fail
            refine (KD.out _ HB2.out).mono ?_
            rintro e' w3 ⟨rfl, hb3⟩
            have HB3 := Lib.hid (bnext HB2.out hb3)
            clear hb3
            go_wp2_with fail
            go_ret
            exact ⟨by rw [HR.out]; simp, HB3.out⟩
          · have q6 : (c == 14) = false := by simpa using c14
            by_cases c13 : c = 13
            · subst c13
              replace HR : Hid (r = 0) := Lib.hid (by rw [HR.out, if_neg (by omega), if_pos rfl])
              go_wp2_with fail
              refine (KN.out _ HB0.out).mono ?_
              rintro e' w1 ⟨rfl, hb1⟩
              have HB1 := Lib.hid (bnext HB0.out hb1)
              clear hb1
              go_wp2_with fail
              refine (KH.out _ HB1.out).mono ?_
              rintro e' w2 ⟨rfl, hb2⟩
              have HB2 := Lib.hid (bnext HB1.out hb2)
              clear hb2
              go_wp2_with fail
              refine (KD.out _ HB2.out).mono ?_
              rintro e' w3 ⟨rfl, hb3⟩
              have HB3 := Lib.hid (bnext HB2.out hb3)
              clear hb3
              go_wp2_with fail
              refine (KD.out _ HB3.out).mono ?_
              rintro e' w4 ⟨rfl, hb4⟩
              have HB4 := Lib.hid (bnext HB3.out hb4)
              clear hb4
              go_wp2_with fail
              go_ret
              exact ⟨by rw [HR.out]; simp, HB4.out⟩
            · have q7 : (c == 13) = false := by simpa using c13
              replace HR : Hid (r = if h = 45 ∨ (x = 3 ∧ y = 3) then 1 else 0) := Lib.hid (by rw [HR.out, if_neg (by omega), if_neg c13])
              clear b2 c14 c13
              by_cases h45 : h = 45
              · subst h45
                go_wp2_with fail
                refine (KN.out _ HB0.out).mono ?_
                rintro e' w1 ⟨rfl, hb1⟩
                have HB1 := Lib.hid (bnext HB0.out hb1)
                clear hb1
                go_wp2_with fail
                refine (KH.out _ HB1.out).mono ?_
                rintro e' w2 ⟨rfl, hb2⟩
                have HB2 := Lib.hid (bnext HB1.out hb2)
                clear hb2
                go_wp2_with fail
                refine (KD.out _ HB2.out).mono ?_
                rintro e' w3 ⟨rfl, hb3⟩
                have HB3 := Lib.hid (bnext HB2.out hb3)
                clear hb3
                go_wp2_with fail
                refine (KD.out _ HB3.out).mono ?_
                rintro e' w4 ⟨rfl, hb4⟩
                have HB4 := Lib.hid (bnext HB3.out hb4)
                clear hb4
                go_wp2_with fail
                go_ret
                exact ⟨by rw [HR.out]; simp, HB4.out⟩
              · have q8 : (h == 45) = false := by simpa using h45
                by_cases x3 : x = 3
                · subst x3
                  by_cases y3 : y = 3
                  · subst y3
                    go_wp2_with fail
                    refine (KN.out _ HB0.out).mono ?_
                    rintro e' w1 ⟨rfl, hb1⟩
                    have HB1 := Lib.hid (bnext HB0.out hb1)
                    clear hb1
                    go_wp2_with fail
                    refine (KH.out _ HB1.out).mono ?_
                    rintro e' w2 ⟨rfl, hb2⟩
                    have HB2 := Lib.hid (bnext HB1.out hb2)
                    clear hb2
                    go_wp2_with fail
                    refine (KD.out _ HB2.out).mono ?_
                    rintro e' w3 ⟨rfl, hb3⟩
                    have HB3 := Lib.hid (bnext HB2.out hb3)
                    clear hb3
                    go_wp2_with fail
                    refine (KD.out _ HB3.out).mono ?_
                    rintro e' w4 ⟨rfl, hb4⟩
                    have HB4 := Lib.hid (bnext HB3.out hb4)
                    clear hb4
                    go_wp2_with fail
                    refine (SH.out _ HB4.out).mono ?_
                    rintro e' w5 ⟨rfl, hb5⟩
                    have HB5 := Lib.hid (bnext HB4.out hb5)
                    clear hb5
                    go_wp2_with fail
                    refine (SN.out _ HB5.out).mono ?_
                    rintro e' w6 ⟨rfl, hb6⟩
                    have HB6 := Lib.hid (bnext HB5.out hb6)
                    clear hb6
                    go_wp2_with fail
                    go_ret
                    exact ⟨by rw [HR.out]; simp, HB6.out⟩
                  · have q9 : (y == 3) = false := by simpa using y3
                    replace HR : Hid (r = 0) := Lib.hid (by rw [HR.out, if_neg (by omega)])
                    clear h45 y3
                    go_wp2_with fail
                    refine (KN.out _ HB0.out).mono ?_
                    rintro e' w1 ⟨rfl, hb1⟩
                    have HB1 := Lib.hid (bnext HB0.out hb1)
                    clear hb1
                    go_wp2_with fail
                    refine (KH.out _ HB1.out).mono ?_
                    rintro e' w2 ⟨rfl, hb2⟩
                    have HB2 := Lib.hid (bnext HB1.out hb2)
                    clear hb2
                    go_wp2_with fail
                    refine (KD.out _ HB2.out).mono ?_
                    rintro e' w3 ⟨rfl, hb3⟩
                    have HB3 := Lib.hid (bnext HB2.out hb3)
                    clear hb3
                    go_wp2_with fail
                    refine (KD.out _ HB3.out).mono ?_
                    rintro e' w4 ⟨rfl, hb4⟩
                    have HB4 := Lib.hid (bnext HB3.out hb4)
                    clear hb4
                    go_wp2_with fail
                    refine (SH.out _ HB4.out).mono ?_
                    rintro e' w5 ⟨rfl, hb5⟩
                    have HB5 := Lib.hid (bnext HB4.out hb5)
                    clear hb5
                    go_wp2_with fail
                    refine (SN.out _ HB5.out).mono ?_
                    rintro e' w6 ⟨rfl, hb6⟩
                    have HB6 := Lib.hid (bnext HB5.out hb6)
                    clear hb6
                    go_wp2_with fail
                    go_ret
                    exact ⟨by rw [HR.out]; simp, HB6.out⟩
                · have q9 : (x == 3) = false := by simpa using x3
                  replace HR : Hid (r = 0) := Lib.hid (by rw [HR.out, if_neg (by omega)])
                  clear h45 x3
                  go_wp2_with fail
                  refine (KN.out _ HB0.out).mono ?_
                  rintro e' w1 ⟨rfl, hb1⟩
                  have HB1 := Lib.hid (bnext HB0.out hb1)
                  clear hb1
                  go_wp2_with fail
                  refine (KH.out _ HB1.out).mono ?_
                  rintro e' w2 ⟨rfl, hb2⟩
                  have HB2 := Lib.hid (bnext HB1.out hb2)
                  clear hb2
                  go_wp2_with fail
                  refine (KD.out _ HB2.out).mono ?_
                  rintro e' w3 ⟨rfl, hb3⟩
                  have HB3 := Lib.hid (bnext HB2.out hb3)
                  clear hb3
                  go_wp2_with fail
                  refine (KD.out _ HB3.out).mono ?_
                  rintro e' w4 ⟨rfl, hb4⟩
                  have HB4 := Lib.hid (bnext HB3.out hb4)
                  clear hb4
                  go_wp2_with fail
                  refine (SH.out _ HB4.out).mono ?_
                  rintro e' w5 ⟨rfl, hb5⟩
                  have HB5 := Lib.hid (bnext HB4.out hb5)
                  clear hb5
                  go_wp2_with fail
                  go_ret
                  exact ⟨by rw [HR.out]; simp, HB5.out⟩
end Go.Proofs.YtcocnmpnbolpmaaDoor
