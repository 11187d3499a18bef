/- The contract of the reference's may. -/
import Derived.Test.YtcocnmpnbolpmaaDoorBrkMay
namespace Go.Proofs.YtcocnmpnbolpmaaDoor
set_option linter.unusedVariables false
open Go.RowKit Go.Shelf Go.Deep
set_option maxRecDepth 100000 in
set_option maxHeartbeats 4000000 in
theorem rmay1_any (vh ve : Value) (H E : List Int) (k : Nat) (w : World) (hH : RowAt w vh (H.map (Value.int .i64))) (hE : RowAt w ve (E.map (Value.int .i64))) (hk : k < H.length) (hl : E.length = H.length) (hL : H.length ≤ 1000000000) :
    Calls Tryd.prog 28 #[vh, ve, .int .i64 k] w fun e W' => e = .returned (.int .i64 (BP.may1 H E k)) ∧ w = W' := by
  obtain ⟨ah, ch, rfl, hrh⟩ := hH
  obtain ⟨ae, ce, rfl, hre⟩ := hE
  rw [List.length_map] at hrh hre
  rw [List.length_map, List.length_map, hl]
  rcases hrh with hrh | ⟨gh, oh, rfl, _, hch⟩
  · simp at hrh; subst hrh; simp at hk
  rcases hre with hre | ⟨ge, oe, rfl, _, hce⟩
  · simp at hre; subst hre; simp at hl; omega
  have c0 := hch k hk
  have d0 := hce k (by omega)
  rw [show ((H.map (Value.int .i64)).getD k (.bool false)) = .int .i64 (H.getD k 0) by simp [List.getD, List.getElem?_eq_getElem hk]] at c0
  rw [show ((E.map (Value.int .i64)).getD k (.bool false)) = .int .i64 (E.getD k 0) by simp [List.getD, List.getElem?_eq_getElem (show k < E.length by omega)]] at d0
  have HR0 : Hid (BP.may1 H E k = if FC.cls (H.getD k 0) = 1 then 2 else if k + 1 < H.length then (if FC.cls (H.getD (k + 1) 0) = 1 ∨ FC.cls (H.getD (k + 1) 0) = 2 ∨ FC.cls (H.getD (k + 1) 0) = 4 then 0 else if FC.cls (H.getD k 0) = 2 ∨ FC.cls (E.getD k 0) = 14 then 1 else if FC.cls (E.getD k 0) = 13 then 0 else if H.getD k 0 = 45 ∨ (FC.scr (H.getD k 0) = 3 ∧ FC.scr (H.getD (k + 1) 0) = 3) then 1 else 0) else 0) := Lib.hid rfl
  obtain ⟨r, hr⟩ : ∃ r, BP.may1 H E k = r := ⟨_, rfl⟩
  rw [hr] at HR0 ⊢
  have c1 : k + 1 < H.length → w.cell? ⟨gh, oh + (k + 1), none⟩ = some (.int .i64 (H.getD (k + 1) 0)) := fun h => by
    rw [hch (k + 1) h]; simp [List.getD, List.getElem?_eq_getElem h]
  generalize H.getD k 0 = h at c0 HR0
  generalize H.getD (k + 1) 0 = n at c1 HR0
  generalize E.getD k 0 = d at d0 HR0
  have HC1 := Lib.hid c1
  have KH := Lib.hid fun W => rclass_any h W
  have KD := Lib.hid fun W => rclass_any d W
  have KN := Lib.hid fun W => rclass_any n W
  have SH := Lib.hid fun W => rscript_any h W
  have SN := Lib.hid fun W => rscript_any n W
  have hki : (k : Int) < (H.length : Int) := by omega
  clear hch hce hr c1 hl
  generalize FC.cls n = a at KN HR0
  generalize FC.cls h = b at KH HR0
  generalize FC.cls d = c at KD HR0
  generalize FC.scr h = x at SH HR0
  generalize FC.scr n = y at SN HR0
  go_enter Tryd.func28, Tryd.ntmps28
  by_cases b1 : b = 1
  · subst b1
    have HR : Hid (r = 2) := Lib.hid (by rw [HR0.out, if_pos rfl])
    go_wp2_with fail
    refine (KH.out _).mono ?_
    rintro e' _ ⟨rfl, rfl⟩
    go_wp2_with fail
    refine (KD.out _).mono ?_
    rintro e' _ ⟨rfl, rfl⟩
    go_wp2_with fail
    go_ret
    exact ⟨by rw [HR.out]; first | rfl | simp, rfl⟩
  · have qb1 : (b == 1) = false := by simpa using b1
    by_cases hk1 : k + 1 < H.length
    · have qk : ((k : Int) == (H.length : Int) - 1) = false := by simp; omega
      have hk1i : (k : Int) + 1 < (H.length : Int) := by omega
      have c1 := HC1.out hk1
      have HR : Hid (r = if a = 1 ∨ a = 2 ∨ a = 4 then 0 else if b = 2 ∨ c = 14 then 1 else if c = 13 then 0 else if h = 45 ∨ (x = 3 ∧ y = 3) then 1 else 0) := Lib.hid (by rw [HR0.out, if_neg b1, if_pos hk1])
      clear HR0
      by_cases a1 : a = 1
      · subst a1
        go_wp2_with fail
        refine (KH.out _).mono ?_
        rintro e' _ ⟨rfl, rfl⟩
        go_wp2_with fail
        refine (KD.out _).mono ?_
        rintro e' _ ⟨rfl, rfl⟩
        go_wp2_with fail
        refine (KN.out _).mono ?_
        rintro e' _ ⟨rfl, rfl⟩
        go_wp2_with fail
        go_ret
        exact ⟨by rw [HR.out]; first | rfl | simp, rfl⟩
      · by_cases a2 : a = 2
        · subst a2
          have q1 : ((2 : Int) == 1) = false := rfl
          go_wp2_with fail
          refine (KH.out _).mono ?_
          rintro e' _ ⟨rfl, rfl⟩
          go_wp2_with fail
          refine (KD.out _).mono ?_
          rintro e' _ ⟨rfl, rfl⟩
          go_wp2_with fail
          refine (KN.out _).mono ?_
          rintro e' _ ⟨rfl, rfl⟩
          go_wp2_with fail
          go_ret
          exact ⟨by rw [HR.out]; first | rfl | simp, rfl⟩
        · by_cases a4 : a = 4
          · subst a4
            go_wp2_with fail
            refine (KH.out _).mono ?_
            rintro e' _ ⟨rfl, rfl⟩
            go_wp2_with fail
            refine (KD.out _).mono ?_
            rintro e' _ ⟨rfl, rfl⟩
            go_wp2_with fail
            refine (KN.out _).mono ?_
            rintro e' _ ⟨rfl, rfl⟩
            go_wp2_with fail
            go_ret
            exact ⟨by rw [HR.out]; first | rfl | simp, rfl⟩
          · have q1 : (a == 1) = false := by simpa using a1
            have q2 : (a == 2) = false := by simpa using a2
            have q4 : (a == 4) = false := by simpa using a4
            replace HR : Hid (r = if b = 2 ∨ c = 14 then 1 else if c = 13 then 0 else if h = 45 ∨ (x = 3 ∧ y = 3) then 1 else 0) := Lib.hid (by rw [HR.out, if_neg (by omega)])
            clear a1 a2 a4 b1
            by_cases b2 : b = 2
            · subst b2
              replace HR : Hid (r = 1) := Lib.hid (by rw [HR.out, if_pos (.inl rfl)])
              go_wp2_with fail
              refine (KH.out _).mono ?_
              rintro e' _ ⟨rfl, rfl⟩
              go_wp2_with fail
              refine (KD.out _).mono ?_
              rintro e' _ ⟨rfl, rfl⟩
              go_wp2_with fail
              refine (KN.out _).mono ?_
              rintro e' _ ⟨rfl, rfl⟩
              go_wp2_with fail
              go_ret
              exact ⟨by rw [HR.out]; first | rfl | simp, rfl⟩
            · have q5 : (b == 2) = false := by simpa using b2
              by_cases c14 : c = 14
              · subst c14
                replace HR : Hid (r = 1) := Lib.hid (by rw [HR.out, if_pos (.inr rfl)])
                go_wp2_with fail
                refine (KH.out _).mono ?_
                rintro e' _ ⟨rfl, rfl⟩
                go_wp2_with fail
                refine (KD.out _).mono ?_
                rintro e' _ ⟨rfl, rfl⟩
                go_wp2_with fail
                refine (KN.out _).mono ?_
                rintro e' _ ⟨rfl, rfl⟩
                go_wp2_with fail
                go_ret
                exact ⟨by rw [HR.out]; first | rfl | simp, rfl⟩
              · have q6 : (c == 14) = false := by simpa using c14
                by_cases c13 : c = 13
                · subst c13
                  replace HR : Hid (r = 0) := Lib.hid (by rw [HR.out, if_neg (by omega), if_pos rfl])
                  go_wp2_with fail
                  refine (KH.out _).mono ?_
                  rintro e' _ ⟨rfl, rfl⟩
                  go_wp2_with fail
                  refine (KD.out _).mono ?_
                  rintro e' _ ⟨rfl, rfl⟩
                  go_wp2_with fail
                  refine (KN.out _).mono ?_
                  rintro e' _ ⟨rfl, rfl⟩
                  go_wp2_with fail
                  go_ret
                  exact ⟨by rw [HR.out]; first | rfl | simp, rfl⟩
                · have q7 : (c == 13) = false := by simpa using c13
                  replace HR : Hid (r = if h = 45 ∨ (x = 3 ∧ y = 3) then 1 else 0) := Lib.hid (by rw [HR.out, if_neg (by omega), if_neg c13])
                  clear b2 c14 c13
                  by_cases h45 : h = 45
                  · subst h45
                    replace HR : Hid (r = 1) := Lib.hid (by rw [HR.out, if_pos (.inl rfl)])
                    go_wp2_with fail
                    refine (KH.out _).mono ?_
                    rintro e' _ ⟨rfl, rfl⟩
                    go_wp2_with fail
                    refine (KD.out _).mono ?_
                    rintro e' _ ⟨rfl, rfl⟩
                    go_wp2_with fail
                    refine (KN.out _).mono ?_
                    rintro e' _ ⟨rfl, rfl⟩
                    go_wp2_with fail
                    go_ret
                    exact ⟨by rw [HR.out]; first | rfl | simp, rfl⟩
                  · have q8 : (h == 45) = false := by simpa using h45
                    by_cases x3 : x = 3
                    · subst x3
                      by_cases y3 : y = 3
                      · subst y3
                        replace HR : Hid (r = 1) := Lib.hid (by rw [HR.out, if_pos (.inr ⟨rfl, rfl⟩)])
                        go_wp2_with fail
                        refine (KH.out _).mono ?_
                        rintro e' _ ⟨rfl, rfl⟩
                        go_wp2_with fail
                        refine (KD.out _).mono ?_
                        rintro e' _ ⟨rfl, rfl⟩
                        go_wp2_with fail
                        refine (KN.out _).mono ?_
                        rintro e' _ ⟨rfl, rfl⟩
                        go_wp2_with fail
                        refine (SH.out _).mono ?_
                        rintro e' _ ⟨rfl, rfl⟩
                        go_wp2_with fail
                        refine (SN.out _).mono ?_
                        rintro e' _ ⟨rfl, rfl⟩
                        go_wp2_with fail
                        go_ret
                        exact ⟨by rw [HR.out]; first | rfl | simp, rfl⟩
                      · have q9 : (y == 3) = false := by simpa using y3
                        replace HR : Hid (r = 0) := Lib.hid (by rw [HR.out, if_neg (by omega)])
                        clear h45 y3
                        go_wp2_with fail
                        refine (KH.out _).mono ?_
                        rintro e' _ ⟨rfl, rfl⟩
                        go_wp2_with fail
                        refine (KD.out _).mono ?_
                        rintro e' _ ⟨rfl, rfl⟩
                        go_wp2_with fail
                        refine (KN.out _).mono ?_
                        rintro e' _ ⟨rfl, rfl⟩
                        go_wp2_with fail
                        refine (SH.out _).mono ?_
                        rintro e' _ ⟨rfl, rfl⟩
                        go_wp2_with fail
                        refine (SN.out _).mono ?_
                        rintro e' _ ⟨rfl, rfl⟩
                        go_wp2_with fail
                        go_ret
                        exact ⟨by rw [HR.out]; first | rfl | simp, rfl⟩
                    · have q9 : (x == 3) = false := by simpa using x3
                      replace HR : Hid (r = 0) := Lib.hid (by rw [HR.out, if_neg (by omega)])
                      clear h45 x3
                      go_wp2_with fail
                      refine (KH.out _).mono ?_
                      rintro e' _ ⟨rfl, rfl⟩
                      go_wp2_with fail
                      refine (KD.out _).mono ?_
                      rintro e' _ ⟨rfl, rfl⟩
                      go_wp2_with fail
                      refine (KN.out _).mono ?_
                      rintro e' _ ⟨rfl, rfl⟩
                      go_wp2_with fail
                      refine (SH.out _).mono ?_
                      rintro e' _ ⟨rfl, rfl⟩
                      go_wp2_with fail
                      go_ret
                      exact ⟨by rw [HR.out]; first | rfl | simp, rfl⟩
    · have qk : ((k : Int) == (H.length : Int) - 1) = true := by simp; omega
      have HR : Hid (r = 0) := Lib.hid (by rw [HR0.out, if_neg b1, if_neg hk1])
      clear b1 hk1
      go_wp2_with fail
      refine (KH.out _).mono ?_
      rintro e' _ ⟨rfl, rfl⟩
      go_wp2_with fail
      refine (KD.out _).mono ?_
      rintro e' _ ⟨rfl, rfl⟩
      go_wp2_with fail
      go_ret
      exact ⟨by rw [HR.out]; first | rfl | simp, rfl⟩
end Go.Proofs.YtcocnmpnbolpmaaDoor
