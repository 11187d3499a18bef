/- The contract of the function that breaks.finder returns. -/
import Derived.Test.YtcocnmpnbolpmaaDoorBrkLine
namespace Go.Proofs.YtcocnmpnbolpmaaDoor
set_option linter.unusedVariables false
open Go.RowKit Go.Shelf Go.Deep
theorem clamp_any (x : Int) (w : World) : Calls Tryd.prog 43 #[.int .i64 x] w fun e W' => e = .returned (.int .i64 (BP.wd x)) ∧ w = W' := by
  go_enter Tryd.func43, Tryd.ntmps43
  go_wp2
  all_goals
    go_ret
    exact ⟨ret1 (by unfold BP.wd; omega), rfl⟩
theorem wide_any (x : Int) (w : World) : Calls Tryd.prog 34 #[.int .i64 x] w fun e W' => e = .returned (.int .i64 (BP.wd x)) ∧ w = W' := by
  go_enter Tryd.func34, Tryd.ntmps34
  go_wp2
  all_goals
    go_ret
    exact ⟨ret1 (by unfold BP.wd; omega), rfl⟩
theorem row_int {w : World} {v : Value} {L : List Int} (h : RowAt w v (L.map (Value.int .i64))) : ∃ a c, v = .slice a L.length c ∧ ∀ k, k < L.length → ∃ g o, a = some ⟨g, o, none⟩ ∧ w.cell? ⟨g, o + k, none⟩ = some (.int .i64 (L.getD k 0)) := by
  obtain ⟨a, c, rfl, h⟩ := h
  refine ⟨a, c, by rw [List.length_map], fun k hk => ?_⟩
  rcases h with h | ⟨g, o, rfl, _, hc⟩
  · simp at h; subst h; simp at hk
  · exact ⟨g, o, rfl, by rw [hc k (by simpa using hk)]; simp [List.getD, List.getElem?_eq_getElem hk]⟩
theorem row_bool {w : World} {v : Value} {L : List Bool} (h : RowAt w v (L.map Value.bool)) : ∃ a c, v = .slice a L.length c ∧ ∀ k, k < L.length → ∃ g o, a = some ⟨g, o, none⟩ ∧ w.cell? ⟨g, o + k, none⟩ = some (.bool (L.getD k false)) := by
  obtain ⟨a, c, rfl, h⟩ := h
  refine ⟨a, c, by rw [List.length_map], fun k hk => ?_⟩
  rcases h with h | ⟨g, o, rfl, _, hc⟩
  · simp at h; subst h; simp at hk
  · exact ⟨g, o, rfl, by rw [hc k (by simpa using hk)]; simp [List.getD, List.getElem?_eq_getElem hk]⟩
set_option maxRecDepth 100000 in
set_option maxHeartbeats 4000000 in
theorem fin_any (W M : List Int) (S : List Bool) (width : Int) (vW vM vS : Value) (b0 b1 b2 b3 b4 : Nat) (first n : Nat) (w : World) (hn : BP.nOf W M S = n) (hn1 : n ≤ 1000) (hf : first < n)
    (hW : RowAt w vW (W.map (Value.int .i64))) (hM : RowAt w vM (M.map (Value.int .i64))) (hS : RowAt w vS (S.map Value.bool))
    (h0 : w.cell? ⟨b0, 0, none⟩ = some (.int .i64 n)) (h1 : w.cell? ⟨b1, 0, none⟩ = some vW) (h2 : w.cell? ⟨b2, 0, none⟩ = some vS) (h3 : w.cell? ⟨b3, 0, none⟩ = some (.int .i64 width)) (h4 : w.cell? ⟨b4, 0, none⟩ = some vM) :
    Calls Tryd.prog 42 #[.int .i64 first, .pointer (some ⟨b0, 0, none⟩), .pointer (some ⟨b1, 0, none⟩), .pointer (some ⟨b2, 0, none⟩), .pointer (some ⟨b3, 0, none⟩), .pointer (some ⟨b4, 0, none⟩)] w fun e W' => e = .returned (.int .i64 (BP.fin (BP.elOf W M S) n (BP.wd width) first)) ∧ Below w.heap.size w W' := by
  obtain ⟨aW, cW, rfl, hcW⟩ := row_int hW
  obtain ⟨aM, cM, rfl, hcM⟩ := row_int hM
  obtain ⟨aS, cS, rfl, hcS⟩ := row_bool hS
  have hnW : n ≤ W.length := by rw [← hn]; unfold BP.nOf; omega
  have hnM : n ≤ M.length := by rw [← hn]; unfold BP.nOf; omega
  have hnS : n ≤ S.length := by rw [← hn]; unfold BP.nOf; omega
  have l0 := World.block_lt_of_cell? _ _ h0
  have l1 := World.block_lt_of_cell? _ _ h1
  have l2 := World.block_lt_of_cell? _ _ h2
  have l3 := World.block_lt_of_cell? _ _ h3
  have l4 := World.block_lt_of_cell? _ _ h4
  clear hW hM hS hn
  obtain ⟨r, hr⟩ : ∃ r, BP.fin (BP.elOf W M S) n (BP.wd width) first = r := ⟨_, rfl⟩
  have HRUN0 : Hid (BP.run (BP.elOf W M S) n (BP.wd width) (n - first) first first (-1) 0 0 = r) := Lib.hid hr
  have hEL : ∀ k, (BP.elOf W M S).w k = BP.wd (W.getD k 0) ∧ (BP.elOf W M S).m k = M.getD k 0 ∧ (BP.elOf W M S).s k = S.getD k false := fun k => ⟨rfl, rfl, rfl⟩
  have HEL := Lib.hid hEL
  rw [hr]
  clear hEL hr
  generalize BP.elOf W M S = E at HRUN0 HEL
  have CD := Lib.hid fun W => clamp_any width W
  have hwd := BP.wd_bd width
  generalize BP.wd width = wdt at CD HRUN0 hwd
  have HCW := Lib.hid hcW
  have HCM := Lib.hid hcM
  have HCS := Lib.hid hcS
  clear hcW hcM hcS
  go_enter Tryd.func42, Tryd.ntmps42
  go_wp2
  go_loopw [8, 9, 10, 11, 12] (fun v8 v9 v10 v11 v12 wr => ∃ (last k : Nat) (cut sum ink : Int), v8 = .int .i64 last ∧ v9 = .int .i64 cut ∧ v10 = .int .i64 sum ∧ v11 = .int .i64 ink ∧ v12 = .int .i64 k ∧ first ≤ k ∧ k ≤ n ∧ last < n ∧ -1 ≤ cut ∧ cut < (n : Int) ∧ 0 ≤ ink ∧ ink ≤ 10000 * (k : Int) ∧ 0 ≤ sum ∧ sum ≤ 10000 * (k : Int) ∧ Hid (BP.run E n wdt (n - k) k last cut sum ink = r) ∧ Below w.heap.size w wr) (fun _ _ _ _ v _ => n - (intOf v).toNat)
  case atStart => exact ⟨first, first, -1, 0, 0, rfl, rfl, rfl, rfl, rfl, Nat.le_refl _, by omega, hf, by omega, by omega, by omega, by omega, by omega, by omega, HRUN0, Below.refl _ _⟩
  case round =>
    obtain ⟨last, k, cut, sum, ink, rfl, rfl, rfl, rfl, rfl, hfk, hk, hln, hc0, hc1, hi0, hi1, hs0, hs1, HRUN, hb⟩ := hrel
    have m0 := (hb.cell (p := ⟨b0, 0, none⟩) l0).trans h0
    have m1 := (hb.cell (p := ⟨b1, 0, none⟩) l1).trans h1
    have m2 := (hb.cell (p := ⟨b2, 0, none⟩) l2).trans h2
    have m3 := (hb.cell (p := ⟨b3, 0, none⟩) l3).trans h3
    have m4 := (hb.cell (p := ⟨b4, 0, none⟩) l4).trans h4
    by_cases hkn : k < n
    · have hkni : (k : Int) < (n : Int) := by omega
      have kW : (k : Int) < (W.length : Int) := by omega
      have kM : (k : Int) < (M.length : Int) := by omega
      have kS : (k : Int) < (S.length : Int) := by omega
      obtain ⟨gW, oW, rfl, cW⟩ := HCW.out k (by omega)
      obtain ⟨gM, oM, rfl, cM⟩ := HCM.out k (by omega)
      obtain ⟨gS, oS, rfl, cS⟩ := HCS.out k (by omega)
      replace cW := (hb.cell (World.block_lt_of_cell? _ _ cW)).trans cW
      replace cM := (hb.cell (World.block_lt_of_cell? _ _ cM)).trans cM
      replace cS := (hb.cell (World.block_lt_of_cell? _ _ cS)).trans cS
      obtain ⟨hEw, hEm, hEs⟩ := HEL.out k
      have CW := Lib.hid fun V => clamp_any (W.getD k 0) V
      have hwk := BP.wd_bd (W.getD k 0)
      generalize BP.wd (W.getD k 0) = ew at CW hEw hwk
      generalize W.getD k 0 = x at cW CW
      generalize M.getD k 0 = m at cM hEm
      generalize S.getD k false = sp at cS hEs
      cases sp with
      | true =>
        by_cases hw : wdt < ink
        · have HR2 : Hid (BP.fin2 n last cut = r) := Lib.hid ((BP.run_stop (by omega) (by rw [hEs]; simpa using hw)).symm.trans HRUN.out)
          clear HRUN
          by_cases ha : (last : Int) = (n : Int) - 1
          · have HRR : Hid (r = (last : Int)) := Lib.hid (HR2.out.symm.trans (BP.fin2_end ha))
            have ha' : ((last : Int) == (n : Int) - 1) = true := by simp; omega
            clear ha HR2 hEm hEs hEw
            go_wp2_with fail
            refine (CW.out _).mono ?_
            rintro e' _ ⟨rfl, rfl⟩
            go_wp2_with fail
            refine (CD.out _).mono ?_
            rintro e' _ ⟨rfl, rfl⟩
            go_wp2_with fail
            go_ret
            exact ⟨by rw [HRR.out]; rfl, hb⟩
          · have ha' : ((last : Int) == (n : Int) - 1) = false := by simp; omega
            by_cases hc : cut < 0
            · have HRR : Hid (r = (last : Int)) := Lib.hid (HR2.out.symm.trans (if_pos (.inr hc)))
              clear ha HR2 hEm hEs hEw
              go_wp2_with fail
              refine (CW.out _).mono ?_
              rintro e' _ ⟨rfl, rfl⟩
              go_wp2_with fail
              refine (CD.out _).mono ?_
              rintro e' _ ⟨rfl, rfl⟩
              go_wp2_with fail
              go_ret
              exact ⟨by rw [HRR.out]; rfl, hb⟩
            · have HRR : Hid (r = cut) := Lib.hid (HR2.out.symm.trans (if_neg (by omega)))
              clear ha HR2 hEm hEs hEw
              go_wp2_with fail
              refine (CW.out _).mono ?_
              rintro e' _ ⟨rfl, rfl⟩
              go_wp2_with fail
              refine (CD.out _).mono ?_
              rintro e' _ ⟨rfl, rfl⟩
              go_wp2_with fail
              go_ret
              exact ⟨by rw [HRR.out]; rfl, hb⟩
        · by_cases hm2 : m = 2
          · subst hm2
            have HRR : Hid (r = (k : Int)) := Lib.hid (HRUN.out.symm.trans (BP.run_must (by omega) (by rw [hEs]; simpa using hw) hEm))
            clear HRUN hEm hEs hEw
            go_wp2_with fail
            refine (CW.out _).mono ?_
            rintro e' _ ⟨rfl, rfl⟩
            go_wp2_with fail
            refine (CD.out _).mono ?_
            rintro e' _ ⟨rfl, rfl⟩
            go_wp2_with fail
            go_ret
            exact ⟨by rw [HRR.out]; rfl, hb⟩
          · have hm2' : (m == 2) = false := by simpa using hm2
            have HN : Hid (BP.run E n wdt (n - (k + 1)) (k + 1) k (if m = 1 then (k : Int) else cut) (sum + ew) (ink) = r) := Lib.hid (by
              have := (BP.run_on (last := last) (cut := cut) (ink := ink) (sum := sum) (width := wdt) (n := n) (g := n - k) (by omega) (by rw [hEs]; simpa using hw) (by rw [hEm]; exact hm2)).symm.trans HRUN.out
              rw [hEm, hEs, hEw] at this
              simpa [Nat.sub_sub] using this)
            clear HRUN hEm hEs hEw hm2
            by_cases hm1 : m = 1
            · subst hm1
              rw [if_pos rfl] at HN
              go_wp2_with fail
              refine (CW.out _).mono ?_
              rintro e' _ ⟨rfl, rfl⟩
              go_wp2_with fail
              refine (CD.out _).mono ?_
              rintro e' _ ⟨rfl, rfl⟩
              go_wp2_with fail
              go_roundw
              case rel => exact ⟨k, k + 1, (k : Int), _, _, rfl, rfl, rfl, rfl, by go_num, by omega, by omega, by omega, by omega, by omega, by omega, by omega, by omega, by omega, HN, hb⟩
              case measure => simp [intOf]; omega
            · have hm1' : (m == 1) = false := by simpa using hm1
              rw [if_neg hm1] at HN
              go_wp2_with fail
              refine (CW.out _).mono ?_
              rintro e' _ ⟨rfl, rfl⟩
              go_wp2_with fail
              refine (CD.out _).mono ?_
              rintro e' _ ⟨rfl, rfl⟩
              go_wp2_with fail
              go_roundw
              case rel => exact ⟨k, k + 1, cut, _, _, rfl, rfl, rfl, rfl, by go_num, by omega, by omega, by omega, by omega, by omega, by omega, by omega, by omega, by omega, HN, hb⟩
              case measure => simp [intOf]; omega
      | false =>
        by_cases hw : wdt < sum + ew
        · have HR2 : Hid (BP.fin2 n last cut = r) := Lib.hid ((BP.run_stop (by omega) (by rw [hEs, hEw]; simpa using hw)).symm.trans HRUN.out)
          clear HRUN
          by_cases ha : (last : Int) = (n : Int) - 1
          · have HRR : Hid (r = (last : Int)) := Lib.hid (HR2.out.symm.trans (BP.fin2_end ha))
            have ha' : ((last : Int) == (n : Int) - 1) = true := by simp; omega
            clear ha HR2 hEm hEs hEw
            go_wp2_with fail
            refine (CW.out _).mono ?_
            rintro e' _ ⟨rfl, rfl⟩
            go_wp2_with fail
            refine (CD.out _).mono ?_
            rintro e' _ ⟨rfl, rfl⟩
            go_wp2_with fail
            go_ret
            exact ⟨by rw [HRR.out]; rfl, hb⟩
          · have ha' : ((last : Int) == (n : Int) - 1) = false := by simp; omega
            by_cases hc : cut < 0
            · have HRR : Hid (r = (last : Int)) := Lib.hid (HR2.out.symm.trans (if_pos (.inr hc)))
              clear ha HR2 hEm hEs hEw
              go_wp2_with fail
              refine (CW.out _).mono ?_
              rintro e' _ ⟨rfl, rfl⟩
              go_wp2_with fail
              refine (CD.out _).mono ?_
              rintro e' _ ⟨rfl, rfl⟩
              go_wp2_with fail
              go_ret
              exact ⟨by rw [HRR.out]; rfl, hb⟩
            · have HRR : Hid (r = cut) := Lib.hid (HR2.out.symm.trans (if_neg (by omega)))
              clear ha HR2 hEm hEs hEw
              go_wp2_with fail
              refine (CW.out _).mono ?_
              rintro e' _ ⟨rfl, rfl⟩
              go_wp2_with fail
              refine (CD.out _).mono ?_
              rintro e' _ ⟨rfl, rfl⟩
              go_wp2_with fail
              go_ret
              exact ⟨by rw [HRR.out]; rfl, hb⟩
        · by_cases hm2 : m = 2
          · subst hm2
            have HRR : Hid (r = (k : Int)) := Lib.hid (HRUN.out.symm.trans (BP.run_must (by omega) (by rw [hEs, hEw]; simpa using hw) hEm))
            clear HRUN hEm hEs hEw
            go_wp2_with fail
            refine (CW.out _).mono ?_
            rintro e' _ ⟨rfl, rfl⟩
            go_wp2_with fail
            refine (CD.out _).mono ?_
            rintro e' _ ⟨rfl, rfl⟩
            go_wp2_with fail
            go_ret
            exact ⟨by rw [HRR.out]; rfl, hb⟩
          · have hm2' : (m == 2) = false := by simpa using hm2
            have HN : Hid (BP.run E n wdt (n - (k + 1)) (k + 1) k (if m = 1 then (k : Int) else cut) (sum + ew) (sum + ew) = r) := Lib.hid (by
              have := (BP.run_on (last := last) (cut := cut) (ink := ink) (sum := sum) (width := wdt) (n := n) (g := n - k) (by omega) (by rw [hEs, hEw]; simpa using hw) (by rw [hEm]; exact hm2)).symm.trans HRUN.out
              rw [hEm, hEs, hEw] at this
              simpa [Nat.sub_sub] using this)
            clear HRUN hEm hEs hEw hm2
            by_cases hm1 : m = 1
            · subst hm1
              rw [if_pos rfl] at HN
              go_wp2_with fail
              refine (CW.out _).mono ?_
              rintro e' _ ⟨rfl, rfl⟩
              go_wp2_with fail
              refine (CD.out _).mono ?_
              rintro e' _ ⟨rfl, rfl⟩
              go_wp2_with fail
              go_roundw
              case rel => exact ⟨k, k + 1, (k : Int), _, _, rfl, rfl, rfl, rfl, by go_num, by omega, by omega, by omega, by omega, by omega, by omega, by omega, by omega, by omega, HN, hb⟩
              case measure => simp [intOf]; omega
            · have hm1' : (m == 1) = false := by simpa using hm1
              rw [if_neg hm1] at HN
              go_wp2_with fail
              refine (CW.out _).mono ?_
              rintro e' _ ⟨rfl, rfl⟩
              go_wp2_with fail
              refine (CD.out _).mono ?_
              rintro e' _ ⟨rfl, rfl⟩
              go_wp2_with fail
              go_roundw
              case rel => exact ⟨k, k + 1, cut, _, _, rfl, rfl, rfl, rfl, by go_num, by omega, by omega, by omega, by omega, by omega, by omega, by omega, by omega, by omega, HN, hb⟩
              case measure => simp [intOf]; omega
    · obtain rfl : k = n := by omega
      have HR2 : Hid (BP.fin2 k last cut = r) := Lib.hid (by have := HRUN.out; rwa [Nat.sub_self] at this)
      clear HRUN
      have n0 := (hb.cell (p := ⟨b0, 0, none⟩) l0).trans h0
      by_cases ha : (last : Int) = (k : Int) - 1
      · have hr : BP.fin2 k last cut = (last : Int) := BP.fin2_end ha
        have HRR : Hid (r = (last : Int)) := Lib.hid (HR2.out.symm.trans hr)
        have ha' : ((last : Int) == (k : Int) - 1) = true := by simp; omega
        clear ha hr HR2
        go_wp2
        go_ret
        exact ⟨by rw [HRR.out]; rfl, hb⟩
      · have ha' : ((last : Int) == (k : Int) - 1) = false := by simp; omega
        by_cases hc : cut < 0
        · have HRR : Hid (r = (last : Int)) := Lib.hid (HR2.out.symm.trans (if_pos (.inr hc)))
          clear ha HR2
          go_wp2
          go_ret
          exact ⟨by rw [HRR.out]; rfl, hb⟩
        · have HRR : Hid (r = cut) := Lib.hid (HR2.out.symm.trans (if_neg (by omega)))
          clear ha HR2
          go_wp2
          go_ret
          exact ⟨by rw [HRR.out]; rfl, hb⟩
end Go.Proofs.YtcocnmpnbolpmaaDoor
