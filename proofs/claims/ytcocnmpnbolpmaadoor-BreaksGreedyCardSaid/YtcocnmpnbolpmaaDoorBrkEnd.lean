/- The contract of the reference's end. -/
import Derived.Test.YtcocnmpnbolpmaaDoorBrkElems
namespace Go.Proofs.YtcocnmpnbolpmaaDoor
set_option linter.unusedVariables false
open Go.RowKit Go.Shelf Go.Deep
/-- The first n elements lie there. -/
def ElAt (w : World) (v : Value) (E : BP.El) (n : Nat) : Prop := ∃ a c, v = .slice a n c ∧ ∀ k, k < n → ∃ g, a = some ⟨g, 0, none⟩ ∧ w.cell? ⟨g, k * 3, none⟩ = some (.int .i64 (E.w k)) ∧ w.cell? ⟨g, k * 3 + 1, none⟩ = some (.int .i64 (E.m k)) ∧ w.cell? ⟨g, k * 3 + 2, none⟩ = some (.bool (E.s k))
theorem ElAt.keep {w w' : World} {v : Value} {E : BP.El} {n : Nat} (h : ElAt w v E n) (hb : Below w.heap.size w w') : ElAt w' v E n := by
  obtain ⟨a, c, rfl, h⟩ := h
  refine ⟨a, c, rfl, fun k hk => ?_⟩
  obtain ⟨g, e, h1, h2, h3⟩ := h k hk
  exact ⟨g, e, (hb.cell (World.block_lt_of_cell? _ _ h1)).trans h1, (hb.cell (World.block_lt_of_cell? _ _ h2)).trans h2, (hb.cell (World.block_lt_of_cell? _ _ h3)).trans h3⟩
theorem elc_get (E : BP.El) : ∀ (n k : Nat), k < n → (elc E n)[k * 3]? = some (.int .i64 (E.w k)) ∧ (elc E n)[k * 3 + 1]? = some (.int .i64 (E.m k)) ∧ (elc E n)[k * 3 + 2]? = some (.bool (E.s k))
  | 0, k, h => by omega
  | n + 1, k, h => by
    have hl : ∀ m, (elc E m).length = m * 3 := fun m => by
      induction m with
      | zero => rfl
      | succ m ih => rw [elc_succ, List.length_append, ih]; simp; omega
    rw [elc_succ]
    by_cases e : k = n
    · subst e
      rw [List.getElem?_append_right (by rw [hl]; omega), List.getElem?_append_right (by rw [hl]; omega), List.getElem?_append_right (by rw [hl]; omega), hl]
      simp
    · obtain ⟨h1, h2, h3⟩ := elc_get E n k (by omega)
      rw [List.getElem?_append_left (by rw [hl]; omega), List.getElem?_append_left (by rw [hl]; omega), List.getElem?_append_left (by rw [hl]; omega)]
      exact ⟨h1, h2, h3⟩
theorem own_el {w : World} {B e n : Nat} {v : Value} {E : BP.El} (h : w.ownsRow B e 3 v n (elc E n)) : ElAt w v E n := by
  rcases h.2 with ⟨hv, hn⟩ | ⟨g, cap, cur, hv, hb, hg, _⟩
  · subst hv; subst hn
    exact ⟨none, 0, rfl, fun k hk => by omega⟩
  · subst hv
    refine ⟨_, cap, rfl, fun k hk => ⟨g, rfl, ?_⟩⟩
    obtain ⟨h1, h2, h3⟩ := elc_get E n k hk
    have c1 := h.cells (g := g) rfl _ _ h1
    have c2 := h.cells (g := g) rfl _ _ h2
    have c3 := h.cells (g := g) rfl _ _ h3
    rw [addr_add] at c1 c2 c3
    exact ⟨c1, c2, c3⟩
set_option maxRecDepth 100000 in
set_option maxHeartbeats 4000000 in
theorem rend_any (E : BP.El) (n first : Nat) (wdt : Int) (v : Value) (w : World) (hv : ElAt w v E n) (hf : first < n) (hn1 : n ≤ 1000) (hwd : 0 ≤ wdt ∧ wdt ≤ 10000) (hE : ∀ k, 0 ≤ E.w k ∧ E.w k ≤ 10000) :
    Calls Tryd.prog 33 #[v, .int .i64 first, .int .i64 wdt] w fun e W' => e = .returned (.int .i64 (BP.fin E n wdt first)) ∧ Below w.heap.size w W' := by
  obtain ⟨a, c, rfl, hc⟩ := hv
  obtain ⟨r, hr⟩ : ∃ r, BP.fin E n wdt first = r := ⟨_, rfl⟩
  have HRUN0 : Hid (BP.run E n wdt (n - first) first first (-1) 0 0 = r) := Lib.hid hr
  rw [hr]
  have HC := Lib.hid hc
  have HE := Lib.hid hE
  clear hr hc hE
  go_enter Tryd.func33, Tryd.ntmps33
  go_wp2
  go_loopw [7, 8, 9, 10] (fun v7 v8 v9 v10 wr => ∃ (last k : Nat) (cut sum ink : Int), v7 = .int .i64 sum ∧ v8 = .int .i64 ink ∧ v9 = .int .i64 last ∧ v10 = .int .i64 k ∧ first ≤ k ∧ k ≤ n ∧ last < n ∧ 0 ≤ ink ∧ ink ≤ 10000 * (k : Int) ∧ 0 ≤ sum ∧ sum ≤ 10000 * (k : Int) ∧ (k = last + 1 ∨ k = first ∧ last = first) ∧ Hid (BP.Cut E first k cut) ∧ Hid (BP.run E n wdt (n - k) k last cut sum ink = r) ∧ Below w.heap.size w wr) (fun _ _ _ v _ => n - (intOf v).toNat)
  case atStart => exact ⟨first, first, -1, 0, 0, rfl, rfl, rfl, rfl, Nat.le_refl _, by omega, hf, by omega, by omega, by omega, by omega, .inr ⟨rfl, rfl⟩, Lib.hid (BP.Cut.start _ _), HRUN0, Below.refl _ _⟩
  case round =>
    obtain ⟨last, k, cut, sum, ink, rfl, rfl, rfl, rfl, hfk, hk, hln, hi0, hi1, hs0, hs1, hkl, HCUT, HRUN, hb⟩ := hrel
    by_cases hkn : k < n
    · have hkni : (k : Int) < (n : Int) := by omega
      obtain ⟨g, rfl, d0, d1, d2⟩ := HC.out k hkn
      replace d0 := (hb.cell (World.block_lt_of_cell? _ _ d0)).trans d0
      replace d1 := (hb.cell (World.block_lt_of_cell? _ _ d1)).trans d1
      replace d2 := (hb.cell (World.block_lt_of_cell? _ _ d2)).trans d2
      have hwk := HE.out k
      generalize hEw : E.w k = ew at d0 hwk
      generalize hEm : E.m k = m at d1
      generalize hEs : E.s k = sp at d2
      cases sp with
      | true =>
        by_cases hw : wdt < ink
        · have HR2 : Hid (BP.fin2 n last cut = r) := Lib.hid ((BP.run_stop (by omega) (by rw [hEs]; simpa using hw)).symm.trans HRUN.out)
          clear HRUN hEm hEs hEw
          rename World => wp
          have HBP := Lib.hid hb
          by_cases ha : (last : Int) = (n : Int) - 1
          · have hr : BP.fin2 n last cut = (last : Int) := BP.fin2_end ha
            have HRR : Hid (r = (last : Int)) := Lib.hid (HR2.out.symm.trans hr)
            have ha' : ((last : Int) == (n : Int) - 1) = true := by simp; omega
            clear ha hr HR2
            go_wp2
            go_ret
            exact ⟨by rw [HRR.out]; rfl, hb⟩
          · have ha' : ((last : Int) == (n : Int) - 1) = false := by simp; omega
            have HNE := Lib.hid ha
            clear ha hb
            go_wp2
            go_loopw [11] (fun v11 wr => ∃ i : Int, v11 = .int .i64 i ∧ (first : Int) - 1 ≤ i ∧ i ≤ (last : Int) ∧ Hid (∀ j : Nat, i < (j : Int) → j ≤ last → E.m j ≠ 1) ∧ wr = wp) (fun v _ => (intOf v - (first : Int) + 1).toNat)
            case atStart => exact ⟨(last : Int), rfl, by omega, Int.le_refl _, Lib.hid (fun j a b => by omega), rfl⟩
            case round =>
              obtain ⟨i, rfl, hi0, hi1, HNO, rfl⟩ := hrel
              by_cases hfi : (first : Int) ≤ i
              · obtain ⟨i, rfl⟩ : ∃ q : Nat, i = (q : Int) := ⟨i.toNat, by omega⟩
                have hin : (i : Int) < (n : Int) := by omega
                obtain ⟨g2, hg2, _, d1, _⟩ := HC.out i (by omega)
                first
                  | subst hg2
                  | (injection hg2 with hg2; injection hg2 with hg2; subst hg2)
                replace d1 := (HBP.out.cell (World.block_lt_of_cell? _ _ d1)).trans d1
                by_cases hm : E.m i = 1
                · have HRR : Hid (r = (i : Int)) := Lib.hid (HR2.out.symm.trans (HCUT.out.found hkl HNE.out (by omega) (by omega) hm (fun j x y => HNO.out j (by omega) y)))
                  rw [hm] at d1
                  clear hm
                  go_wp2
                  go_ret
                  exact ⟨by rw [HRR.out]; rfl, HBP.out⟩
                · have hm' : (E.m i == 1) = false := by simpa using hm
                  have HNO2 : Hid (∀ j : Nat, (i : Int) - 1 < (j : Int) → j ≤ last → E.m j ≠ 1) := Lib.hid fun j x y => by
                    by_cases e : j = i
                    · subst e; exact hm
                    · exact HNO.out j (by omega) y
                  clear hm HNO
                  generalize E.m i = m at d1 hm'
                  go_wp2
                  go_roundw
                  case rel => exact ⟨(i : Int) - 1, by go_num, by omega, by omega, HNO2, (by first | rfl | trivial)⟩
                  case measure => simp [intOf]; omega
              · have HRR : Hid (r = (last : Int)) := Lib.hid (HR2.out.symm.trans (HCUT.out.none hkl (fun j x y => HNO.out j (by omega) y)))
                clear HNO
                go_wp2
                go_ret
                exact ⟨by rw [HRR.out]; rfl, HBP.out⟩
        · by_cases hm2 : m = 2
          · subst hm2
            have HRR : Hid (r = (k : Int)) := Lib.hid (HRUN.out.symm.trans (BP.run_must (by omega) (by rw [hEs]; simpa using hw) hEm))
            clear HRUN hEm hEs hEw
            go_wp2
            go_ret
            exact ⟨by rw [HRR.out]; rfl, hb⟩
          · have hm2' : (m == 2) = false := by simpa using hm2
            have HN : Hid (BP.run E n wdt (n - (k + 1)) (k + 1) k (if m = 1 then (k : Int) else cut) (sum + ew) (ink) = r) := Lib.hid (by
              have := (BP.run_on (last := last) (cut := cut) (ink := ink) (sum := sum) (width := wdt) (n := n) (g := n - k) (by omega) (by rw [hEs]; simpa using hw) (by rw [hEm]; exact hm2)).symm.trans HRUN.out
              rw [hEm, hEs, hEw] at this
              simpa [Nat.sub_sub] using this)
            have HCN : Hid (BP.Cut E first (k + 1) (if m = 1 then (k : Int) else cut)) := Lib.hid (by have := HCUT.out.next hfk; rwa [hEm] at this)
            clear HRUN hEm hEs hEw hm2 HCUT
            go_wp2
            go_roundw
            case rel => exact ⟨k, k + 1, _, _, _, rfl, rfl, rfl, by go_num, by omega, by omega, by omega, by omega, by omega, by omega, by omega, .inl rfl, HCN, HN, hb⟩
            case measure => simp [intOf]; omega
      | false =>
        by_cases hw : wdt < sum + ew
        · have HR2 : Hid (BP.fin2 n last cut = r) := Lib.hid ((BP.run_stop (by omega) (by rw [hEs, hEw]; simpa using hw)).symm.trans HRUN.out)
          clear HRUN hEm hEs hEw
          rename World => wp
          have HBP := Lib.hid hb
          by_cases ha : (last : Int) = (n : Int) - 1
          · have hr : BP.fin2 n last cut = (last : Int) := BP.fin2_end ha
            have HRR : Hid (r = (last : Int)) := Lib.hid (HR2.out.symm.trans hr)
            have ha' : ((last : Int) == (n : Int) - 1) = true := by simp; omega
            clear ha hr HR2
            go_wp2
            go_ret
            exact ⟨by rw [HRR.out]; rfl, hb⟩
          · have ha' : ((last : Int) == (n : Int) - 1) = false := by simp; omega
            have HNE := Lib.hid ha
            clear ha hb
            go_wp2
            go_loopw [11] (fun v11 wr => ∃ i : Int, v11 = .int .i64 i ∧ (first : Int) - 1 ≤ i ∧ i ≤ (last : Int) ∧ Hid (∀ j : Nat, i < (j : Int) → j ≤ last → E.m j ≠ 1) ∧ wr = wp) (fun v _ => (intOf v - (first : Int) + 1).toNat)
            case atStart => exact ⟨(last : Int), rfl, by omega, Int.le_refl _, Lib.hid (fun j a b => by omega), rfl⟩
            case round =>
              obtain ⟨i, rfl, hi0, hi1, HNO, rfl⟩ := hrel
              by_cases hfi : (first : Int) ≤ i
              · obtain ⟨i, rfl⟩ : ∃ q : Nat, i = (q : Int) := ⟨i.toNat, by omega⟩
                have hin : (i : Int) < (n : Int) := by omega
                obtain ⟨g2, hg2, _, d1, _⟩ := HC.out i (by omega)
                first
                  | subst hg2
                  | (injection hg2 with hg2; injection hg2 with hg2; subst hg2)
                replace d1 := (HBP.out.cell (World.block_lt_of_cell? _ _ d1)).trans d1
                by_cases hm : E.m i = 1
                · have HRR : Hid (r = (i : Int)) := Lib.hid (HR2.out.symm.trans (HCUT.out.found hkl HNE.out (by omega) (by omega) hm (fun j x y => HNO.out j (by omega) y)))
                  rw [hm] at d1
                  clear hm
                  go_wp2
                  go_ret
                  exact ⟨by rw [HRR.out]; rfl, HBP.out⟩
                · have hm' : (E.m i == 1) = false := by simpa using hm
                  have HNO2 : Hid (∀ j : Nat, (i : Int) - 1 < (j : Int) → j ≤ last → E.m j ≠ 1) := Lib.hid fun j x y => by
                    by_cases e : j = i
                    · subst e; exact hm
                    · exact HNO.out j (by omega) y
                  clear hm HNO
                  generalize E.m i = m at d1 hm'
                  go_wp2
                  go_roundw
                  case rel => exact ⟨(i : Int) - 1, by go_num, by omega, by omega, HNO2, (by first | rfl | trivial)⟩
                  case measure => simp [intOf]; omega
              · have HRR : Hid (r = (last : Int)) := Lib.hid (HR2.out.symm.trans (HCUT.out.none hkl (fun j x y => HNO.out j (by omega) y)))
                clear HNO
                go_wp2
                go_ret
                exact ⟨by rw [HRR.out]; rfl, HBP.out⟩
        · by_cases hm2 : m = 2
          · subst hm2
            have HRR : Hid (r = (k : Int)) := Lib.hid (HRUN.out.symm.trans (BP.run_must (by omega) (by rw [hEs, hEw]; simpa using hw) hEm))
            clear HRUN hEm hEs hEw
            go_wp2
            go_ret
            exact ⟨by rw [HRR.out]; rfl, hb⟩
          · have hm2' : (m == 2) = false := by simpa using hm2
            have HN : Hid (BP.run E n wdt (n - (k + 1)) (k + 1) k (if m = 1 then (k : Int) else cut) (sum + ew) (sum + ew) = r) := Lib.hid (by
              have := (BP.run_on (last := last) (cut := cut) (ink := ink) (sum := sum) (width := wdt) (n := n) (g := n - k) (by omega) (by rw [hEs, hEw]; simpa using hw) (by rw [hEm]; exact hm2)).symm.trans HRUN.out
              rw [hEm, hEs, hEw] at this
              simpa [Nat.sub_sub] using this)
            have HCN : Hid (BP.Cut E first (k + 1) (if m = 1 then (k : Int) else cut)) := Lib.hid (by have := HCUT.out.next hfk; rwa [hEm] at this)
            clear HRUN hEm hEs hEw hm2 HCUT
            go_wp2
            go_roundw
            case rel => exact ⟨k, k + 1, _, _, _, rfl, rfl, rfl, by go_num, by omega, by omega, by omega, by omega, by omega, by omega, by omega, .inl rfl, HCN, HN, hb⟩
            case measure => simp [intOf]; omega
    · obtain rfl : k = n := by omega
      have HR2 : Hid (BP.fin2 k last cut = r) := Lib.hid (by have := HRUN.out; rwa [Nat.sub_self] at this)
      clear HRUN
      rename World => wp
      have HBP := Lib.hid hb
      by_cases ha : (last : Int) = (k : Int) - 1
      · have hr : BP.fin2 k last cut = (last : Int) := BP.fin2_end ha
        have HRR : Hid (r = (last : Int)) := Lib.hid (HR2.out.symm.trans hr)
        have ha' : ((last : Int) == (k : Int) - 1) = true := by simp; omega
        clear ha hr HR2
        go_wp2
        go_ret
        exact ⟨by rw [HRR.out]; rfl, hb⟩
      · have ha' : ((last : Int) == (k : Int) - 1) = false := by simp; omega
        have HNE := Lib.hid ha
        clear ha hb
        go_wp2
        go_loopw [11] (fun v11 wr => ∃ i : Int, v11 = .int .i64 i ∧ (first : Int) - 1 ≤ i ∧ i ≤ (last : Int) ∧ Hid (∀ j : Nat, i < (j : Int) → j ≤ last → E.m j ≠ 1) ∧ wr = wp) (fun v _ => (intOf v - (first : Int) + 1).toNat)
        case atStart => exact ⟨(last : Int), rfl, by omega, Int.le_refl _, Lib.hid (fun j a b => by omega), rfl⟩
        case round =>
          obtain ⟨i, rfl, hi0, hi1, HNO, rfl⟩ := hrel
          by_cases hfi : (first : Int) ≤ i
          · obtain ⟨i, rfl⟩ : ∃ q : Nat, i = (q : Int) := ⟨i.toNat, by omega⟩
            have hin : (i : Int) < (k : Int) := by omega
            obtain ⟨g2, hg2, _, d1, _⟩ := HC.out i (by omega)
            first
              | subst hg2
              | (injection hg2 with hg2; injection hg2 with hg2; subst hg2)
            replace d1 := (HBP.out.cell (World.block_lt_of_cell? _ _ d1)).trans d1
            by_cases hm : E.m i = 1
            · have HRR : Hid (r = (i : Int)) := Lib.hid (HR2.out.symm.trans (HCUT.out.found hkl HNE.out (by omega) (by omega) hm (fun j x y => HNO.out j (by omega) y)))
              rw [hm] at d1
              clear hm
              go_wp2
              go_ret
              exact ⟨by rw [HRR.out]; rfl, HBP.out⟩
            · have hm' : (E.m i == 1) = false := by simpa using hm
              have HNO2 : Hid (∀ j : Nat, (i : Int) - 1 < (j : Int) → j ≤ last → E.m j ≠ 1) := Lib.hid fun j x y => by
                by_cases e : j = i
                · subst e; exact hm
                · exact HNO.out j (by omega) y
              clear hm HNO
              generalize E.m i = m at d1 hm'
              go_wp2
              go_roundw
              case rel => exact ⟨(i : Int) - 1, by go_num, by omega, by omega, HNO2, (by first | rfl | trivial)⟩
              case measure => simp [intOf]; omega
          · have HRR : Hid (r = (last : Int)) := Lib.hid (HR2.out.symm.trans (HCUT.out.none hkl (fun j x y => HNO.out j (by omega) y)))
            clear HNO
            go_wp2
            go_ret
            exact ⟨by rw [HRR.out]; rfl, HBP.out⟩
end Go.Proofs.YtcocnmpnbolpmaaDoor
