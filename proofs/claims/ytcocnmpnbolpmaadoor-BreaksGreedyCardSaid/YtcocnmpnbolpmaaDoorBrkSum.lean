/- The contract of the law's sum. -/
import Derived.Test.YtcocnmpnbolpmaaDoorBrkGreed
namespace Go.Proofs.YtcocnmpnbolpmaaDoor
set_option linter.unusedVariables false
open Go.RowKit Go.Shelf Go.Deep
theorem tot_bd {E : BP.El} (hE : ∀ k, 0 ≤ E.w k ∧ E.w k ≤ 10000) (p : Nat) : ∀ c, 0 ≤ BP.tot E p c ∧ BP.tot E p c ≤ 10000 * (c : Int)
  | 0 => ⟨Int.le_refl _, Int.le_refl _⟩
  | c + 1 => by
    have h := tot_bd hE p c
    have hw := hE (p + c)
    rw [BP.tot]; omega
set_option maxRecDepth 100000 in
set_option maxHeartbeats 4000000 in
theorem sum_any (E : BP.El) (n p q : Nat) (v : Value) (w : World) (hv : ElAt w v E n) (hpq : p ≤ q) (hq : q < n) (hn1 : n ≤ 1000) (hE : ∀ k, 0 ≤ E.w k ∧ E.w k ≤ 10000) :
    Calls Tryd.prog 21 #[v, .int .i64 p, .int .i64 q] w fun e W' => e = .returned (.int .i64 (BP.ink E p (q + 1 - p))) ∧ Below w.heap.size w W' := by
  obtain ⟨a, cc, rfl, hc⟩ := hv
  have HT := Lib.hid (tot_bd hE p)
  have HC := Lib.hid hc
  have HE := Lib.hid hE
  obtain ⟨r, hr⟩ : ∃ r, BP.ink E p (q + 1 - p) = r := ⟨_, rfl⟩
  have HR0 := Lib.hid hr
  rw [hr]
  clear hc hE hr
  go_enter Tryd.func21, Tryd.ntmps21
  go_wp2
  go_loopw [2] (fun v2 wr => ∃ c : Nat, v2 = .int .i64 ((p : Int) + (c : Int) - 1) ∧ p + c ≤ q + 1 ∧ Hid (BP.ink E p c = r) ∧ Below w.heap.size w wr) (fun v _ => (intOf v - (p : Int) + 1).toNat)
  case atStart => exact ⟨q + 1 - p, by congr 1; omega, by omega, HR0, Below.refl _ _⟩
  case round =>
    obtain ⟨c, rfl, hcq, HI, hb⟩ := hrel
    rcases c with _ | c
    · have HRT : Hid (r = BP.tot E p 0) := Lib.hid HI.out.symm
      rw [show ((p : Int) + ((0 : Nat) : Int) - 1) = (p : Int) - 1 by omega]
      have ht : ¬ (p : Int) ≤ (p : Int) - 1 := by omega
      clear HI
      go_wp2
      go_loopw [7, 8] (fun v7 v8 wr => v7 = .int .i64 0 ∧ v8 = .int .i64 (p : Int) ∧ Below w.heap.size w wr) (fun _ _ _ => 0)
      case atStart => exact ⟨rfl, rfl, hb⟩
      case round =>
        obtain ⟨rfl, rfl, hb2⟩ := hrel
        go_wp2
        go_ret
        exact ⟨by rw [HRT.out]; rfl, hb2⟩
    · obtain ⟨j, hj⟩ : ∃ j, p + c = j := ⟨_, rfl⟩
      rw [show ((p : Int) + ((c + 1 : Nat) : Int) - 1) = (j : Int) by omega]
      have hpj : (p : Int) ≤ (j : Int) := by omega
      have hjn : (j : Int) < (n : Int) := by omega
      obtain ⟨g, hg, _, _, d2⟩ := HC.out j (by omega)
      subst hg
      replace d2 := (hb.cell (World.block_lt_of_cell? _ _ d2)).trans d2
      have hI := HI.out
      rw [BP.ink, hj] at hI
      generalize E.s j = sp at d2 hI
      cases sp with
      | true =>
        rw [if_pos rfl] at hI
        have HI2 := Lib.hid hI
        clear HI hI
        go_wp2
        go_roundw
        case rel => exact ⟨c, by congr 1; omega, by omega, HI2, hb⟩
        case measure => simp [intOf]; omega
      | false =>
        have HRT0 : Hid (r = BP.tot E p (c + 1)) := Lib.hid (by rw [← hI]; rfl)
        obtain ⟨c1, hc1⟩ : ∃ c1, c + 1 = c1 := ⟨_, rfl⟩
        rw [hc1] at HRT0
        clear HI hI

        go_wp2
        go_loopw [7, 8] (fun v7 v8 wr => ∃ i : Nat, v7 = .int .i64 (BP.tot E p (i - p)) ∧ v8 = .int .i64 i ∧ p ≤ i ∧ i ≤ p + c1 ∧ Below w.heap.size w wr) (fun _ v _ => p + c1 - (intOf v).toNat)
        case atStart => exact ⟨p, by rw [Nat.sub_self]; rfl, rfl, Nat.le_refl _, by omega, hb⟩
        case round =>
          obtain ⟨i, rfl, rfl, hpi, hic, hb2⟩ := hrel
          by_cases hdc : i < p + c1
          · have hdi : (i : Int) ≤ (j : Int) := by omega
            have hin : (i : Int) < (n : Int) := by omega
            obtain ⟨g2, hg2, d0, _, _⟩ := HC.out i (by omega)
            first
              | subst hg2
              | (injection hg2 with hg2; injection hg2 with hg2; subst hg2)
            replace d0 := (hb2.cell (World.block_lt_of_cell? _ _ d0)).trans d0
            have hwk := HE.out i
            have htb := HT.out (i - p)
            have HTS : Hid (BP.tot E p (i + 1 - p) = BP.tot E p (i - p) + E.w i) := Lib.hid (by rw [show i + 1 - p = (i - p) + 1 by omega, BP.tot, show p + (i - p) = i by omega])
            generalize BP.tot E p (i - p) = td at htb HTS
            generalize E.w i = x at d0 hwk HTS
            go_wp2
            go_roundw
            case rel => exact ⟨i + 1, by rw [HTS.out], by go_num, by omega, by omega, hb2⟩
            case measure => simp [intOf]; omega
          · obtain rfl : i = p + c1 := by omega
            have hdi : ¬ ((p + c1 : Nat) : Int) ≤ (j : Int) := by omega
            have HRR := HRT0
            go_wp2
            go_ret
            exact ⟨by rw [HRR.out]; rfl, hb2⟩
end Go.Proofs.YtcocnmpnbolpmaaDoor
