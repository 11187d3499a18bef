/- The contract of the reference's Fill. -/
import Derived.Test.YtcocnmpnbolpmaaDoorBrkEnd
namespace Go.Proofs.YtcocnmpnbolpmaaDoor
set_option linter.unusedVariables false
open Go.RowKit Go.Shelf Go.Deep
set_option maxRecDepth 100000 in
set_option maxHeartbeats 4000000 in
theorem rfill_any (W M : List Int) (S : List Bool) (width : Int) (vW vM vS : Value) (w : World) (hW : RowAt w vW (W.map (Value.int .i64))) (hM : RowAt w vM (M.map (Value.int .i64))) (hS : RowAt w vS (S.map Value.bool)) (hW1 : W.length ≤ 1000) (hM1 : M.length ≤ 1000) (hS1 : S.length ≤ 1000) :
    Calls Tryd.prog 19 #[vW, vM, vS, .int .i64 width] w fun e W' => ∃ v', e = .returned v' ∧ Src W' v' ((BP.Fill W M S width).map (Value.int .i64)) ∧ Below w.heap.size w W' := by
  obtain ⟨i0, hi, hz0, hz1, hz2⟩ := info_parts info_int
  have HELS := Lib.hid (elements_any W M S vW vM vS w hW hM hS hW1 hM1 hS1)
  have hn1 : BP.nOf W M S ≤ 1000 := by unfold BP.nOf; omega
  have HEB : Hid (∀ k, 0 ≤ (BP.elOf W M S).w k ∧ (BP.elOf W M S).w k ≤ 10000) := Lib.hid fun k => BP.wd_bd _
  unfold BP.Fill
  generalize BP.elOf W M S = E at HELS HEB ⊢
  generalize BP.nOf W M S = n at HELS hn1 ⊢
  have HWD := Lib.hid fun V => wide_any width V
  have hwd := BP.wd_bd width
  generalize BP.wd width = wdt at HWD hwd ⊢
  clear hW hM hS
  go_enter Tryd.func19, Tryd.ntmps19
  go_wp2_with fail
  refine HELS.out.mono ?_
  rintro e w1 ⟨ve, rfl, oe, hb1⟩
  have he := own_el oe
  obtain ⟨ae, ce, rfl, _⟩ := id he
  have HEA := Lib.hid he
  have HB1 := Lib.hid hb1
  clear HELS oe he hb1
  go_wp2_with fail
  go_loopw [10, 11] (fun v10 v11 wr => ∃ (pre : List Int) (line : Nat), v11 = .int .i64 line ∧ line ≤ pre.length ∧ pre.length ≤ n ∧ Hid (BP.Fl E n wdt pre line) ∧ wr.ownsRow w1.heap.size 3 1 v10 pre.length (pre.map (Value.int .i64)) ∧ Below w1.heap.size w1 wr) (fun v _ _ => n - lenOfS v)
  case atStart => exact ⟨[], 0, rfl, Nat.le_refl _, Nat.zero_le _, Lib.hid (BP.Fl.start _ _ _), World.ownsRow_nil _ _ _ _, Below.refl _ _⟩
  case round =>
    obtain ⟨pre, line, rfl, hlp, hpn, HFL, hrow, hb⟩ := hrel
    have hbs := hb.size
    rename World => w3
    by_cases hp : pre.length = n
    · have hpi : ¬ (pre.length : Int) < (n : Int) := by omega
      have hfin := HFL.out.done hp
      have hsrc := own_src hrow (by rw [List.length_map])
      obtain ⟨ga, ca, rfl⟩ := own_shape hrow
      have HFIN := Lib.hid hfin
      have HSRC := Lib.hid hsrc
      clear hfin hsrc hrow hp
      go_wp2_with fail
      go_ret
      exact ⟨_, rfl, by rw [← HFIN.out]; exact HSRC.out, bnext HB1.out hb⟩
    · have hpi : (pre.length : Int) < (n : Int) := by omega
      have hpn2 : pre.length < n := by omega
      have hbd := BP.fin_bd (E := E) (width := wdt) hpn2
      have hnx := HFL.out.next hpn2
      have HCC := Lib.hid fun (V : World) (hV : Below w1.heap.size w1 V) => rend_any E n pre.length wdt _ V (HEA.out.keep hV) hpn2 hn1 hwd HEB.out
      generalize BP.fin E n wdt pre.length = z at hbd hnx HCC
      obtain ⟨q, rfl⟩ : ∃ q : Nat, z = (q : Int) := ⟨z.toNat, by omega⟩
      rw [Int.toNat_natCast] at hnx
      have HNX := Lib.hid hnx
      obtain ⟨ga, ca, rfl⟩ := own_shape hrow
      have HROW := Lib.hid hrow
      have HB3 := Lib.hid hb
      clear hnx hrow hp
      go_wp2_with fail
      refine (HWD.out _).mono ?_
      rintro e _ ⟨rfl, rfl⟩
      go_wp2_with fail
      refine (HCC.out _ HB3.out).mono ?_
      rintro e w4 ⟨rfl, hb4⟩
      have hrow4 := own_below HROW.out hb4
      have hb14 := bnext HB3.out hb4
      clear HCC hb4
      go_wp2_with fail
      go_loopw [10] (fun v10 wr => ∃ j : Nat, pre.length + j ≤ q + 1 ∧ wr.ownsRow w1.heap.size 3 1 v10 (pre.length + j) ((pre ++ List.replicate j (line : Int)).map (Value.int .i64)) ∧ Below w1.heap.size w1 wr) (fun v _ => q + 1 - lenOfS v)
      case atStart => exact ⟨0, by omega, by simpa using hrow4, hb14⟩
      case round =>
        obtain ⟨j, hj, hrow, hb5⟩ := hrel
        have hbs5 := hb5.size
        obtain ⟨ga5, ca5, rfl⟩ := own_shape hrow
        by_cases hjq : pre.length + j ≤ q
        · have hjqi : (pre.length : Int) + (j : Int) ≤ (q : Int) := by omega
          have HREP : Hid ((pre ++ List.replicate (j + 1) (line : Int)).map (Value.int .i64) = (pre ++ List.replicate j (line : Int)).map (Value.int .i64) ++ [.int .i64 (line : Int)]) := Lib.hid (by rw [List.replicate_succ', ← List.append_assoc, List.map_append]; rfl)
          generalize (pre ++ List.replicate j (line : Int)).map (Value.int .i64) = P at hrow HREP
          go_wp2_with (at_builtin; refine wpList_append_own _ rfl _ _ 22 rfl w1.heap.size 3 i0 (.int .i64 0) 1 8 Tryd.underlying22 hi hz0 hz1 hz2 rfl (by decide) _ _ _ rfl (hrow.alloc _) ⟨wr.heap.size, 0, none⟩ 1 1 [.int .i64 (line : Int)] rfl rfl (cell_one_new wr _ _) (by simp [Value.oneCell']) (by unfold maxLen; omega) (by omega) (by simp; omega) ?_; intro v' w6 hown6 hgrow _; obtain ⟨g6, cap6, rfl⟩ := ownsRow_succ hown6)
          go_roundw
          case rel => exact ⟨j + 1, by omega, by rw [HREP.out]; exact hown6, span_app hrow hb5 hgrow⟩
          case measure => simp [lenOfS]; omega
        · have hjqi : ¬ (pre.length : Int) + (j : Int) ≤ (q : Int) := by omega
          have hje : j = q + 1 - pre.length := by omega
          have HROW5 := Lib.hid hrow
          have HJE := Lib.hid hje
          have hll : (line : Int) + 1 ≤ 2000 := by omega
          clear hrow hje
          go_wp2_with fail
          go_roundw
          case rel =>
            have hlen : (pre ++ List.replicate j (line : Int)).length = pre.length + j := by simp
            exact ⟨pre ++ List.replicate j (line : Int), line + 1, by go_num, by rw [hlen]; omega, by rw [hlen]; omega, Lib.hid (by rw [HJE.out]; exact HNX.out), by rw [hlen]; exact HROW5.out, hb5⟩
          case measure => simp [lenOfS]; omega
end Go.Proofs.YtcocnmpnbolpmaaDoor
