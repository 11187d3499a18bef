/- The visual order of the reference. No conditions. -/
import Derived.Test.YtbgmbcngkmlfeaaDoorOrd13
import Derived.Test.YtbgmbcngkmlfeaaDoorOrd15
namespace Go.Proofs.YtbgmbcngkmlfeaaDoor.OP
theorem vp_one {p : Nat → Bool} {l : List Nat} {i x : Nat} (hx : l[i]? = some x) (h : p x = false) : vp p l (i + 1) = vp p l i := by
  have hi := (List.getElem?_eq_some_iff.1 hx).1
  exact vp_false (by omega) (by omega) (fun j y h1 h2 hy => by
    obtain rfl : j = i := by omega
    rw [hx] at hy
    cases hy
    exact h)
theorem ints_get {l : List Nat} {i x : Nat} (h : l[i]? = some x) : (ints l)[i]? = some (x : Int) := by unfold ints; rw [List.getElem?_map, h]; rfl
end Go.Proofs.YtbgmbcngkmlfeaaDoor.OP
namespace Go.Proofs.YtbgmbcngkmlfeaaDoor
set_option maxRecDepth 100000
set_option linter.unusedVariables false
open Go.RowKit Go.Shelf Go.Deep
set_option maxHeartbeats 8000000 in
theorem rvisual7_any (L : List Int) (v : Value) (w : World) (hv : RowAt w v (L.map (Value.int .i64))) (hl : L.length ≤ 1000000000) :
    Calls Tryd.prog 25 #[v] w fun e W' => ∃ v', e = .returned v' ∧ W'.ownsRow w.heap.size 3 1 v' L.length ((OP.ints (OP.vis L)).map (Value.int .i64)) ∧ Below w.heap.size w W' := by
  obtain ⟨i0, hi0, hz0, hz1, hz2⟩ := info_parts info_int
  have HV : Hid (∀ V, Below w.heap.size w V → RowAt V v (L.map (Value.int .i64))) := Lib.hid fun V hV => hv.keep hV
  obtain ⟨ka, kc, rfl, -⟩ := hv.out
  rw [List.length_map] at HV ⊢
  obtain ⟨N, hN⟩ : ∃ N, L.length = N := ⟨_, rfl⟩
  have HLN := Lib.hid hN
  have HVIS : Hid (OP.visF L 9 (List.range N) = OP.vis L) := Lib.hid (by rw [OP.vis, hN])
  rw [hN] at hl HV ⊢
  clear hv hN
  go_enter Tryd.func25, Tryd.ntmps25
  go_wp2_with fail
  go_loopw [3, 4] (fun v3 v4 wr => ∃ k : Nat, v4 = .int .i64 (k : Int) ∧ k ≤ N ∧ wr.ownsRow w.heap.size 3 1 v3 k ((OP.ints (List.range k)).map (Value.int .i64)) ∧ Below w.heap.size w wr) (fun _ v _ => N - (intOf v).toNat)
  case atStart => exact ⟨0, rfl, Nat.zero_le _, World.ownsRow_nil _ _ _ _, Below.refl _ _⟩
  case round =>
    obtain ⟨k, rfl, hk, hrow, hbw⟩ := hrel
    by_cases hkN : k < N
    · have hki : (k : Int) < (N : Int) := by omega
      have hh : Hid (OP.ints (List.range (k + 1)) = OP.ints (List.range k) ++ [(k : Int)]) := Lib.hid (by simp [OP.ints, List.range_succ])
      have hwsz := hbw.size
      go_wp2_with (at_builtin; refine wpList_append_own_at _ rfl _ _ 26 rfl w.heap.size 3 i0 (.int .i64 0) 1 8 Tryd.underlying26 hi0 hz0 hz1 hz2 rfl (by decide) _ _ _ rfl (hrow.alloc _) ⟨wr.heap.size, 0, none⟩ 1 1 [.int .i64 (k : Int)] rfl rfl (cell_one_new wr _ _) (by simp [Value.oneCell']) (by unfold maxLen; omega) (by omega) (by simp; omega) ?_; intro v' w6 hown hgrow _ _; obtain ⟨g5, cap5, rfl⟩ := ownsRow_succ hown)
      go_roundw
      case rel => exact ⟨k + 1, by go_num, hkN, by rw [hh.out, List.map_append]; exact hown, span_app hrow hbw hgrow⟩
      case measure => simp [intOf]; omega
    · obtain rfl : N = k := by omega
      obtain ⟨ra, rc, rfl⟩ := own_shape hrow
      have HROW := Lib.hid hrow
      have HBW := Lib.hid hbw
      clear hrow hbw
      go_wp2_with fail
      go_loopw [5] (fun v5 wr => ∃ (nn : Nat) (l : List Nat), v5 = .int .i64 (nn : Int) ∧ nn ≤ 9 ∧ Hid (OP.visF L nn l = OP.vis L) ∧ Hid (l.Perm (List.range N)) ∧ wr.ownsRow w.heap.size 3 1 (.slice ra N rc) N ((OP.ints l).map (Value.int .i64)) ∧ Below w.heap.size w wr) (fun v _ => (intOf v).toNat)
      case atStart => exact ⟨9, List.range N, rfl, Nat.le_refl _, HVIS, Lib.hid (List.Perm.refl _), HROW.out, HBW.out⟩
      case round =>
        clear HROW HBW
        obtain ⟨nn, l, rfl, hnn, HVF, HPM, hrow, hbw⟩ := hrel
        by_cases hn0 : 0 < nn
        · have hni : (1 : Int) ≤ (nn : Int) := by omega
          have hln : l.length = N := by rw [HPM.out.length_eq, List.length_range]
          have hlm : ∀ i ∈ l, i < N := fun i hi => List.mem_range.1 (HPM.out.mem_iff.1 hi)
          have HLM := Lib.hid hlm
          have HLL := Lib.hid hln
          have HROW := Lib.hid hrow
          have HBW := Lib.hid hbw
          clear hrow hbw hln hlm
          go_wp2_with fail
          go_loopw [6] (fun v6 wr => ∃ i : Nat, v6 = .int .i64 (i : Int) ∧ i ≤ N ∧ wr.ownsRow w.heap.size 3 1 (.slice ra N rc) N ((OP.ints (OP.vp (OP.hi L nn) l i)).map (Value.int .i64)) ∧ Below w.heap.size w wr ∧ Hid (0 < i → ∀ x y, l[i]? = some y → OP.hi L nn y = true → l[i - 1]? = some x → OP.hi L nn x = false)) (fun v _ => N - (intOf v).toNat)
          case atStart => exact ⟨0, rfl, Nat.zero_le _, by rw [OP.vp_zero]; exact HROW.out, HBW.out, Lib.hid fun h => absurd h (by decide)⟩
          case round =>
            clear HROW HBW
            obtain ⟨i, rfl, hi, hrow, hbw, HBD⟩ := hrel
            obtain ⟨wq, hwq⟩ : ∃ wq, wq = wr := ⟨_, rfl⟩
            subst hwq
            by_cases hin : i < N
            · have hii : (i : Int) < (N : Int) := by omega
              have hi00 : (0 : Int) ≤ (i : Int) := by omega
              obtain ⟨gl, gcap, e, hBg, hgl, -⟩ := own_at hrow (by omega)
              injection e with e _ e2
              subst e e2
              obtain ⟨kg, ko, rfl, -, -⟩ := (HV.out wq hbw).cell (k := 0) (by rw [List.length_map, HLN.out]; omega)
              have HKC : Hid (∀ (x : Nat), x < N → wq.cell? ⟨kg, ko + x, none⟩ = some (.int .i64 (L.getD x 0))) := Lib.hid fun x hx => by
                obtain ⟨g', o', e', -, hc⟩ := (HV.out wq hbw).cell (k := x) (by rw [List.length_map, HLN.out]; exact hx)
                injection e' with e'
                injection e' with e1 e2
                subst e1 e2
                rw [hc, List.getElem_map]
                simp [List.getD, List.getElem?_eq_getElem (show x < L.length by rw [HLN.out]; exact hx)]
              have HOC : Hid (∀ (x y : Nat), i ≤ x → l[x]? = some y → wq.cell? ⟨gl, x, none⟩ = some (.int .i64 (y : Int))) := Lib.hid fun x y hx hy =>
                own_at? hrow (by have := (List.getElem?_eq_some_iff.1 hy).1; rw [HLL.out] at this; exact this) (OP.ints_get (by rw [OP.vp_ge (by rw [HLL.out]; omega) hx]; exact hy))
              have HROW := Lib.hid hrow
              have HBW := Lib.hid hbw
              clear hrow hbw
              go_wp2_with fail
              go_loopw [7] (fun v7 wi => ∃ e : Nat, v7 = .int .i64 (e : Int) ∧ i ≤ e ∧ e ≤ N ∧ Hid (∀ x y, i ≤ x → x < e → l[x]? = some y → OP.hi L nn y = true) ∧ wi = wq) (fun v _ => N - (intOf v).toNat)
              case atStart => exact ⟨i, rfl, Nat.le_refl _, hi, Lib.hid fun x y h1 h2 => by omega, rfl⟩
              case round =>
                obtain ⟨e, rfl, hie', hen, HZ, hwi⟩ := hrel
                replace hwi := hwi.symm
                subst hwi
                by_cases hen2 : e < N
                · have heni : (e : Int) < (N : Int) := by omega
                  have he0' : (0 : Int) ≤ (e : Int) := by omega
                  obtain ⟨y, hy⟩ : ∃ y, l[e]? = some y := ⟨l[e]'(by rw [HLL.out]; exact hen2), List.getElem?_eq_getElem _⟩
                  have hyN := HLM.out y (List.mem_of_getElem? hy)
                  have hyi : (y : Int) < (N : Int) := by omega
                  have hy0 : (0 : Int) ≤ (y : Int) := by omega
                  have c1 := HOC.out e y hie' hy
                  have c2 := HKC.out y hyN
                  obtain ⟨z, hz⟩ : ∃ z, L.getD y 0 = z := ⟨_, rfl⟩
                  have hhi : OP.hi L nn y = decide ((nn : Int) ≤ z) := by unfold OP.hi; rw [hz]
                  rw [hz] at c2
                  by_cases hzn : (nn : Int) ≤ z
                  · have HHI : Hid (OP.hi L nn y = true) := Lib.hid (by rw [hhi]; exact decide_eq_true hzn)
                    have HY := Lib.hid hy
                    clear hy hz hhi
                    go_wp2
                    go_roundw
                    case rel =>
                      refine ⟨e + 1, by go_num, by omega, hen2, Lib.hid fun x u h1 h2 hu => ?_, by first | rfl | trivial⟩
                      by_cases hx : x < e
                      · exact HZ.out x u h1 hx hu
                      · obtain rfl : x = e := by omega
                        rw [HY.out] at hu
                        cases hu
                        exact HHI.out
                    case measure => simp [intOf]; omega
                  · have HNZ : Hid (∀ u, l[e]? = some u → OP.hi L nn u = false) := Lib.hid fun u hu => by rw [hy] at hu; cases hu; rw [hhi]; exact decide_eq_false hzn
                    clear hy hz hhi
                    by_cases hie : i < e
                    · have hrv : Hid (OP.ints (OP.vp (OP.hi L nn) l e) = OP.rev (OP.ints (OP.vp (OP.hi L nn) l i)) i (e - i)) := Lib.hid (OP.vp_true hie (by rw [HLL.out]; exact hen) HZ.out (fun h0 x hx => by
                        obtain ⟨y, hy⟩ : ∃ y, l[i]? = some y := ⟨l[i]'(by rw [HLL.out]; exact hin), List.getElem?_eq_getElem _⟩
                        exact HBD.out h0 x y hy (HZ.out i y (Nat.le_refl _) hie hy) hx) HNZ.out)
                      obtain ⟨X, hX⟩ : ∃ X, OP.ints (OP.vp (OP.hi L nn) l i) = X := ⟨_, rfl⟩
                      have hXl : X.length = N := by rw [← hX, OP.ints_len, OP.vp_len (by rw [HLL.out]; omega), HLL.out]
                      have HXL := Lib.hid hXl
                      have HRW : Hid (wq.ownsRow w.heap.size 3 1 (.slice (some ⟨gl, 0, none⟩) N rc) N (X.map (Value.int .i64))) := Lib.hid (by rw [← hX]; exact HROW.out)
                      rw [hX] at hrv
                      obtain ⟨m, hm⟩ : ∃ m, e - i = m := ⟨_, rfl⟩
                      rw [hm] at hrv
                      clear hX hXl
                      have hE1 : (e : Int) - 1 = (i : Int) + (m : Int) - 1 := by omega
                      go_wp2_with fail
                      clear hE1
                      go_loopw [8, 9] (fun v8 v9 wi => ∃ k : Nat, v8 = .int .i64 ((i + k : Nat) : Int) ∧ v9 = .int .i64 ((i : Int) + (m : Int) - 1 - (k : Int)) ∧ k ≤ m ∧ wi.ownsRow w.heap.size 3 1 (.slice (some ⟨gl, 0, none⟩) N rc) N ((OP.sw X i m k).map (Value.int .i64)) ∧ Below w.heap.size w wi) (fun v _ _ => e - (intOf v).toNat)
                      case atStart => exact ⟨0, by go_num, by first | rfl | (congr 1; omega) | go_num, Nat.zero_le _, by rw [OP.sw_zero]; exact HRW.out, HBW.out⟩
                      case round =>
                        obtain ⟨k, rfl, rfl, hkm, hrow, hbw⟩ := hrel
                        by_cases hks : k < m - 1 - k
                        · obtain ⟨j, hj⟩ : ∃ j : Nat, i + (m - 1 - k) = j := ⟨_, rfl⟩
                          obtain ⟨a, ha⟩ : ∃ a : Nat, i + k = a := ⟨_, rfl⟩
                          have hji : (i : Int) + (m : Int) - 1 - (k : Int) = (j : Int) := by omega
                          rw [hji, ha]
                          have haj : (a : Int) < (j : Int) := by omega
                          have ha0 : (0 : Int) ≤ (a : Int) := by omega
                          have hj0 : (0 : Int) ≤ (j : Int) := by omega
                          have haN : (a : Int) < (N : Int) := by omega
                          have hjN : (j : Int) < (N : Int) := by omega
                          have hxl : i + m ≤ X.length := by rw [HXL.out]; omega
                          have hlo := OP.sw_lo hxl hks
                          have hhi := OP.sw_hi hxl hks
                          have hst := OP.sw_step hxl hks
                          rw [hj] at hhi hst
                          rw [ha] at hlo hst
                          obtain ⟨x, hx⟩ : ∃ x, X.getD a 0 = x := ⟨_, rfl⟩
                          obtain ⟨y, hy⟩ : ∃ y, X.getD j 0 = y := ⟨_, rfl⟩
                          rw [hx] at hlo hst
                          rw [hy] at hhi hst
                          have c1 := own_at? hrow (by omega) hlo
                          have c2 := own_at? hrow (by omega) hhi
                          have f1 := hrow.frozenAt a
                          have f2 := hrow.frozenAt j
                          obtain ⟨hp1, hg1⟩ := own_put hrow a y
                          obtain ⟨hp2, hg2⟩ := own_put hp1 j x
                          rw [hst] at hp2
                          have HP := Lib.hid hp2
                          have HB2 := Lib.hid ((hbw.setCell (p := ⟨gl, a, none⟩) hBg (.int .i64 y)).setCell (p := ⟨gl, j, none⟩) hBg (.int .i64 x))
                          have hne : a ≠ j := by omega
                          have mixed : Tryd.prog.follows .mixedOrders = true := by kernel_rfl
                          have HHJ := Lib.hid hj
                          have HHA := Lib.hid ha
                          clear hlo hhi hst hx hy hp1 hg1 hp2 hg2 hrow hbw hj ha hji
                          go_wp2_with fail
                          go_region_o
                          all_goals
                            go_wp2
                            go_roundw
                            case rel => exact ⟨k + 1, by rw [show ((i + (k + 1) : Nat) : Int) = (a : Int) + 1 by have := HHA.out; omega], by rw [show (i : Int) + (m : Int) - 1 - ((k + 1 : Nat) : Int) = (j : Int) - 1 by have := HHJ.out; omega], by omega, HP.out, HB2.out.drew⟩
                            case measure => have := HHA.out; simp [intOf]; omega
                        · have HE : Hid (OP.sw X i m k = OP.rev X i m) := Lib.hid (OP.sw_end (by rw [HXL.out]; omega) hks)
                          rw [HE.out, ← hrv.out] at hrow
                          have HR2 := Lib.hid hrow
                          have HB2 := Lib.hid hbw
                          have hkj : ¬ ((i + k : Nat) : Int) < (i : Int) + (m : Int) - 1 - (k : Int) := by omega
                          have hei : (i : Int) < (e : Int) := by omega
                          clear hrow hbw hks
                          go_wp2
                          go_roundw
                          case rel => exact ⟨e, by go_num, hen, HR2.out, HB2.out, Lib.hid fun _ x y h1 h2 _ => (by rw [HNZ.out y h1] at h2; cases h2)⟩
                          case measure => simp [intOf]; omega
                    · obtain rfl : i = e := by omega
                      obtain ⟨y, hy⟩ : ∃ y, l[i]? = some y := ⟨l[i]'(by rw [HLL.out]; exact hin), List.getElem?_eq_getElem _⟩
                      have hvo : Hid (OP.vp (OP.hi L nn) l (i + 1) = OP.vp (OP.hi L nn) l i) := Lib.hid (OP.vp_one hy (HNZ.out y hy))
                      have HY := Lib.hid hy
                      clear hy
                      go_wp2_with fail
                      go_loopw [8, 9] (fun v8 v9 wi => v8 = .int .i64 (i : Int) ∧ v9 = .int .i64 ((i : Int) - 1) ∧ wi = wq) (fun _ _ _ => 0)
                      case atStart => exact ⟨rfl, by first | rfl | go_num, rfl⟩
                      case round =>
                        obtain ⟨rfl, rfl, hwi⟩ := hrel
                        replace hwi := hwi.symm
                        subst hwi
                        have hkj : ¬ (i : Int) < (i : Int) - 1 := by omega
                        go_wp2
                        go_roundw
                        case rel => exact ⟨i + 1, by go_num, hin, by rw [hvo.out]; exact HROW.out, HBW.out, Lib.hid fun _ x y' _ _ h3 => (by rw [Nat.add_sub_cancel] at h3; exact HNZ.out x h3)⟩
                        case measure => simp [intOf]; omega
                · obtain rfl : N = e := by omega
                  have HNZ : Hid (∀ u, l[N]? = some u → OP.hi L nn u = false) := Lib.hid fun u hu => by rw [List.getElem?_eq_none (by rw [HLL.out]; exact Nat.le_refl _)] at hu; cases hu
                  by_cases hie : i < N
                  · have hrv : Hid (OP.ints (OP.vp (OP.hi L nn) l N) = OP.rev (OP.ints (OP.vp (OP.hi L nn) l i)) i (N - i)) := Lib.hid (OP.vp_true hie (by rw [HLL.out]; exact hen) HZ.out (fun h0 x hx => by
                      obtain ⟨y, hy⟩ : ∃ y, l[i]? = some y := ⟨l[i]'(by rw [HLL.out]; exact hin), List.getElem?_eq_getElem _⟩
                      exact HBD.out h0 x y hy (HZ.out i y (Nat.le_refl _) hie hy) hx) HNZ.out)
                    obtain ⟨X, hX⟩ : ∃ X, OP.ints (OP.vp (OP.hi L nn) l i) = X := ⟨_, rfl⟩
                    have hXl : X.length = N := by rw [← hX, OP.ints_len, OP.vp_len (by rw [HLL.out]; omega), HLL.out]
                    have HXL := Lib.hid hXl
                    have HRW : Hid (wq.ownsRow w.heap.size 3 1 (.slice (some ⟨gl, 0, none⟩) N rc) N (X.map (Value.int .i64))) := Lib.hid (by rw [← hX]; exact HROW.out)
                    rw [hX] at hrv
                    obtain ⟨m, hm⟩ : ∃ m, N - i = m := ⟨_, rfl⟩
                    rw [hm] at hrv
                    clear hX hXl
                    have hE1 : (N : Int) - 1 = (i : Int) + (m : Int) - 1 := by omega
                    go_wp2_with fail
                    clear hE1
                    go_loopw [8, 9] (fun v8 v9 wi => ∃ k : Nat, v8 = .int .i64 ((i + k : Nat) : Int) ∧ v9 = .int .i64 ((i : Int) + (m : Int) - 1 - (k : Int)) ∧ k ≤ m ∧ wi.ownsRow w.heap.size 3 1 (.slice (some ⟨gl, 0, none⟩) N rc) N ((OP.sw X i m k).map (Value.int .i64)) ∧ Below w.heap.size w wi) (fun v _ _ => N - (intOf v).toNat)
                    case atStart => exact ⟨0, by go_num, by first | rfl | (congr 1; omega) | go_num, Nat.zero_le _, by rw [OP.sw_zero]; exact HRW.out, HBW.out⟩
                    case round =>
                      obtain ⟨k, rfl, rfl, hkm, hrow, hbw⟩ := hrel
                      by_cases hks : k < m - 1 - k
                      · obtain ⟨j, hj⟩ : ∃ j : Nat, i + (m - 1 - k) = j := ⟨_, rfl⟩
                        obtain ⟨a, ha⟩ : ∃ a : Nat, i + k = a := ⟨_, rfl⟩
                        have hji : (i : Int) + (m : Int) - 1 - (k : Int) = (j : Int) := by omega
                        rw [hji, ha]
                        have haj : (a : Int) < (j : Int) := by omega
                        have ha0 : (0 : Int) ≤ (a : Int) := by omega
                        have hj0 : (0 : Int) ≤ (j : Int) := by omega
                        have haN : (a : Int) < (N : Int) := by omega
                        have hjN : (j : Int) < (N : Int) := by omega
                        have hxl : i + m ≤ X.length := by rw [HXL.out]; omega
                        have hlo := OP.sw_lo hxl hks
                        have hhi := OP.sw_hi hxl hks
                        have hst := OP.sw_step hxl hks
                        rw [hj] at hhi hst
                        rw [ha] at hlo hst
                        obtain ⟨x, hx⟩ : ∃ x, X.getD a 0 = x := ⟨_, rfl⟩
                        obtain ⟨y, hy⟩ : ∃ y, X.getD j 0 = y := ⟨_, rfl⟩
                        rw [hx] at hlo hst
                        rw [hy] at hhi hst
                        have c1 := own_at? hrow (by omega) hlo
                        have c2 := own_at? hrow (by omega) hhi
                        have f1 := hrow.frozenAt a
                        have f2 := hrow.frozenAt j
                        obtain ⟨hp1, hg1⟩ := own_put hrow a y
                        obtain ⟨hp2, hg2⟩ := own_put hp1 j x
                        rw [hst] at hp2
                        have HP := Lib.hid hp2
                        have HB2 := Lib.hid ((hbw.setCell (p := ⟨gl, a, none⟩) hBg (.int .i64 y)).setCell (p := ⟨gl, j, none⟩) hBg (.int .i64 x))
                        have hne : a ≠ j := by omega
                        have mixed : Tryd.prog.follows .mixedOrders = true := by kernel_rfl
                        have HHJ := Lib.hid hj
                        have HHA := Lib.hid ha
                        clear hlo hhi hst hx hy hp1 hg1 hp2 hg2 hrow hbw hj ha hji
                        go_wp2_with fail
                        go_region_o
                        all_goals
                          go_wp2
                          go_roundw
                          case rel => exact ⟨k + 1, by rw [show ((i + (k + 1) : Nat) : Int) = (a : Int) + 1 by have := HHA.out; omega], by rw [show (i : Int) + (m : Int) - 1 - ((k + 1 : Nat) : Int) = (j : Int) - 1 by have := HHJ.out; omega], by omega, HP.out, HB2.out.drew⟩
                          case measure => have := HHA.out; simp [intOf]; omega
                      · have HE : Hid (OP.sw X i m k = OP.rev X i m) := Lib.hid (OP.sw_end (by rw [HXL.out]; omega) hks)
                        rw [HE.out, ← hrv.out] at hrow
                        have HR2 := Lib.hid hrow
                        have HB2 := Lib.hid hbw
                        have hkj : ¬ ((i + k : Nat) : Int) < (i : Int) + (m : Int) - 1 - (k : Int) := by omega
                        have hei : (i : Int) < (N : Int) := by omega
                        clear hrow hbw hks
                        go_wp2
                        go_roundw
                        case rel => exact ⟨N, by go_num, hen, HR2.out, HB2.out, Lib.hid fun _ x y h1 h2 _ => (by rw [HNZ.out y h1] at h2; cases h2)⟩
                        case measure => simp [intOf]; omega
                  · exact absurd hin (by omega)
            · obtain rfl : N = i := by omega
              rw [OP.vp_end HLL.out] at hrow
              have HROW := Lib.hid hrow
              have HBW := Lib.hid hbw
              clear hrow hbw
              go_wp2
              go_roundw
              case rel =>
                refine ⟨nn - 1, OP.rr (OP.hi L nn) l, by rw [show ((nn - 1 : Nat) : Int) = (nn : Int) - 1 by omega], by omega, Lib.hid ?_, Lib.hid ((OP.rr_perm _ l).trans HPM.out), HROW.out, HBW.out⟩
                obtain ⟨q, rfl⟩ : ∃ q, nn = q + 1 := ⟨nn - 1, by omega⟩
                exact HVF.out
              case measure => simp [intOf]; omega
        · obtain rfl : nn = 0 := by omega
          have hlv : l = OP.vis L := HVF.out
          rw [hlv] at hrow
          have HROW := Lib.hid hrow
          clear hrow
          go_wp2
          go_ret
          exact ⟨_, rfl, HROW.out, hbw⟩
end Go.Proofs.YtbgmbcngkmlfeaaDoor
