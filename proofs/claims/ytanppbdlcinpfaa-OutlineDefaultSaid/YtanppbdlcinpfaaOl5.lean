/- Texts merged: Ol4, Ol5. No conditions. -/
import Derived.Test.YtanppbdlcinpfaaOl3
import Derived.Deep.RegionHeld3
/- Whether deltas are right. No conditions. -/
section
namespace Go.Proofs.Ytanppbdlcinpfaa
set_option maxRecDepth 100000
set_option linter.unusedVariables false
open Go.RowKit Go.Deep
theorem sizeOf_int : ∀ w, (sizeOf 3).run Try.prog w = .ok 1 w := by
  intro w
  obtain ⟨i0, hif, hz0, hz1, hz2⟩ := info_parts info_int
  simp [sizeOf, typeInfo, hif, hz1]
theorem eq_two (w : World) (x y x' y' : Int) : (binOp .eql 72 (.agg #[.int .i64 x, .int .i64 y]) (.agg #[.int .i64 x', .int .i64 y'])).run Try.prog w = .ok (.bool (x == x' && y == y')) w := by
  have p0 : ∀ a b : Int, (part 3 #[.int .i64 a, .int .i64 b] 0).run Try.prog w = .ok (.int .i64 a) w := fun a b => by simp [part, isAgg, run_underlying Try.underlying3]
  have p1 : ∀ a b : Int, (part 3 #[.int .i64 a, .int .i64 b] 1).run Try.prog w = .ok (.int .i64 b) w := fun a b => by simp [part, isAgg, run_underlying Try.underlying3]
  have pe : ∀ a b : Int, (Op.equalIn 9999 3 (.int .i64 a) (.int .i64 b)).run Try.prog w = .ok (a == b) w := fun a b => run_equalIn_int w 9998 3 .i64 .i64 _ _ Try.underlying3
  rw [run_eql_struct, Op.equalIn]
  simp only [Sem.run_bind, run_underlying Try.underlying72, Result.andThen_ok, sizeOf_int, Std.Legacy.Range.forIn_eq_forIn_range', Std.Legacy.Range.size, Nat.sub_zero, Nat.add_sub_cancel, Nat.div_one]
  rw [show List.range' 0 2 1 = [0, 1] from rfl]
  simp only [List.forIn_cons, List.forIn_nil, Sem.run_bind, Nat.zero_mul, Nat.one_mul, p0, pe, Result.andThen_ok]
  cases hx : (x == x') <;> cases hy : (y == y') <;> simp [p1, pe, hy]
theorem neq_two (w : World) (x y x' y' : Int) : (binOp .neq 72 (.agg #[.int .i64 x, .int .i64 y]) (.agg #[.int .i64 x', .int .i64 y'])).run Try.prog w = .ok (.bool (!(x == x' && y == y'))) w := by
  have h := eq_two w x y x' y'
  rw [run_eql_struct] at h
  rw [run_neq_struct]
  generalize (Op.equalIn 10000 72 (.agg #[.int .i64 x, .int .i64 y]) (.agg #[.int .i64 x', .int .i64 y'])).run Try.prog w = r at h ⊢
  cases r with
  | ok b w' =>
    simp at h ⊢
    obtain ⟨h1, h2⟩ := h
    exact ⟨by rw [h1], h2⟩
  | halt x w' => simp at h
theorem dsGo_drop {D : List Dl} {i : Nat} {d : Dl} (h : D[i]? = some d) (reg : Int) (np : Nat) (hc la : Int) : OL.dsGo reg np hc la (D.drop i) = (OL.delta la reg np hc d && OL.dsGo reg np hc d.r (D.drop (i + 1))) := by
  obtain ⟨h1, h2⟩ := List.getElem?_eq_some_iff.1 h
  rw [List.drop_eq_getElem_cons h1, h2]
  rfl
set_option maxHeartbeats 4000000 in
theorem deltas_any (W : World) (vc va vd vp : Value) (D : List Dl) (hc hx hy ad reg : Int) (np : Nat) (hv : DsAt W vd D) (hl : D.length ≤ 1000) (hm : ∀ d ∈ D, d.m.length ≤ 1000) (hp1 : 1 ≤ np) (hp2 : np ≤ 10000000) :
    Calls Try.prog 67 #[.agg #[vc, va, .int .i64 hc, .int .i64 hx, .int .i64 hy, .int .i64 ad, vd, vp], .int .i64 reg, .int .i64 (np : Int)] W fun e w' => e = .returned (.bool (OL.dsGo reg np hc (-1) D)) ∧ Below W.heap.size W w' := by
  obtain ⟨da, dk, rfl⟩ := hv.shape
  obtain ⟨n, hn⟩ : ∃ n, D.length = n := ⟨_, rfl⟩
  have HN := Lib.hid hn
  rw [hn] at hv hl ⊢
  have HV := Lib.hid hv
  have HML := Lib.hid hm
  have HNP := Lib.hid (And.intro hp1 hp2)
  clear hv hn hm
  obtain ⟨B, hB⟩ : ∃ B, W.heap.size = B := ⟨_, rfl⟩
  have hx1 := heap_alloc_new W (.cells #[vc, va, .int .i64 hc, .int .i64 hx, .int .i64 hy, .int .i64 ad, .slice da n dk, vp] 34)
  have hb1 := balloc (Below.refl _ W) (.cells #[vc, va, .int .i64 hc, .int .i64 hx, .int .i64 hy, .int .i64 ad, .slice da n dk, vp] 34)
  obtain ⟨w1, hw1⟩ : ∃ w1, W.alloc (.cells #[vc, va, .int .i64 hc, .int .i64 hx, .int .i64 hy, .int .i64 ad, .slice da n dk, vp] 34) = w1 := ⟨_, rfl⟩
  rw [hw1, hB] at hx1
  rw [hw1] at hb1
  have HB1 := Lib.hid hb1
  have HX1 := Lib.hid hx1
  have x4 : w1.cell? ⟨B, 6, none⟩ = some (.slice da n dk) := nd_cell hx1 rfl
  clear hx1 hb1 hp1 hp2
  go_enter Try.func67, Try.ntmps67
  go_upto_region 1 with fail
  try rw [hw1]
  try rw [hB]
  clear hw1 hB
  go_upto_region 3 with fail
  clear x4
  go_loopw [7, 15] (fun v7 v15 wr => ∃ (i : Nat) (la : Int), v15 = .int .i64 (i : Int) ∧ v7 = .int .i64 la ∧ i ≤ n ∧ Hid (OL.dsGo reg np hc (-1) D = OL.dsGo reg np hc la (D.drop i)) ∧ Hid (Below w1.heap.size w1 wr)) (fun v7 v15 _ => n - (intOf v15).toNat)
  case atStart => exact ⟨0, -1, rfl, rfl, Nat.zero_le _, Lib.hid rfl, Lib.hid (Below.refl _ _)⟩
  case round =>
    obtain ⟨i, la, rfl, rfl, hi, HG, HB⟩ := hrel
    by_cases hin : i < n
    · have hii : (i : Int) < (n : Int) := by omega
      have hi0 : (0 : Int) ≤ (i : Int) := by omega
      obtain ⟨d, hd⟩ : ∃ d, D[i]? = some d := ⟨_, List.getElem?_eq_getElem (by rw [HN.out]; exact hin)⟩
      obtain ⟨g, o, ma, mk, rfl, hg, c0, c1, c2, hmv⟩ := (HV.out.keep (bnext HB1.out HB.out)).cell hd
      have hgo := dsGo_drop hd reg np hc la
      rw [← HG.out] at hgo
      have HGO := Lib.hid hgo
      have hml := HML.out d (List.mem_of_getElem? hd)
      obtain ⟨m, hm⟩ : ∃ m, d.m.length = m := ⟨_, rfl⟩
      have HM := Lib.hid (And.intro hm hml)
      rw [hm] at c2 hmv
      have HMV := Lib.hid hmv
      clear hd hg hgo hml hm hmv
      have hxn := heap_alloc_new wr (.cells #[.int .i64 0, .int .i64 0, .slice none 0 0] 70)
      have hbn := balloc (Below.refl _ wr) (.cells #[.int .i64 0, .int .i64 0, .slice none 0 0] 70)
      obtain ⟨X, hX⟩ : ∃ X, wr.heap.size = X := ⟨_, rfl⟩
      obtain ⟨wa, hwa⟩ : ∃ wa, wr.alloc (.cells #[.int .i64 0, .int .i64 0, .slice none 0 0] 70) = wa := ⟨_, rfl⟩
      have HXo : Hid (X = wr.heap.size) := Lib.hid hX.symm
      rw [hX, hwa] at hxn
      rw [hwa] at hbn
      have bc0 : wa.cell? ⟨X, 0, none⟩ = some (.int .i64 0) := nd_cell hxn rfl
      have bc1 : wa.cell? ⟨X, 1, none⟩ = some (.int .i64 0) := nd_cell hxn rfl
      have bc2 : wa.cell? ⟨X, 2, none⟩ = some (.slice none 0 0) := nd_cell hxn rfl
      have bf0 := nd_froz hxn 0
      have bf1 := nd_froz hxn 1
      have bf2 := nd_froz hxn 2
      obtain ⟨wx, hwx, hxx, hfx⟩ := sto3 hxn (.int .i64 d.r) (.int .i64 d.a) (.slice ma m mk)
      have HXX := Lib.hid hxx
      have HBX := Lib.hid (hfx.below wr hbn (fun b hb => by rw [hb, HXo.out]; exact Nat.le_refl _))
      clear hxx hfx hbn hxn
      go_upto_region 5 with fail
      try rw [hwx]
      clear bc0 bf0 bc1 bf1 bc2 bf2 hwx hX hwa
      clear c0 c1 c2
      have c0 : wx.cell? ⟨X, 0, none⟩ = some (.int .i64 d.r) := nd_cell HXX.out rfl
      have c1 : wx.cell? ⟨X, 1, none⟩ = some (.int .i64 d.a) := nd_cell HXX.out rfl
      have c2 : wx.cell? ⟨X, 2, none⟩ = some (.slice ma m mk) := nd_cell HXX.out rfl
      have HBW := Lib.hid (bnext HB1.out (bnext HB.out HBX.out))
      by_cases h1 : d.r ≤ la
      · have HNO : Hid (OL.dsGo reg np hc (-1) D = false) := Lib.hid (by rw [HGO.out]; unfold OL.delta; rw [decide_eq_false (show ¬ la < d.r by omega)]; simp)
        go_wp2
        go_ret
        exact ⟨by rw [HNO.out]; rfl, HBW.out⟩
      · by_cases h2 : reg ≤ d.r
        · have HNO : Hid (OL.dsGo reg np hc (-1) D = false) := Lib.hid (by rw [HGO.out]; unfold OL.delta; rw [decide_eq_false (show ¬ d.r < reg by omega)]; simp)
          go_wp2
          go_ret
          exact ⟨by rw [HNO.out]; rfl, HBW.out⟩
        · have hct := move2_one wx d.a
          obtain ⟨r, hr⟩ : ∃ r, OL.mo d.a = r := ⟨_, rfl⟩
          rw [hr] at hct
          have HR := Lib.hid hr
          have HC := Lib.hid hct
          clear hr hct
          have hb2 := balloc (Below.refl _ wx) (.cells #[.int .i64 d.a] 3)
          have HB2 := Lib.hid (bnext HB.out (bnext HBX.out hb2))
          clear hb2
          go_wp2_with fail
          go_at_call 96
          refine HC.out.mono ?_
          rintro e w5 ⟨rfl, hw5⟩
          have HW5 := Lib.hid hw5
          clear HC hw5
          have hb5 : Below wx.heap.size wx w5 := by rw [HW5.out]; exact balloc (Below.refl _ wx) _
          have HB5 := Lib.hid hb5
          have hx5 := (hb5.block X (Array.getElem?_eq_some_iff.1 HXX.out).1).trans HXX.out
          have HX5 := Lib.hid hx5
          clear c0 c1 c2
          have c0 : w5.cell? ⟨X, 0, none⟩ = some (.int .i64 d.r) := nd_cell hx5 rfl
          have c2 : w5.cell? ⟨X, 2, none⟩ = some (.slice ma m mk) := nd_cell hx5 rfl
          have HBW5 := Lib.hid (bnext HBW.out hb5)
          have HL := Lib.hid (And.intro (show la < d.r by omega) (show d.r < reg by omega))
          clear hb5 hx5
          cases r with
          | false =>
            have HNO : Hid (OL.dsGo reg np hc (-1) D = false) := Lib.hid (by rw [HGO.out]; unfold OL.delta; rw [HR.out]; simp)
            go_wp2
            go_ret
            exact ⟨by rw [HNO.out]; rfl, HBW5.out⟩
          | true =>
            by_cases h4 : m = np
            · subst h4
              clear h1 h2
              go_upto_region 9 with fail
              clear c0 c2
              obtain ⟨wo, hwo⟩ : ∃ wo, wo = w5 := ⟨_, rfl⟩
              go_loopw [48] (fun v wr => ∃ j : Nat, v = .int .i64 (j : Int) ∧ j ≤ m ∧ Hid (∀ (q : Nat) (p : Int × Int), q < j → d.m[q]? = some p → (OL.mo p.1 && OL.mo p.2) = true) ∧ Hid (Below w5.heap.size w5 wr)) (fun v _ => m - (intOf v).toNat)
              case atStart => exact ⟨0, rfl, Nat.zero_le _, Lib.hid (fun j x hj => absurd hj (Nat.not_lt_zero _)), Lib.hid (Below.refl _ _)⟩
              case round =>
                obtain ⟨j, rfl, hj, HYI, HBI⟩ := hrel
                by_cases hjm : j < m
                · have hjj : (j : Int) < (m : Int) := by omega
                  have hj0 : (0 : Int) ≤ (j : Int) := by omega
                  have hj9 : j < 10000000 := by have := HNP.out; omega
                  obtain ⟨⟨px, py⟩, hp⟩ : ∃ p, d.m[j]? = some p := ⟨_, List.getElem?_eq_getElem (by rw [HM.out.1]; exact hjm)⟩
                  obtain ⟨g2, o2, rfl, hg2, c0, c1⟩ := (HMV.out.keep (bnext HBX.out (bnext HB5.out HBI.out))).cell hp
                  have HPJ := Lib.hid hp
                  dsimp only at c0 c1
                  clear hp hg2
                  have hxn := heap_alloc_new wr (.cells #[.int .i64 0, .int .i64 0] 72)
                  have hbn := balloc (Below.refl _ wr) (.cells #[.int .i64 0, .int .i64 0] 72)
                  obtain ⟨Y, hX⟩ : ∃ Y, wr.heap.size = Y := ⟨_, rfl⟩
                  obtain ⟨wab, hwa⟩ : ∃ wab, wr.alloc (.cells #[.int .i64 0, .int .i64 0] 72) = wab := ⟨_, rfl⟩
                  have HXob : Hid (Y = wr.heap.size) := Lib.hid hX.symm
                  rw [hX, hwa] at hxn
                  rw [hwa] at hbn
                  have bc0 : wab.cell? ⟨Y, 0, none⟩ = some (.int .i64 0) := nd_cell hxn rfl
                  have bc1 : wab.cell? ⟨Y, 1, none⟩ = some (.int .i64 0) := nd_cell hxn rfl
                  have bf0 := nd_froz hxn 0
                  have bf1 := nd_froz hxn 1
                  obtain ⟨wy, hwx, hxx, hfx⟩ := sto2 hxn (.int .i64 px) (.int .i64 py)
                  have HXXb := Lib.hid hxx
                  have HBXb := Lib.hid (hfx.below wr hbn (fun b hb => by rw [hb, HXob.out]; exact Nat.le_refl _))
                  clear hxx hfx hbn hxn
                  go_upto_region 11 with fail
                  try rw [hwx]
                  clear bc0 bf0 bc1 bf1 hwx hX hwa
                  clear c0 c1
                  have c0 : wy.cell? ⟨Y, 0, none⟩ = some (.int .i64 px) := nd_cell HXXb.out rfl
                  have c1 : wy.cell? ⟨Y, 1, none⟩ = some (.int .i64 py) := nd_cell HXXb.out rfl
                  have hct := move2_two wy px py
                  obtain ⟨r, hr⟩ : ∃ r, (OL.mo px && OL.mo py) = r := ⟨_, rfl⟩
                  rw [hr] at hct
                  have HR6 := Lib.hid hr
                  have HC := Lib.hid hct
                  clear hr hct
                  have hb2 := balloc (Below.refl _ wy) (.cells #[.int .i64 px, .int .i64 py] 3)
                  have HB2 := Lib.hid (bnext (bnext HBI.out HBXb.out) hb2)
                  clear hb2
                  go_wp2_with fail
                  go_at_call 96
                  refine HC.out.mono ?_
                  rintro e w6 ⟨rfl, hw6⟩
                  have HW6 := Lib.hid hw6
                  clear HC hw6
                  clear c0 c1
                  have HB6 : Hid (Below w5.heap.size w5 w6) := Lib.hid (by rw [HW6.out]; exact HB2.out)
                  cases r with
                  | false =>
                    have HNO : Hid (OL.dsGo reg m hc (-1) D = false) := Lib.hid (by rw [HGO.out]; unfold OL.delta; rw [OL.all_bad (f := fun p : Int × Int => OL.mo p.1 && OL.mo p.2) (List.mem_of_getElem? HPJ.out) HR6.out]; simp)
                    go_wp2
                    go_ret
                    exact ⟨by rw [HNO.out]; rfl, bnext HBW5.out HB6.out⟩
                  | true =>
                    go_wp2
                    go_roundw
                    case rel => exact ⟨j + 1, by go_num, by omega, Lib.hid (OL.upto_next (f := fun p : Int × Int => OL.mo p.1 && OL.mo p.2) HYI.out HPJ.out HR6.out), HB6⟩
                    case measure => simp [intOf]; omega
                · have hjj : ¬ (j : Int) < (m : Int) := by omega
                  have HAL : Hid (d.m.all (fun p => OL.mo p.1 && OL.mo p.2) = true) := Lib.hid (OL.all_good (fun q p hq hp => HYI.out q p (by have := HM.out.1; omega) hp))
                  have HBW6 := Lib.hid (bnext HBW5.out HBI.out)
                  have hx6 := (HBI.out.block X (Array.getElem?_eq_some_iff.1 HX5.out).1).trans HX5.out
                  have c2 : wr.cell? ⟨X, 2, none⟩ = some (.slice ma m mk) := nd_cell hx6 rfl
                  have hxb := ((bnext HB.out (bnext HBX.out (bnext HB5.out HBI.out))).block B (Array.getElem?_eq_some_iff.1 HX1.out).1).trans HX1.out
                  have c3 : wr.cell? ⟨B, 2, none⟩ = some (.int .i64 hc) := nd_cell hxb rfl
                  obtain ⟨m1, hm1⟩ : ∃ m1, m - 1 = m1 := ⟨_, rfl⟩
                  have HM1 := Lib.hid hm1
                  obtain ⟨⟨px, py⟩, hp⟩ : ∃ p, d.m[m1]? = some p := ⟨_, List.getElem?_eq_getElem (by rw [HM.out.1]; have := HNP.out; omega)⟩
                  obtain ⟨g2, o2, rfl, hg2, c4, c5⟩ := (HMV.out.keep (bnext HBX.out (bnext HB5.out HBI.out))).cell hp
                  dsimp only at c4 c5
                  have HGD : Hid (d.m.getD (m - 1) (0, 0) = (px, py)) := Lib.hid (by rw [hm1, List.getD_eq_getElem?_getD, hp]; rfl)
                  have k1 : (m : Int) - 1 = (m1 : Int) := by have := HNP.out; omega
                  have k2 : IntKind.i64.wrap (m1 : Int) = (m1 : Int) := IntWalk.i64_in _ (by have := HNP.out; omega)
                  have k3 : (0 : Int) ≤ (m1 : Int) := by omega
                  have k4 : (m1 : Int) < (m : Int) := by have := HNP.out; omega
                  have HDL : Hid (OL.delta la reg m hc d = (decide (hc ≠ 0) || decide ((px, py) = ((0 : Int), (0 : Int))))) := Lib.hid (by
                    unfold OL.delta
                    rw [decide_eq_true HL.out.1, decide_eq_true HL.out.2, HR.out, decide_eq_true HM.out.1, HAL.out, HGD.out]
                    simp)
                  clear hjm hx6 hxb hp hg2 hm1
                  by_cases h0 : hc = 0
                  · have h0b : (hc == 0) = true := by rw [beq_iff_eq]; exact h0
                    by_cases q1 : px = 0
                    · subst q1
                      by_cases q2 : py = 0
                      · subst q2
                        have HGN : Hid (OL.dsGo reg m hc (-1) D = OL.dsGo reg m hc d.r (D.drop (i + 1))) := Lib.hid (by rw [HGO.out, HDL.out]; simp)
                        have hneq := fun V => neq_two V 0 0 0 0
                        clear h0
                        go_wp2
                        go_roundw
                        case rel => exact ⟨i + 1, d.r, by go_num, rfl, by omega, HGN, Lib.hid (bnext HB.out (bnext HBX.out (bnext HB5.out HBI.out)))⟩
                        case measure => simp [intOf]; omega
                      · have HNO : Hid (OL.dsGo reg m hc (-1) D = false) := Lib.hid (by rw [HGO.out, HDL.out]; simp [h0, q2])
                        have hneq := fun V => neq_two V 0 py 0 0
                        have hpy : (py == 0) = false := by rw [beq_eq_false_iff_ne]; exact q2
                        clear h0 q2
                        go_wp2
                        go_ret
                        exact ⟨by rw [HNO.out]; first | rfl | simp [hpy], HBW6.out⟩
                    · have HNO : Hid (OL.dsGo reg m hc (-1) D = false) := Lib.hid (by rw [HGO.out, HDL.out]; simp [h0, q1])
                      have hneq := fun V => neq_two V px py 0 0
                      have hpx : (px == 0) = false := by rw [beq_eq_false_iff_ne]; exact q1
                      clear h0 q1
                      go_wp2
                      go_ret
                      exact ⟨by rw [HNO.out]; first | rfl | simp [hpx], HBW6.out⟩
                  · have h0b : (hc == 0) = false := by rw [beq_eq_false_iff_ne]; exact h0
                    have HGN : Hid (OL.dsGo reg m hc (-1) D = OL.dsGo reg m hc d.r (D.drop (i + 1))) := Lib.hid (by rw [HGO.out, HDL.out]; simp [h0])
                    clear h0
                    go_wp2
                    go_roundw
                    case rel => exact ⟨i + 1, d.r, by go_num, rfl, by omega, HGN, Lib.hid (bnext HB.out (bnext HBX.out (bnext HB5.out HBI.out)))⟩
                    case measure => simp [intOf]; omega
            · have h4' : ¬ (m : Int) = (np : Int) := by omega
              have h4b : ((m : Int) == (np : Int)) = false := by rw [beq_eq_false_iff_ne]; exact h4'
              have HNO : Hid (OL.dsGo reg np hc (-1) D = false) := Lib.hid (by rw [HGO.out]; unfold OL.delta; rw [HM.out.1, decide_eq_false h4]; simp)
              clear h4
              go_wp2
              go_ret
              exact ⟨by rw [HNO.out]; rfl, HBW5.out⟩
    · have hii : ¬ (i : Int) < (n : Int) := by omega
      have HE : Hid (OL.dsGo reg np hc (-1) D = true) := Lib.hid (by
        rw [HG.out, List.drop_of_length_le (by rw [HN.out]; omega)]
        rfl)
      clear hin
      go_wp2
      go_ret
      exact ⟨by rw [HE.out]; rfl, bnext HB1.out HB.out⟩
end Go.Proofs.Ytanppbdlcinpfaa
end
/- What is wrong with a glyph. No conditions. -/
section
namespace Go.Proofs.Ytanppbdlcinpfaa
set_option maxRecDepth 100000
set_option linter.unusedVariables false
open Go.RowKit Go.Deep
set_option maxHeartbeats 4000000 in
theorem check_any (W : World) (v : Value) (G : Gl) (n : Int) (hv : GlAt W v G) (hok : GlOk G) :
    Calls Try.prog 28 #[v, .int .i64 n] W fun e w' => e = .returned (.int .i64 (OL.check G n)) ∧ Below W.heap.size W w' := by
  have HG := Lib.hid hv
  have HOK := Lib.hid hok
  obtain ⟨C, A, ⟨hc, hx, hy⟩, ad, D, P⟩ := G
  obtain ⟨vc, va, vd, vp, rfl, h1, h2, h3, h4⟩ := hv
  dsimp only at h1 h2 h3 h4 HG ⊢
  obtain ⟨ca, ck, rfl⟩ := h1.shape
  obtain ⟨aa, ak, rfl⟩ := h2.shape
  obtain ⟨da, dk, rfl⟩ := h3.shape
  obtain ⟨cn, hcn⟩ : ∃ cn, C.length = cn := ⟨_, rfl⟩
  obtain ⟨an, han⟩ : ∃ an, A.length = an := ⟨_, rfl⟩
  obtain ⟨dn, hdn⟩ : ∃ dn, D.length = dn := ⟨_, rfl⟩
  rw [hcn] at h1 HG ⊢
  rw [han] at h2 HG ⊢
  rw [hdn] at h3 HG ⊢
  have HCS := Lib.hid h1
  have HAN := Lib.hid h2
  have HDS := Lib.hid h3
  obtain ⟨np, hnp⟩ : ∃ np, OL.points ⟨C, A, ⟨hc, hx, hy⟩, ad, D, P⟩ = np := ⟨_, rfl⟩
  have hpb := OL.pts_bd hok.cs C.length
  rw [List.take_length] at hpb
  have HNB : Hid (1 ≤ np ∧ np ≤ 10000000) := Lib.hid (by
    have h5 := hok.cs.n
    have h6 := hok.an
    dsimp only at h5 h6 hpb
    rw [← hnp]
    unfold OL.points
    dsimp only
    omega)
  have HCK : Hid (OL.check ⟨C, A, ⟨hc, hx, hy⟩, ad, D, P⟩ n = if n < 0 ∨ 8 < n then 1 else if 6 < cn ∨ 6 < an ∨ 40 < np then 2 else if OL.contours C = false then 12 else if OL.anchors A ⟨hc, hx, hy⟩ = false then 35 else if ad < 0 ∨ 128 < ad then 3 else if OL.dsGo n np hc (-1) D = false then 13 else 0) := Lib.hid (by
    unfold OL.check
    rw [hnp]
    dsimp only
    rw [hcn, han])
  have HPT := Lib.hid (fun U hU => points_any U _ _ (HG.out.keep (V := U) hU) HOK.out)
  rw [hnp] at HPT
  clear h1 h2 h3 h4 hok hpb
  obtain ⟨B, hB⟩ : ∃ B, W.heap.size = B := ⟨_, rfl⟩
  have hx1 := heap_alloc_new W (.cells #[.slice ca cn ck, .slice aa an ak, .int .i64 hc, .int .i64 hx, .int .i64 hy, .int .i64 ad, .slice da dn dk, vp] 34)
  have hb1 := balloc (Below.refl _ W) (.cells #[.slice ca cn ck, .slice aa an ak, .int .i64 hc, .int .i64 hx, .int .i64 hy, .int .i64 ad, .slice da dn dk, vp] 34)
  obtain ⟨w1, hw1⟩ : ∃ w1, W.alloc (.cells #[.slice ca cn ck, .slice aa an ak, .int .i64 hc, .int .i64 hx, .int .i64 hy, .int .i64 ad, .slice da dn dk, vp] 34) = w1 := ⟨_, rfl⟩
  rw [hw1, hB] at hx1
  rw [hw1] at hb1
  have HB1 := Lib.hid hb1
  have HX1 := Lib.hid hx1
  have HKX : Hid (∀ U, Below w1.heap.size w1 U → U.cell? ⟨B, 0, none⟩ = some (.slice ca cn ck) ∧ U.cell? ⟨B, 1, none⟩ = some (.slice aa an ak) ∧ U.cell? ⟨B, 2, none⟩ = some (.int .i64 hc) ∧ U.cell? ⟨B, 3, none⟩ = some (.int .i64 hx) ∧ U.cell? ⟨B, 4, none⟩ = some (.int .i64 hy) ∧ U.cell? ⟨B, 5, none⟩ = some (.int .i64 ad) ∧ U.cell? ⟨B, 6, none⟩ = some (.slice da dn dk) ∧ U.cell? ⟨B, 7, none⟩ = some (vp)) := Lib.hid fun U hU => by
    have h1 := (hU.block B (Array.getElem?_eq_some_iff.1 HX1.out).1).trans HX1.out
    exact ⟨nd_cell h1 rfl, nd_cell h1 rfl, nd_cell h1 rfl, nd_cell h1 rfl, nd_cell h1 rfl, nd_cell h1 rfl, nd_cell h1 rfl, nd_cell h1 rfl⟩
  obtain ⟨x0, x1, x2, x3, x4, x5, x6, x7⟩ := HKX.out w1 (Below.refl _ _)
  have HN := Lib.hid (And.intro hcn (And.intro han hdn))
  clear hx1 hb1 hnp hcn han hdn
  go_enter Try.func28, Try.ntmps28
  go_upto_region 1 with fail
  try rw [hw1]
  try rw [hB]
  clear hw1 hB
  by_cases n0 : n < 0
  · have HR : Hid (OL.check ⟨C, A, ⟨hc, hx, hy⟩, ad, D, P⟩ n = 1) := Lib.hid (by rw [HCK.out]; exact if_pos (by omega))
    go_wp2
    go_ret
    exact ⟨by rw [HR.out]; first | rfl | simp, HB1.out⟩
  · by_cases n8 : 8 < n
    · have HR : Hid (OL.check ⟨C, A, ⟨hc, hx, hy⟩, ad, D, P⟩ n = 1) := Lib.hid (by rw [HCK.out]; exact if_pos (by omega))
      go_wp2
      go_ret
      exact ⟨by rw [HR.out]; first | rfl | simp, HB1.out⟩
    · by_cases c6 : 6 < cn
      · have c6' : (6 : Int) < (cn : Int) := by omega
        have HR : Hid (OL.check ⟨C, A, ⟨hc, hx, hy⟩, ad, D, P⟩ n = 2) := Lib.hid (by rw [HCK.out]; rw [if_neg (by omega)]; exact if_pos (by omega))
        go_wp2
        go_ret
        exact ⟨by rw [HR.out]; first | rfl | simp, HB1.out⟩
      · by_cases a6 : 6 < an
        · have c6' : ¬ (6 : Int) < (cn : Int) := by omega
          have a6' : (6 : Int) < (an : Int) := by omega
          have HR : Hid (OL.check ⟨C, A, ⟨hc, hx, hy⟩, ad, D, P⟩ n = 2) := Lib.hid (by rw [HCK.out]; rw [if_neg (by omega)]; exact if_pos (by omega))
          go_wp2
          go_ret
          exact ⟨by rw [HR.out]; first | rfl | simp, HB1.out⟩
        · have c6' : ¬ (6 : Int) < (cn : Int) := by omega
          have a6' : ¬ (6 : Int) < (an : Int) := by omega
          have HLE := Lib.hid (And.intro n0 (And.intro n8 (And.intro c6 a6)))
          clear c6 a6
          have HC := Lib.hid (HPT.out w1 HB1.out)
          go_wp2_with fail
          go_at_call 27
          refine HC.out.mono ?_
          rintro e w2 ⟨rfl, k2⟩
          have HK2 := Lib.hid k2
          clear HC k2 x0 x1 x2 x3 x4 x5 x6 x7
          obtain ⟨x0, x1, x2, x3, x4, x5, x6, x7⟩ := HKX.out w2 HK2.out
          by_cases p40 : 40 < np
          · have p40' : (40 : Int) < (np : Int) := by omega
            have HR : Hid (OL.check ⟨C, A, ⟨hc, hx, hy⟩, ad, D, P⟩ n = 2) := Lib.hid (by rw [HCK.out]; rw [if_neg (by omega)]; exact if_pos (by omega))
            go_wp2
            go_ret
            exact ⟨by rw [HR.out]; first | rfl | simp, bnext HB1.out HK2.out⟩
          · have p40' : ¬ (40 : Int) < (np : Int) := by omega
            have HP40 := Lib.hid p40
            clear p40
            go_upto_region 5 with fail
            clear p40' c6' a6' n0 n8
            have HC := Lib.hid (contours_any w2 _ C (HCS.out.keep (bnext HB1.out HK2.out)) HOK.out.cs)
            obtain ⟨r1, hr1⟩ : ∃ r1, OL.contours C = r1 := ⟨_, rfl⟩
            rw [hr1] at HC
            have HR1 := Lib.hid hr1
            clear hr1
            go_wp2_with fail
            go_at_call 65
            refine HC.out.mono ?_
            rintro e w3 ⟨rfl, k3⟩
            have HK3 := Lib.hid (bnext HK2.out k3)
            clear HC k3 x0 x1 x2 x3 x4 x5 x6 x7
            obtain ⟨x0, x1, x2, x3, x4, x5, x6, x7⟩ := HKX.out w3 HK3.out
            have HCK2 : Hid (OL.check ⟨C, A, ⟨hc, hx, hy⟩, ad, D, P⟩ n = if r1 = false then 12 else if OL.anchors A ⟨hc, hx, hy⟩ = false then 35 else if ad < 0 ∨ 128 < ad then 3 else if OL.dsGo n np hc (-1) D = false then 13 else 0) := Lib.hid (by
              rw [HCK.out, if_neg (by have := HLE.out; omega), if_neg (by have := HLE.out; have := HP40.out; omega), HR1.out])
            cases r1 with
            | false =>
              have HR : Hid (OL.check ⟨C, A, ⟨hc, hx, hy⟩, ad, D, P⟩ n = 12) := Lib.hid (by rw [HCK2.out]; rfl)
              go_wp2
              go_ret
              exact ⟨by rw [HR.out]; first | rfl | simp, bnext HB1.out HK3.out⟩
            | true =>
              go_upto_region 7 with fail
              have HC := Lib.hid (anchors_any w3 _ A hc hx hy (HAN.out.keep (bnext HB1.out HK3.out)) (by have := HOK.out.an; exact this))
              obtain ⟨r2, hr2⟩ : ∃ r2, OL.anchors A ⟨hc, hx, hy⟩ = r2 := ⟨_, rfl⟩
              rw [hr2] at HC HCK2
              clear hr2
              go_wp2_with fail
              go_at_call 66
              refine HC.out.mono ?_
              rintro e w4 ⟨rfl, k4⟩
              have HK4 := Lib.hid (bnext HK3.out k4)
              clear HC k4 x0 x1 x2 x3 x4 x5 x6 x7
              obtain ⟨x0, x1, x2, x3, x4, x5, x6, x7⟩ := HKX.out w4 HK4.out
              cases r2 with
              | false =>
                have HR : Hid (OL.check ⟨C, A, ⟨hc, hx, hy⟩, ad, D, P⟩ n = 35) := Lib.hid (by rw [HCK2.out]; rfl)
                go_wp2
                go_ret
                exact ⟨by rw [HR.out]; first | rfl | simp, bnext HB1.out HK4.out⟩
              | true =>
                by_cases d0 : ad < 0
                · have HR : Hid (OL.check ⟨C, A, ⟨hc, hx, hy⟩, ad, D, P⟩ n = 3) := Lib.hid (by rw [HCK2.out, if_neg (by simp), if_neg (by simp), if_pos (Or.inl d0)])
                  go_wp2
                  go_ret
                  exact ⟨by rw [HR.out]; first | rfl | simp, bnext HB1.out HK4.out⟩
                · by_cases d1 : 128 < ad
                  · have HR : Hid (OL.check ⟨C, A, ⟨hc, hx, hy⟩, ad, D, P⟩ n = 3) := Lib.hid (by rw [HCK2.out, if_neg (by simp), if_neg (by simp), if_pos (Or.inr d1)])
                    go_wp2
                    go_ret
                    exact ⟨by rw [HR.out]; first | rfl | simp, bnext HB1.out HK4.out⟩
                  · go_upto_region 11 with fail
                    have HDN := Lib.hid (show ¬ (ad < 0 ∨ 128 < ad) by omega)
                    clear d0 d1 x0 x1 x2 x3 x4 x5 x6 x7
                    obtain ⟨wd, hwd⟩ : ∃ wd, w4.drew = wd := ⟨_, rfl⟩
                    have HWD := Lib.hid hwd
                    have hbd : Below w4.heap.size w4 wd := by rw [← hwd]; exact Below.drew (Below.refl _ w4)
                    have HBD := Lib.hid (bnext HK4.out hbd)
                    clear hwd hbd
                    obtain ⟨r3, hr3⟩ : ∃ r3, OL.dsGo n np hc (-1) D = r3 := ⟨_, rfl⟩
                    rw [hr3] at HCK2
                    have HDC := Lib.hid (fun U hU => deltas_any U (.slice ca cn ck) (.slice aa an ak) (.slice da dn dk) vp D hc hx hy ad n np (HDS.out.keep (V := U) hU) (by have := HOK.out.ds; exact this) (by have := HOK.out.mv; exact this) HNB.out.1 HNB.out.2)
                    rw [hr3] at HDC
                    clear hr3
                    refine wp_region_held_drew (S := (fun U => U.cell? ⟨B, 0, none⟩ = some (.slice ca cn ck) ∧ U.cell? ⟨B, 1, none⟩ = some (.slice aa an ak) ∧ U.cell? ⟨B, 2, none⟩ = some (.int .i64 hc) ∧ U.cell? ⟨B, 3, none⟩ = some (.int .i64 hx) ∧ U.cell? ⟨B, 4, none⟩ = some (.int .i64 hy) ∧ U.cell? ⟨B, 5, none⟩ = some (.int .i64 ad) ∧ U.cell? ⟨B, 6, none⟩ = some (.slice da dn dk) ∧ U.cell? ⟨B, 7, none⟩ = some (vp))) (by kernel_rfl) ?_ (fun hHeld => ?_)
                    · (rw [HWD.out]; exact HKX.out _ (bnext HBD.out (Below.refl _ _)))
                    rw [HWD.out] at hHeld ⊢
                    refine wpAnyH_take (i := 0) (oi := { dst := some 48, op := Op.load 34 (Operand.tmp 2), type := 34, pos := "outline.go:108", after := #[], guard := none }) (v := ?_) rfl (by kernel_rfl) (by kernel_rfl) (by kernel_rfl) (fun _ _ _ h => h) (Or.inl ⟨by rfl, ?_⟩) (by assumption) ?_
                    rotate_left
                    · ((intro w hSw; (try dsimp only at hSw); go_simp; (try rw [if_neg (by omega)])); try with_reducible rfl)
                    (try simp only [Act.put, List.setIfInBounds_toArray, List.set_cons_zero, List.set_cons_succ])
                    refine wpAnyH_take (i := 1) (oi := { dst := some 49, op := Op.move (Operand.tmp 1), type := 3, pos := "outline.go:108", after := #[], guard := none }) (v := ?_) rfl (by kernel_rfl) (by kernel_rfl) (by kernel_rfl) (fun _ _ _ h => h) (Or.inl ⟨by rfl, ?_⟩) (by assumption) ?_
                    rotate_left
                    · ((intro w hSw; (try dsimp only at hSw); go_simp; (try rw [if_neg (by omega)])); try with_reducible rfl)
                    (try simp only [Act.put, List.setIfInBounds_toArray, List.set_cons_zero, List.set_cons_succ])
                    refine wpAnyH_take (i := 2) (oi := { dst := some 50, op := Op.load 34 (Operand.tmp 2), type := 34, pos := "outline.go:108", after := #[], guard := none }) (v := ?_) rfl (by kernel_rfl) (by kernel_rfl) (by kernel_rfl) (fun _ _ _ h => h) (Or.inl ⟨by rfl, ?_⟩) (by assumption) ?_
                    rotate_left
                    · ((intro w hSw; (try dsimp only at hSw); go_simp; (try rw [if_neg (by omega)])); try with_reducible rfl)
                    (try simp only [Act.put, List.setIfInBounds_toArray, List.set_cons_zero, List.set_cons_succ])
                    refine wpAnyH_ready (rs := [3]) (by kernel_rfl) (by simp) ?_
                    refine AllReadyH.cons (o := { dst := some 51, op := Op.call { callee := Callee.value (Operand.func 27), args := #[Operand.tmp 50], argTypes := #[34] }, type := 3, pos := "outline.go:108", after := #[{ on := 2, ground := Ground.data }], guard := none }) rfl (fun K hK => ?_) ?_
                    · (go_simp; go_at_call 27; refine (HPT.out _ (bnext HB1.out HBD.out)).mono ?_; rintro u wz1 ⟨rfl, bz1⟩; dsimp only)
                      refine hK.out _ _ ?_ (fun hHeld => ?_)
                      · exact HKX.out _ (bnext HBD.out bz1)
                      clear hK K
                      (try simp only [Act.put, List.setIfInBounds_toArray, List.set_cons_zero, List.set_cons_succ])
                      refine wpAnyH_ready (rs := [4]) (by kernel_rfl) (by simp) ?_
                      refine AllReadyH.cons (o := { dst := some 52, op := Op.call { callee := Callee.value (Operand.func 67), args := #[Operand.tmp 48, Operand.tmp 49, Operand.tmp 51], argTypes := #[34, 3, 3] }, type := 4, pos := "outline.go:108", after := #[{ on := 0, ground := Ground.data }, { on := 1, ground := Ground.data }, { on := 3, ground := Ground.data }, { on := 3, ground := Ground.chain }], guard := none }) rfl (fun K hK => ?_) ?_
                      · (go_simp; go_at_call 67; refine (HDC.out _ (bnext HB1.out (bnext HBD.out bz1))).mono ?_; rintro u wz2 ⟨rfl, dz⟩; have bz2 := bnext bz1 dz; dsimp only)
                        refine hK.out _ _ ?_ (fun hHeld => ?_)
                        · exact HKX.out _ (bnext HBD.out bz2)
                        clear hK K
                        (try simp only [Act.put, List.setIfInBounds_toArray, List.set_cons_zero, List.set_cons_succ])
                        refine wpAnyH_take (i := 5) (oi := { dst := some 53, op := Op.unOp UnOp.not 4 (Operand.tmp 52), type := 4, pos := "outline.go:108", after := #[{ on := 4, ground := Ground.data }], guard := none }) (v := ?_) rfl (by kernel_rfl) (by kernel_rfl) (by kernel_rfl) (fun _ _ _ h => h) (Or.inl ⟨by rfl, ?_⟩) (by assumption) ?_
                        rotate_left
                        · ((intro w hSw; (try dsimp only at hSw); go_simp; (try rw [if_neg (by omega)])); try with_reducible rfl)
                        (try simp only [Act.put, List.setIfInBounds_toArray, List.set_cons_zero, List.set_cons_succ])
                        refine wpAnyH_take (i := 6) (oi := { dst := some 47, op := Op.assign (Operand.tmp 53), type := 4, pos := "outline.go:108", after := #[{ on := 5, ground := Ground.data }, { on := 4, ground := Ground.chain }], guard := none }) (v := ?_) rfl (by kernel_rfl) (by kernel_rfl) (by kernel_rfl) (fun _ _ _ h => h) (Or.inl ⟨by rfl, ?_⟩) (by assumption) ?_
                        rotate_left
                        · ((intro w hSw; (try dsimp only at hSw); go_simp; (try rw [if_neg (by omega)])); try with_reducible rfl)
                        (try simp only [Act.put, List.setIfInBounds_toArray, List.set_cons_zero, List.set_cons_succ])
                        refine wpAnyH_done (by kernel_rfl) ?_ _
                        clear hHeld
                        go_simp
                        have HBZ := Lib.hid (bnext HB1.out (bnext HBD.out bz2))
                        clear bz1 bz2 dz
                        cases r3 with
                        | false =>
                          have HR : Hid (OL.check ⟨C, A, ⟨hc, hx, hy⟩, ad, D, P⟩ n = 13) := Lib.hid (by rw [HCK2.out, if_neg (by simp), if_neg (by simp), if_neg HDN.out]; rfl)
                          go_wp2
                          go_ret
                          exact ⟨by rw [HR.out]; first | rfl | simp, HBZ.out⟩
                        | true =>
                          have HR : Hid (OL.check ⟨C, A, ⟨hc, hx, hy⟩, ad, D, P⟩ n = 0) := Lib.hid (by rw [HCK2.out, if_neg (by simp), if_neg (by simp), if_neg HDN.out]; rfl)
                          go_wp2
                          go_ret
                          exact ⟨by rw [HR.out]; first | rfl | simp, HBZ.out⟩
                      exact AllReadyH.nil
                    exact AllReadyH.nil
end Go.Proofs.Ytanppbdlcinpfaa
end
