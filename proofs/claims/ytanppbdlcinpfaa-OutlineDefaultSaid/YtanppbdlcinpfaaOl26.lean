/- Texts merged: Ol23, Ol24, Ol25, Ol26. No conditions. -/
import Derived.Test.YtanppbdlcinpfaaOl22
set_option linter.unusedSimpArgs false
set_option linter.unusedVariables false
/- Rows of points, anchors and moves compared. No conditions. -/
section
namespace Go.Proofs.Ytanppbdlcinpfaa
set_option maxRecDepth 100000
set_option linter.unusedVariables false
open Go.RowKit Go.Deep
set_option maxHeartbeats 2000000 in
theorem eqs_ac (W : World) (va vb : Value) (A B : List Ac) (ha : AcAt W va A) (hb : AcAt W vb B) (hla : A.length ≤ 1000000) (hlb : B.length ≤ 1000000) :
    Calls Try.prog 50 #[va, vb] W fun e w' => e = .returned (.bool (decide (A = B))) ∧ Below W.heap.size W w' := by
  obtain ⟨aa, ak, rfl⟩ := ha.shape
  obtain ⟨ba, bk, rfl⟩ := hb.shape
  obtain ⟨n, hn⟩ : ∃ n, A.length = n := ⟨_, rfl⟩
  obtain ⟨nb, hnb⟩ : ∃ n, B.length = n := ⟨_, rfl⟩
  have HN := Lib.hid (And.intro hn hnb)
  rw [hn] at ha hla ⊢
  rw [hnb] at hb hlb ⊢
  have HA := Lib.hid ha
  have HBB := Lib.hid hb
  clear ha hb hn hnb
  go_enter Try.func50, Try.ntmps50
  by_cases hd : n = nb
  · have hne : ((n : Int) != (nb : Int)) = false := by simp [hd]
    have HD := Lib.hid hd
    clear hd
    go_upto_region 4 with fail
    clear hne
    go_loopw [13] (fun v13 wr => ∃ i : Nat, v13 = .int .i64 (i : Int) ∧ i ≤ n ∧ Hid (∀ j, j < i → A[j]? = B[j]?) ∧ Hid (Below W.heap.size W wr)) (fun v13 _ => n - (intOf v13).toNat)
    case atStart => exact ⟨0, rfl, Nat.zero_le _, Lib.hid (fun j h => absurd h (Nat.not_lt_zero j)), Lib.hid (Below.refl _ _)⟩
    case round =>
      obtain ⟨i, rfl, hi, HE, HB⟩ := hrel
      by_cases hin : i < n
      · have hii : (i : Int) < (n : Int) := by omega
        have hii2 : (i : Int) < (nb : Int) := by have := HD.out; omega
        have hi0 : (0 : Int) ≤ (i : Int) := by omega
        obtain ⟨x, hx⟩ : ∃ x, A[i]? = some x := ⟨_, List.getElem?_eq_getElem (by rw [HN.out.1]; exact hin)⟩
        obtain ⟨y, hy⟩ : ∃ y, B[i]? = some y := ⟨_, List.getElem?_eq_getElem (by rw [HN.out.2, ← HD.out]; exact hin)⟩
        obtain ⟨g, o, rfl, hgl, ca0, ca1, ca2⟩ := (HA.out.keep HB.out).cell hx
        obtain ⟨g', o', rfl, hgl', cb0, cb1, cb2⟩ := (HBB.out.keep HB.out).cell hy
        have HXY := Lib.hid (And.intro hx hy)
        clear hx hy hgl hgl'
        by_cases hxy : x = y
        · have hq : ∀ w : World, (binOp .neq 30 (.agg #[.int .i64 x.c, .int .i64 x.x, .int .i64 x.y]) (.agg #[.int .i64 y.c, .int .i64 y.x, .int .i64 y.y])).run Try.prog w = .ok (.bool false) w := fun w => by rw [neq_ac w x y]; simp [hxy]
          have HE2 : Hid (∀ j, j < i + 1 → A[j]? = B[j]?) := Lib.hid fun j hj => by
            by_cases e : j < i
            · exact HE.out j e
            · obtain rfl : j = i := by omega
              rw [HXY.out.1, HXY.out.2, hxy]
          have HB2 : Hid (Below W.heap.size W wr) := HB
          clear hxy
          go_upto_region 6 with fail
          go_quiet (fail)
          go_wp2
          go_roundw
          case rel => exact ⟨i + 1, by go_num, by omega, HE2, Lib.hid (by first | exact below_drewN HB2.out _ | exact HB2.out)⟩
          case measure => simp [intOf]; omega
        · have hq : ∀ w : World, (binOp .neq 30 (.agg #[.int .i64 x.c, .int .i64 x.x, .int .i64 x.y]) (.agg #[.int .i64 y.c, .int .i64 y.x, .int .i64 y.y])).run Try.prog w = .ok (.bool true) w := fun w => by rw [neq_ac w x y]; simp [hxy]
          have HF : Hid (decide (A = B) = false) := Lib.hid (decide_eq_false fun e => hxy (by
            have h1 := HXY.out.1
            rw [e, HXY.out.2] at h1
            exact (Option.some.inj h1).symm))
          have HB2 : Hid (Below W.heap.size W wr) := HB
          clear hxy
          go_upto_region 6 with fail
          go_quiet (fail)
          go_wp2
          go_ret
          exact ⟨by rw [HF.out]; rfl, by first | exact below_drewN HB2.out _ | exact HB2.out⟩
      · have hii : ¬ (i : Int) < (n : Int) := by omega
        have HF : Hid (decide (A = B) = true) := Lib.hid (decide_eq_true (List.ext_getElem? fun j => by
          by_cases e : j < i
          · exact HE.out j e
          · rw [List.getElem?_eq_none (by have := HN.out.1; omega), List.getElem?_eq_none (by have := HN.out.2; have := HD.out; omega)]))
        have HB2 : Hid (Below W.heap.size W wr) := HB
        clear hin
        go_wp2
        go_ret
        exact ⟨by rw [HF.out]; rfl, HB2.out⟩
  · have hne : ((n : Int) != (nb : Int)) = true := by simp; omega
    have HF : Hid (decide (A = B) = false) := Lib.hid (decide_eq_false fun e => hd (by rw [← HN.out.1, ← HN.out.2, e]))
    clear hd
    go_wp2
    go_ret
    exact ⟨by rw [HF.out]; rfl, Below.refl _ _⟩
set_option maxHeartbeats 2000000 in
theorem eqs_pt (W : World) (va vb : Value) (A B : List Pt) (ha : PtAt W va A) (hb : PtAt W vb B) (hla : A.length ≤ 1000000) (hlb : B.length ≤ 1000000) :
    Calls Try.prog 88 #[va, vb] W fun e w' => e = .returned (.bool (decide (A = B))) ∧ Below W.heap.size W w' := by
  obtain ⟨aa, ak, rfl⟩ := ha.shape
  obtain ⟨ba, bk, rfl⟩ := hb.shape
  obtain ⟨n, hn⟩ : ∃ n, A.length = n := ⟨_, rfl⟩
  obtain ⟨nb, hnb⟩ : ∃ n, B.length = n := ⟨_, rfl⟩
  have HN := Lib.hid (And.intro hn hnb)
  rw [hn] at ha hla ⊢
  rw [hnb] at hb hlb ⊢
  have HA := Lib.hid ha
  have HBB := Lib.hid hb
  clear ha hb hn hnb
  go_enter Try.func88, Try.ntmps88
  by_cases hd : n = nb
  · have hne : ((n : Int) != (nb : Int)) = false := by simp [hd]
    have HD := Lib.hid hd
    clear hd
    go_upto_region 4 with fail
    clear hne
    go_loopw [13] (fun v13 wr => ∃ i : Nat, v13 = .int .i64 (i : Int) ∧ i ≤ n ∧ Hid (∀ j, j < i → A[j]? = B[j]?) ∧ Hid (Below W.heap.size W wr)) (fun v13 _ => n - (intOf v13).toNat)
    case atStart => exact ⟨0, rfl, Nat.zero_le _, Lib.hid (fun j h => absurd h (Nat.not_lt_zero j)), Lib.hid (Below.refl _ _)⟩
    case round =>
      obtain ⟨i, rfl, hi, HE, HB⟩ := hrel
      by_cases hin : i < n
      · have hii : (i : Int) < (n : Int) := by omega
        have hii2 : (i : Int) < (nb : Int) := by have := HD.out; omega
        have hi0 : (0 : Int) ≤ (i : Int) := by omega
        obtain ⟨x, hx⟩ : ∃ x, A[i]? = some x := ⟨_, List.getElem?_eq_getElem (by rw [HN.out.1]; exact hin)⟩
        obtain ⟨y, hy⟩ : ∃ y, B[i]? = some y := ⟨_, List.getElem?_eq_getElem (by rw [HN.out.2, ← HD.out]; exact hin)⟩
        obtain ⟨g, o, rfl, hgl, ca0, ca1, ca2⟩ := (HA.out.keep HB.out).cell hx
        obtain ⟨g', o', rfl, hgl', cb0, cb1, cb2⟩ := (HBB.out.keep HB.out).cell hy
        have HXY := Lib.hid (And.intro hx hy)
        clear hx hy hgl hgl'
        by_cases hxy : x = y
        · have hq : ∀ w : World, (binOp .neq 81 (.agg #[.int .i64 x.x, .int .i64 x.y, .bool x.on]) (.agg #[.int .i64 y.x, .int .i64 y.y, .bool y.on])).run Try.prog w = .ok (.bool false) w := fun w => by rw [neq_pt w x y]; simp [hxy]
          have HE2 : Hid (∀ j, j < i + 1 → A[j]? = B[j]?) := Lib.hid fun j hj => by
            by_cases e : j < i
            · exact HE.out j e
            · obtain rfl : j = i := by omega
              rw [HXY.out.1, HXY.out.2, hxy]
          have HB2 : Hid (Below W.heap.size W wr) := HB
          clear hxy
          go_upto_region 6 with fail
          go_quiet (fail)
          go_wp2
          go_roundw
          case rel => exact ⟨i + 1, by go_num, by omega, HE2, Lib.hid (by first | exact below_drewN HB2.out _ | exact HB2.out)⟩
          case measure => simp [intOf]; omega
        · have hq : ∀ w : World, (binOp .neq 81 (.agg #[.int .i64 x.x, .int .i64 x.y, .bool x.on]) (.agg #[.int .i64 y.x, .int .i64 y.y, .bool y.on])).run Try.prog w = .ok (.bool true) w := fun w => by rw [neq_pt w x y]; simp [hxy]
          have HF : Hid (decide (A = B) = false) := Lib.hid (decide_eq_false fun e => hxy (by
            have h1 := HXY.out.1
            rw [e, HXY.out.2] at h1
            exact (Option.some.inj h1).symm))
          have HB2 : Hid (Below W.heap.size W wr) := HB
          clear hxy
          go_upto_region 6 with fail
          go_quiet (fail)
          go_wp2
          go_ret
          exact ⟨by rw [HF.out]; rfl, by first | exact below_drewN HB2.out _ | exact HB2.out⟩
      · have hii : ¬ (i : Int) < (n : Int) := by omega
        have HF : Hid (decide (A = B) = true) := Lib.hid (decide_eq_true (List.ext_getElem? fun j => by
          by_cases e : j < i
          · exact HE.out j e
          · rw [List.getElem?_eq_none (by have := HN.out.1; omega), List.getElem?_eq_none (by have := HN.out.2; have := HD.out; omega)]))
        have HB2 : Hid (Below W.heap.size W wr) := HB
        clear hin
        go_wp2
        go_ret
        exact ⟨by rw [HF.out]; rfl, HB2.out⟩
  · have hne : ((n : Int) != (nb : Int)) = true := by simp; omega
    have HF : Hid (decide (A = B) = false) := Lib.hid (decide_eq_false fun e => hd (by rw [← HN.out.1, ← HN.out.2, e]))
    clear hd
    go_wp2
    go_ret
    exact ⟨by rw [HF.out]; rfl, Below.refl _ _⟩
set_option maxHeartbeats 2000000 in
theorem eqs_mv (W : World) (va vb : Value) (A B : List (Int × Int)) (ha : MvAt W va A) (hb : MvAt W vb B) (hla : A.length ≤ 1000000) (hlb : B.length ≤ 1000000) :
    Calls Try.prog 89 #[va, vb] W fun e w' => e = .returned (.bool (decide (A = B))) ∧ Below W.heap.size W w' := by
  obtain ⟨aa, ak, rfl⟩ := ha.shape
  obtain ⟨ba, bk, rfl⟩ := hb.shape
  obtain ⟨n, hn⟩ : ∃ n, A.length = n := ⟨_, rfl⟩
  obtain ⟨nb, hnb⟩ : ∃ n, B.length = n := ⟨_, rfl⟩
  have HN := Lib.hid (And.intro hn hnb)
  rw [hn] at ha hla ⊢
  rw [hnb] at hb hlb ⊢
  have HA := Lib.hid ha
  have HBB := Lib.hid hb
  clear ha hb hn hnb
  go_enter Try.func89, Try.ntmps89
  by_cases hd : n = nb
  · have hne : ((n : Int) != (nb : Int)) = false := by simp [hd]
    have HD := Lib.hid hd
    clear hd
    go_upto_region 4 with fail
    clear hne
    go_loopw [13] (fun v13 wr => ∃ i : Nat, v13 = .int .i64 (i : Int) ∧ i ≤ n ∧ Hid (∀ j, j < i → A[j]? = B[j]?) ∧ Hid (Below W.heap.size W wr)) (fun v13 _ => n - (intOf v13).toNat)
    case atStart => exact ⟨0, rfl, Nat.zero_le _, Lib.hid (fun j h => absurd h (Nat.not_lt_zero j)), Lib.hid (Below.refl _ _)⟩
    case round =>
      obtain ⟨i, rfl, hi, HE, HB⟩ := hrel
      by_cases hin : i < n
      · have hii : (i : Int) < (n : Int) := by omega
        have hii2 : (i : Int) < (nb : Int) := by have := HD.out; omega
        have hi0 : (0 : Int) ≤ (i : Int) := by omega
        obtain ⟨x, hx⟩ : ∃ x, A[i]? = some x := ⟨_, List.getElem?_eq_getElem (by rw [HN.out.1]; exact hin)⟩
        obtain ⟨y, hy⟩ : ∃ y, B[i]? = some y := ⟨_, List.getElem?_eq_getElem (by rw [HN.out.2, ← HD.out]; exact hin)⟩
        obtain ⟨g, o, rfl, hgl, ca0, ca1⟩ := (HA.out.keep HB.out).cell hx
        obtain ⟨g', o', rfl, hgl', cb0, cb1⟩ := (HBB.out.keep HB.out).cell hy
        have HXY := Lib.hid (And.intro hx hy)
        clear hx hy hgl hgl'
        by_cases hxy : x = y
        · have hq : ∀ w : World, (binOp .neq 72 (.agg #[.int .i64 x.1, .int .i64 x.2]) (.agg #[.int .i64 y.1, .int .i64 y.2])).run Try.prog w = .ok (.bool false) w := fun w => by rw [neq_mv w x y]; simp [hxy]
          have HE2 : Hid (∀ j, j < i + 1 → A[j]? = B[j]?) := Lib.hid fun j hj => by
            by_cases e : j < i
            · exact HE.out j e
            · obtain rfl : j = i := by omega
              rw [HXY.out.1, HXY.out.2, hxy]
          have HB2 : Hid (Below W.heap.size W wr) := HB
          clear hxy
          go_upto_region 6 with fail
          go_quiet (fail)
          go_wp2
          go_roundw
          case rel => exact ⟨i + 1, by go_num, by omega, HE2, Lib.hid (by first | exact below_drewN HB2.out _ | exact HB2.out)⟩
          case measure => simp [intOf]; omega
        · have hq : ∀ w : World, (binOp .neq 72 (.agg #[.int .i64 x.1, .int .i64 x.2]) (.agg #[.int .i64 y.1, .int .i64 y.2])).run Try.prog w = .ok (.bool true) w := fun w => by rw [neq_mv w x y]; simp [hxy]
          have HF : Hid (decide (A = B) = false) := Lib.hid (decide_eq_false fun e => hxy (by
            have h1 := HXY.out.1
            rw [e, HXY.out.2] at h1
            exact (Option.some.inj h1).symm))
          have HB2 : Hid (Below W.heap.size W wr) := HB
          clear hxy
          go_upto_region 6 with fail
          go_quiet (fail)
          go_wp2
          go_ret
          exact ⟨by rw [HF.out]; rfl, by first | exact below_drewN HB2.out _ | exact HB2.out⟩
      · have hii : ¬ (i : Int) < (n : Int) := by omega
        have HF : Hid (decide (A = B) = true) := Lib.hid (decide_eq_true (List.ext_getElem? fun j => by
          by_cases e : j < i
          · exact HE.out j e
          · rw [List.getElem?_eq_none (by have := HN.out.1; omega), List.getElem?_eq_none (by have := HN.out.2; have := HD.out; omega)]))
        have HB2 : Hid (Below W.heap.size W wr) := HB
        clear hin
        go_wp2
        go_ret
        exact ⟨by rw [HF.out]; rfl, HB2.out⟩
  · have hne : ((n : Int) != (nb : Int)) = true := by simp; omega
    have HF : Hid (decide (A = B) = false) := Lib.hid (decide_eq_false fun e => hd (by rw [← HN.out.1, ← HN.out.2, e]))
    clear hd
    go_wp2
    go_ret
    exact ⟨by rw [HF.out]; rfl, Below.refl _ _⟩
end Go.Proofs.Ytanppbdlcinpfaa
end
/- Contours and deltas compared. No conditions. -/
section
namespace Go.Proofs.Ytanppbdlcinpfaa
set_option maxRecDepth 100000
set_option linter.unusedVariables false
open Go.RowKit Go.Deep
theorem samec_any (W : World) (va vb : Value) (A B : List Pt) (ha : PtAt W va A) (hb : PtAt W vb B) (hla : A.length ≤ 1000000) (hlb : B.length ≤ 1000000) :
    Calls Try.prog 53 #[va, vb] W fun e w' => e = .returned (.bool (decide (A = B))) ∧ Below W.heap.size W w' := by
  have HC := Lib.hid (eqs_pt W va vb A B ha hb hla hlb)
  obtain ⟨aa, ak, rfl⟩ := ha.shape
  obtain ⟨ba, bk, rfl⟩ := hb.shape
  clear ha hb
  go_enter Try.func53, Try.ntmps53
  go_wp2_with fail
  go_at_call 88
  refine HC.out.mono ?_
  rintro e w1 ⟨rfl, hb1⟩
  have HB := Lib.hid hb1
  clear hb1 HC
  go_wp2
  go_ret
  exact ⟨rfl, HB.out⟩
set_option maxHeartbeats 2000000 in
theorem samed_any (W : World) (va vb : Value) (x y : Dl) (ha : MvAt W va x.m) (hb : MvAt W vb y.m) (hla : x.m.length ≤ 1000000) (hlb : y.m.length ≤ 1000000) :
    Calls Try.prog 55 #[.agg #[.int .i64 x.r, .int .i64 x.a, va], .agg #[.int .i64 y.r, .int .i64 y.a, vb]] W fun e w' => e = .returned (.bool (decide (x = y))) ∧ Below W.heap.size W w' := by
  obtain ⟨aa, ak, rfl⟩ := ha.shape
  obtain ⟨ba, bk, rfl⟩ := hb.shape
  obtain ⟨xr, xa, xm⟩ := x
  obtain ⟨yr, ya, ym⟩ := y
  dsimp only at ha hb hla hlb ⊢
  obtain ⟨n, hn⟩ : ∃ n, xm.length = n := ⟨_, rfl⟩
  obtain ⟨k, hk⟩ : ∃ n, ym.length = n := ⟨_, rfl⟩
  rw [hn] at ha ⊢
  rw [hk] at hb ⊢
  have hd : decide ((⟨xr, xa, xm⟩ : Dl) = ⟨yr, ya, ym⟩) = (decide (xr = yr) && decide (xa = ya) && decide (xm = ym)) := by
    rw [Bool.eq_iff_iff]
    simp [and_assoc]
  have HD := Lib.hid hd
  have HC : Hid (∀ U, Below W.heap.size W U → Calls Try.prog 89 #[.slice aa n ak, .slice ba k bk] U fun e w' => e = .returned (.bool (decide (xm = ym))) ∧ Below U.heap.size U w') := Lib.hid fun U hU => eqs_mv U _ _ xm ym (ha.keep hU) (hb.keep hU) hla hlb
  have hbb := balloc (balloc (Below.refl _ W) (.cells #[.int .i64 xr, .int .i64 xa, .slice aa n ak] 70)) (.cells #[.int .i64 yr, .int .i64 ya, .slice ba k bk] 70)
  have HBB := Lib.hid hbb
  clear ha hb hn hk hd hbb
  by_cases h1 : xr = yr
  · by_cases h2 : xa = ya
    · have e1 : (xr == yr) = true := by simp [h1]
      have e2 : (xa == ya) = true := by simp [h2]
      have HV : Hid (decide ((⟨xr, xa, xm⟩ : Dl) = ⟨yr, ya, ym⟩) = decide (xm = ym)) := Lib.hid (by rw [HD.out]; simp [h1, h2])
      clear h1 h2
      go_enter Try.func55, Try.ntmps55
      go_wp2_with fail
      go_at_call 89
      refine (HC.out _ HBB.out).mono ?_
      rintro e w1 ⟨rfl, hb1⟩
      have HB1 := Lib.hid hb1
      clear hb1
      go_wp2
      go_ret
      exact ⟨by rw [HV.out]; rfl, bnext HBB.out HB1.out⟩
    · have e1 : (xr == yr) = true := by simp [h1]
      have e2 : (xa == ya) = false := by simp [h2]
      have HV : Hid (decide ((⟨xr, xa, xm⟩ : Dl) = ⟨yr, ya, ym⟩) = false) := Lib.hid (by rw [HD.out]; simp [h2])
      clear h1 h2
      go_enter Try.func55, Try.ntmps55
      go_wp2
      go_ret
      exact ⟨by rw [HV.out]; rfl, HBB.out⟩
  · have e1 : (xr == yr) = false := by simp [h1]
    have HV : Hid (decide ((⟨xr, xa, xm⟩ : Dl) = ⟨yr, ya, ym⟩) = false) := Lib.hid (by rw [HD.out]; simp [h1])
    clear h1
    go_enter Try.func55, Try.ntmps55
    go_wp2
    go_ret
    exact ⟨by rw [HV.out]; rfl, HBB.out⟩
end Go.Proofs.Ytanppbdlcinpfaa
end
/- Rows of rows compared. No conditions. -/
section
namespace Go.Proofs.Ytanppbdlcinpfaa
set_option maxRecDepth 100000
set_option linter.unusedVariables false
open Go.RowKit Go.Deep
theorem eq_in (w : World) (x y x' y' : Int) : (binOp .eql 58 (.agg #[.int .i64 x, .int .i64 y]) (.agg #[.int .i64 x', .int .i64 y'])).run Try.prog w = .ok (.bool (x == x' && y == y')) w := by
  have p0 : ∀ a b : Int, (part 3 #[.int .i64 a, .int .i64 b] 0).run Try.prog w = .ok (.int .i64 a) w := fun a b => by simp [part, isAgg, run_underlying Try.underlying3]
  have p1 : ∀ a b : Int, (part 3 #[.int .i64 a, .int .i64 b] 1).run Try.prog w = .ok (.int .i64 b) w := fun a b => by simp [part, isAgg, run_underlying Try.underlying3]
  have pe : ∀ a b : Int, (Op.equalIn 9999 3 (.int .i64 a) (.int .i64 b)).run Try.prog w = .ok (a == b) w := fun a b => run_equalIn_int w 9998 3 .i64 .i64 _ _ Try.underlying3
  rw [run_eql_struct, Op.equalIn]
  simp only [Sem.run_bind, run_underlying Try.underlying58, Result.andThen_ok]
  cases hx : (x == x') <;> cases hy : (y == y') <;> simp [p1, pe, hx, hy, p0]
theorem neq_in (w : World) (p q : Int × Int) : (binOp .neq 58 (.agg #[.int .i64 p.1, .int .i64 p.2]) (.agg #[.int .i64 q.1, .int .i64 q.2])).run Try.prog w = .ok (.bool (!decide (p = q))) w := by
  have h := eq_in w p.1 p.2 q.1 q.2
  have hd : decide (p = q) = (p.1 == q.1 && p.2 == q.2) := by
    rw [Bool.eq_iff_iff]
    simp [Prod.ext_iff]
  rw [hd]
  rw [run_eql_struct] at h
  rw [run_neq_struct]
  generalize (Op.equalIn 10000 58 (.agg #[.int .i64 p.1, .int .i64 p.2]) (.agg #[.int .i64 q.1, .int .i64 q.2])).run Try.prog w = r at h ⊢
  cases r with
  | ok b w' =>
    simp at h ⊢
    obtain ⟨h1, h2⟩ := h
    exact ⟨by rw [h1], h2⟩
  | halt x w' => simp at h
set_option maxHeartbeats 2000000 in
theorem eqs_in (W : World) (va vb : Value) (A B : List (Int × Int)) (ha : MvAt W va A) (hb : MvAt W vb B) (hla : A.length ≤ 1000000) (hlb : B.length ≤ 1000000) :
    Calls Try.prog 51 #[va, vb] W fun e w' => e = .returned (.bool (decide (A = B))) ∧ Below W.heap.size W w' := by
  obtain ⟨aa, ak, rfl⟩ := ha.shape
  obtain ⟨ba, bk, rfl⟩ := hb.shape
  obtain ⟨n, hn⟩ : ∃ n, A.length = n := ⟨_, rfl⟩
  obtain ⟨nb, hnb⟩ : ∃ n, B.length = n := ⟨_, rfl⟩
  have HN := Lib.hid (And.intro hn hnb)
  rw [hn] at ha hla ⊢
  rw [hnb] at hb hlb ⊢
  have HA := Lib.hid ha
  have HBB := Lib.hid hb
  clear ha hb hn hnb
  go_enter Try.func51, Try.ntmps51
  by_cases hd : n = nb
  · have hne : ((n : Int) != (nb : Int)) = false := by simp [hd]
    have HD := Lib.hid hd
    clear hd
    go_upto_region 4 with fail
    clear hne
    go_loopw [13] (fun v13 wr => ∃ i : Nat, v13 = .int .i64 (i : Int) ∧ i ≤ n ∧ Hid (∀ j, j < i → A[j]? = B[j]?) ∧ Hid (Below W.heap.size W wr)) (fun v13 _ => n - (intOf v13).toNat)
    case atStart => exact ⟨0, rfl, Nat.zero_le _, Lib.hid (fun j h => absurd h (Nat.not_lt_zero j)), Lib.hid (Below.refl _ _)⟩
    case round =>
      obtain ⟨i, rfl, hi, HE, HB⟩ := hrel
      by_cases hin : i < n
      · have hii : (i : Int) < (n : Int) := by omega
        have hii2 : (i : Int) < (nb : Int) := by have := HD.out; omega
        have hi0 : (0 : Int) ≤ (i : Int) := by omega
        obtain ⟨x, hx⟩ : ∃ x, A[i]? = some x := ⟨_, List.getElem?_eq_getElem (by rw [HN.out.1]; exact hin)⟩
        obtain ⟨y, hy⟩ : ∃ y, B[i]? = some y := ⟨_, List.getElem?_eq_getElem (by rw [HN.out.2, ← HD.out]; exact hin)⟩
        obtain ⟨g, o, rfl, hgl, ca0, ca1⟩ := (HA.out.keep HB.out).cell hx
        obtain ⟨g', o', rfl, hgl', cb0, cb1⟩ := (HBB.out.keep HB.out).cell hy
        have HXY := Lib.hid (And.intro hx hy)
        clear hx hy hgl hgl'
        by_cases hxy : x = y
        · have hq : ∀ w : World, (binOp .neq 58 (.agg #[.int .i64 x.1, .int .i64 x.2]) (.agg #[.int .i64 y.1, .int .i64 y.2])).run Try.prog w = .ok (.bool false) w := fun w => by rw [neq_in w x y]; simp [hxy]
          have HE2 : Hid (∀ j, j < i + 1 → A[j]? = B[j]?) := Lib.hid fun j hj => by
            by_cases e : j < i
            · exact HE.out j e
            · obtain rfl : j = i := by omega
              rw [HXY.out.1, HXY.out.2, hxy]
          have HB2 : Hid (Below W.heap.size W wr) := HB
          clear hxy
          go_upto_region 6 with fail
          go_quiet (fail)
          go_wp2
          go_roundw
          case rel => exact ⟨i + 1, by go_num, by omega, HE2, Lib.hid (by first | exact below_drewN HB2.out _ | exact HB2.out)⟩
          case measure => simp [intOf]; omega
        · have hq : ∀ w : World, (binOp .neq 58 (.agg #[.int .i64 x.1, .int .i64 x.2]) (.agg #[.int .i64 y.1, .int .i64 y.2])).run Try.prog w = .ok (.bool true) w := fun w => by rw [neq_in w x y]; simp [hxy]
          have HF : Hid (decide (A = B) = false) := Lib.hid (decide_eq_false fun e => hxy (by
            have h1 := HXY.out.1
            rw [e, HXY.out.2] at h1
            exact (Option.some.inj h1).symm))
          have HB2 : Hid (Below W.heap.size W wr) := HB
          clear hxy
          go_upto_region 6 with fail
          go_quiet (fail)
          go_wp2
          go_ret
          exact ⟨by rw [HF.out]; rfl, by first | exact below_drewN HB2.out _ | exact HB2.out⟩
      · have hii : ¬ (i : Int) < (n : Int) := by omega
        have HF : Hid (decide (A = B) = true) := Lib.hid (decide_eq_true (List.ext_getElem? fun j => by
          by_cases e : j < i
          · exact HE.out j e
          · rw [List.getElem?_eq_none (by have := HN.out.1; omega), List.getElem?_eq_none (by have := HN.out.2; have := HD.out; omega)]))
        have HB2 : Hid (Below W.heap.size W wr) := HB
        clear hin
        go_wp2
        go_ret
        exact ⟨by rw [HF.out]; rfl, HB2.out⟩
  · have hne : ((n : Int) != (nb : Int)) = true := by simp; omega
    have HF : Hid (decide (A = B) = false) := Lib.hid (decide_eq_false fun e => hd (by rw [← HN.out.1, ← HN.out.2, e]))
    clear hd
    go_wp2
    go_ret
    exact ⟨by rw [HF.out]; rfl, Below.refl _ _⟩
set_option maxHeartbeats 2000000 in
theorem eqf_c (W : World) (va vb : Value) (A B : List (List Pt)) (ha : CsAt W va A) (hb : CsAt W vb B) (hla : A.length ≤ 1000000) (hlb : B.length ≤ 1000000) (hxa : ∀ x ∈ A, x.length ≤ 1000000) (hxb : ∀ x ∈ B, x.length ≤ 1000000) :
    Calls Try.prog 52 #[va, vb, .func (.func 53) #[] #[]] W fun e w' => e = .returned (.bool (decide (A = B))) ∧ Below W.heap.size W w' := by
  obtain ⟨aa, ak, rfl⟩ := ha.shape
  obtain ⟨ba, bk, rfl⟩ := hb.shape
  obtain ⟨n, hn⟩ : ∃ n, A.length = n := ⟨_, rfl⟩
  obtain ⟨nb, hnb⟩ : ∃ n, B.length = n := ⟨_, rfl⟩
  have HN := Lib.hid (And.intro hn hnb)
  rw [hn] at ha hla ⊢
  rw [hnb] at hb hlb ⊢
  have HA := Lib.hid ha
  have HBB := Lib.hid hb
  have HXX := Lib.hid (And.intro hxa hxb)
  clear ha hb hn hnb hxa hxb
  go_enter Try.func52, Try.ntmps52
  by_cases hd : n = nb
  · have hne : ((n : Int) != (nb : Int)) = false := by simp [hd]
    have HD := Lib.hid hd
    clear hd
    go_upto_region 4 with fail
    clear hne
    go_loopw [17] (fun v17 wr => ∃ i : Nat, v17 = .int .i64 (i : Int) ∧ i ≤ n ∧ Hid (∀ j, j < i → A[j]? = B[j]?) ∧ Hid (Below W.heap.size W wr)) (fun v17 _ => n - (intOf v17).toNat)
    case atStart => exact ⟨0, rfl, Nat.zero_le _, Lib.hid (fun j h => absurd h (Nat.not_lt_zero j)), Lib.hid (Below.refl _ _)⟩
    case round =>
      obtain ⟨i, rfl, hi, HE, HB⟩ := hrel
      by_cases hin : i < n
      · have hii : (i : Int) < (n : Int) := by omega
        have hii2 : (i : Int) < (nb : Int) := by have := HD.out; omega
        have hi0 : (0 : Int) ≤ (i : Int) := by omega
        obtain ⟨x, hx⟩ : ∃ x, A[i]? = some x := ⟨_, List.getElem?_eq_getElem (by rw [HN.out.1]; exact hin)⟩
        obtain ⟨y, hy⟩ : ∃ y, B[i]? = some y := ⟨_, List.getElem?_eq_getElem (by rw [HN.out.2, ← HD.out]; exact hin)⟩
        obtain ⟨g, o, pa, pk, rfl, hgl, ca, hpa⟩ := (HA.out.keep HB.out).cell hx
        obtain ⟨g', o', qa, qk, rfl, hgl', cb, hpb⟩ := (HBB.out.keep HB.out).cell hy
        have HC : Hid (∀ U, Below wr.heap.size wr U → Calls Try.prog 53 #[.slice pa x.length pk, .slice qa y.length qk] U fun e w' => e = .returned (.bool (decide (x = y))) ∧ Below U.heap.size U w') := Lib.hid fun U hU => samec_any U _ _ x y (hpa.keep hU) (hpb.keep hU) (HXX.out.1 x (List.mem_of_getElem? hx)) (HXX.out.2 y (List.mem_of_getElem? hy))
        have HXY := Lib.hid (And.intro hx hy)
        clear hx hy hgl hgl' hpa hpb
        go_upto_region 7 with fail
        clear ca cb
        go_wp2_with fail
        go_at_call 53
        refine (HC.out _ (Below.refl _ _)).mono ?_
        rintro e w1 ⟨rfl, hb1⟩
        have HB1 := Lib.hid (bnext HB.out hb1)
        clear hb1 HC
        by_cases hxy : x = y
        · have HE2 : Hid (∀ j, j < i + 1 → A[j]? = B[j]?) := Lib.hid fun j hj => by
            by_cases e : j < i
            · exact HE.out j e
            · obtain rfl : j = i := by omega
              rw [HXY.out.1, HXY.out.2, hxy]
          have hdx : decide (x = y) = true := decide_eq_true hxy
          clear hxy
          rw [hdx]
          clear hdx
          go_wp2
          go_roundw
          case rel => exact ⟨i + 1, by go_num, by omega, HE2, HB1⟩
          case measure => simp [intOf]; omega
        · have HF : Hid (decide (A = B) = false) := Lib.hid (decide_eq_false fun e => hxy (by
            have h1 := HXY.out.1
            rw [e, HXY.out.2] at h1
            exact (Option.some.inj h1).symm))
          have hdx : decide (x = y) = false := decide_eq_false hxy
          clear hxy
          rw [hdx]
          clear hdx
          go_wp2
          go_ret
          exact ⟨by rw [HF.out]; rfl, HB1.out⟩
      · have hii : ¬ (i : Int) < (n : Int) := by omega
        have HF : Hid (decide (A = B) = true) := Lib.hid (decide_eq_true (List.ext_getElem? fun j => by
          by_cases e : j < i
          · exact HE.out j e
          · rw [List.getElem?_eq_none (by have := HN.out.1; omega), List.getElem?_eq_none (by have := HN.out.2; have := HD.out; omega)]))
        clear hin
        go_wp2
        go_ret
        exact ⟨by rw [HF.out]; rfl, HB.out⟩
  · have hne : ((n : Int) != (nb : Int)) = true := by simp; omega
    have HF : Hid (decide (A = B) = false) := Lib.hid (decide_eq_false fun e => hd (by rw [← HN.out.1, ← HN.out.2, e]))
    clear hd
    go_wp2
    go_ret
    exact ⟨by rw [HF.out]; rfl, Below.refl _ _⟩
set_option maxHeartbeats 2000000 in
theorem eqf_d (W : World) (va vb : Value) (A B : List Dl) (ha : DsAt W va A) (hb : DsAt W vb B) (hla : A.length ≤ 1000000) (hlb : B.length ≤ 1000000) (hxa : ∀ x ∈ A, x.m.length ≤ 1000000) (hxb : ∀ x ∈ B, x.m.length ≤ 1000000) :
    Calls Try.prog 54 #[va, vb, .func (.func 55) #[] #[]] W fun e w' => e = .returned (.bool (decide (A = B))) ∧ Below W.heap.size W w' := by
  obtain ⟨aa, ak, rfl⟩ := ha.shape
  obtain ⟨ba, bk, rfl⟩ := hb.shape
  obtain ⟨n, hn⟩ : ∃ n, A.length = n := ⟨_, rfl⟩
  obtain ⟨nb, hnb⟩ : ∃ n, B.length = n := ⟨_, rfl⟩
  have HN := Lib.hid (And.intro hn hnb)
  rw [hn] at ha hla ⊢
  rw [hnb] at hb hlb ⊢
  have HA := Lib.hid ha
  have HBB := Lib.hid hb
  have HXX := Lib.hid (And.intro hxa hxb)
  clear ha hb hn hnb hxa hxb
  go_enter Try.func54, Try.ntmps54
  by_cases hd : n = nb
  · have hne : ((n : Int) != (nb : Int)) = false := by simp [hd]
    have HD := Lib.hid hd
    clear hd
    go_upto_region 4 with fail
    clear hne
    go_loopw [17] (fun v17 wr => ∃ i : Nat, v17 = .int .i64 (i : Int) ∧ i ≤ n ∧ Hid (∀ j, j < i → A[j]? = B[j]?) ∧ Hid (Below W.heap.size W wr)) (fun v17 _ => n - (intOf v17).toNat)
    case atStart => exact ⟨0, rfl, Nat.zero_le _, Lib.hid (fun j h => absurd h (Nat.not_lt_zero j)), Lib.hid (Below.refl _ _)⟩
    case round =>
      obtain ⟨i, rfl, hi, HE, HB⟩ := hrel
      by_cases hin : i < n
      · have hii : (i : Int) < (n : Int) := by omega
        have hii2 : (i : Int) < (nb : Int) := by have := HD.out; omega
        have hi0 : (0 : Int) ≤ (i : Int) := by omega
        obtain ⟨x, hx⟩ : ∃ x, A[i]? = some x := ⟨_, List.getElem?_eq_getElem (by rw [HN.out.1]; exact hin)⟩
        obtain ⟨y, hy⟩ : ∃ y, B[i]? = some y := ⟨_, List.getElem?_eq_getElem (by rw [HN.out.2, ← HD.out]; exact hin)⟩
        obtain ⟨g, o, pa, pk, rfl, hgl, ca, da, ea, hpa⟩ := (HA.out.keep HB.out).cell hx
        obtain ⟨g', o', qa, qk, rfl, hgl', cb, db, eb, hpb⟩ := (HBB.out.keep HB.out).cell hy
        have HC : Hid (∀ U, Below wr.heap.size wr U → Calls Try.prog 55 #[.agg #[.int .i64 x.r, .int .i64 x.a, .slice pa x.m.length pk], .agg #[.int .i64 y.r, .int .i64 y.a, .slice qa y.m.length qk]] U fun e w' => e = .returned (.bool (decide (x = y))) ∧ Below U.heap.size U w') := Lib.hid fun U hU => samed_any U _ _ x y (hpa.keep hU) (hpb.keep hU) (HXX.out.1 x (List.mem_of_getElem? hx)) (HXX.out.2 y (List.mem_of_getElem? hy))
        have HXY := Lib.hid (And.intro hx hy)
        clear hx hy hgl hpa hpb
        go_upto_region 6 with fail
        have hx1 := heap_alloc_new wr (.cells #[.int .i64 x.r, .int .i64 x.a, .slice pa x.m.length pk] 70)
        have bx1 := balloc (Below.refl _ wr) (.cells #[.int .i64 x.r, .int .i64 x.a, .slice pa x.m.length pk] 70)
        obtain ⟨wa, hwa⟩ : ∃ wa, wr.alloc (.cells #[.int .i64 x.r, .int .i64 x.a, .slice pa x.m.length pk] 70) = wa := ⟨_, rfl⟩
        obtain ⟨Xa, hXa⟩ : ∃ Xa, wr.heap.size = Xa := ⟨_, rfl⟩
        rw [hwa] at hx1 bx1
        rw [hXa] at hx1
        try rw [hwa]
        try rw [hXa]
        have cb1 := (bx1.cell (p := ⟨g', o' + i * 3, none⟩) hgl').trans cb
        have db1 := (bx1.cell (p := ⟨g', o' + i * 3 + 1, none⟩) hgl').trans db
        have eb1 := (bx1.cell (p := ⟨g', o' + i * 3 + 2, none⟩) hgl').trans eb
        clear hwa hXa ca da ea cb db eb hgl'
        go_upto_region 7 with fail
        clear cb1 db1 eb1
        have hx2 := heap_alloc_new wa (.cells #[.int .i64 y.r, .int .i64 y.a, .slice qa y.m.length qk] 70)
        have bx2 := balloc (Below.refl _ wa) (.cells #[.int .i64 y.r, .int .i64 y.a, .slice qa y.m.length qk] 70)
        obtain ⟨wb, hwb⟩ : ∃ wb, wa.alloc (.cells #[.int .i64 y.r, .int .i64 y.a, .slice qa y.m.length qk] 70) = wb := ⟨_, rfl⟩
        obtain ⟨Xb, hXb⟩ : ∃ Xb, wa.heap.size = Xb := ⟨_, rfl⟩
        rw [hwb] at hx2 bx2
        rw [hXb] at hx2
        try rw [hwb]
        try rw [hXb]
        have hx1' := (bx2.block Xa (Array.getElem?_eq_some_iff.1 hx1).1).trans hx1
        clear hwb hXb hx1
        have p0 : wb.cell? ⟨Xa, 0, none⟩ = some (.int .i64 x.r) := nd_cell hx1' rfl
        have p1 : wb.cell? ⟨Xa, 1, none⟩ = some (.int .i64 x.a) := nd_cell hx1' rfl
        have p2 : wb.cell? ⟨Xa, 2, none⟩ = some (.slice pa x.m.length pk) := nd_cell hx1' rfl
        have q0 : wb.cell? ⟨Xb, 0, none⟩ = some (.int .i64 y.r) := nd_cell hx2 rfl
        have q1 : wb.cell? ⟨Xb, 1, none⟩ = some (.int .i64 y.a) := nd_cell hx2 rfl
        have q2 : wb.cell? ⟨Xb, 2, none⟩ = some (.slice qa y.m.length qk) := nd_cell hx2 rfl
        have HWB := Lib.hid (bnext bx1 bx2)
        clear hx1' hx2 bx1 bx2
        go_wp2_with fail
        go_at_call 55
        refine (HC.out _ HWB.out).mono ?_
        rintro e w1 ⟨rfl, hb1⟩
        have HB1 := Lib.hid (bnext HB.out (bnext HWB.out hb1))
        clear hb1 HC p0 p1 p2 q0 q1 q2
        by_cases hxy : x = y
        · have HE2 : Hid (∀ j, j < i + 1 → A[j]? = B[j]?) := Lib.hid fun j hj => by
            by_cases e : j < i
            · exact HE.out j e
            · obtain rfl : j = i := by omega
              rw [HXY.out.1, HXY.out.2, hxy]
          have hdx : decide (x = y) = true := decide_eq_true hxy
          clear hxy
          rw [hdx]
          clear hdx
          go_wp2
          go_roundw
          case rel => exact ⟨i + 1, by go_num, by omega, HE2, HB1⟩
          case measure => simp [intOf]; omega
        · have HF : Hid (decide (A = B) = false) := Lib.hid (decide_eq_false fun e => hxy (by
            have h1 := HXY.out.1
            rw [e, HXY.out.2] at h1
            exact (Option.some.inj h1).symm))
          have hdx : decide (x = y) = false := decide_eq_false hxy
          clear hxy
          rw [hdx]
          clear hdx
          go_wp2
          go_ret
          exact ⟨by rw [HF.out]; rfl, HB1.out⟩
      · have hii : ¬ (i : Int) < (n : Int) := by omega
        have HF : Hid (decide (A = B) = true) := Lib.hid (decide_eq_true (List.ext_getElem? fun j => by
          by_cases e : j < i
          · exact HE.out j e
          · rw [List.getElem?_eq_none (by have := HN.out.1; omega), List.getElem?_eq_none (by have := HN.out.2; have := HD.out; omega)]))
        clear hin
        go_wp2
        go_ret
        exact ⟨by rw [HF.out]; rfl, HB.out⟩
  · have hne : ((n : Int) != (nb : Int)) = true := by simp; omega
    have HF : Hid (decide (A = B) = false) := Lib.hid (decide_eq_false fun e => hd (by rw [← HN.out.1, ← HN.out.2, e]))
    clear hd
    go_wp2
    go_ret
    exact ⟨by rw [HF.out]; rfl, Below.refl _ _⟩
end Go.Proofs.Ytanppbdlcinpfaa
end
/- Glyphs compared. No conditions. -/
section
namespace Go.Proofs.Ytanppbdlcinpfaa
set_option maxRecDepth 100000
set_option linter.unusedVariables false
open Go.RowKit Go.Deep
def OL.same (G H : Gl) : Bool := decide (G.hg = H.hg) && (decide (G.ad = H.ad) && (decide (G.an = H.an) && (decide (G.pr = H.pr) && (decide (G.cs = H.cs) && decide (G.ds = H.ds)))))
set_option maxHeartbeats 4000000 in
theorem same_any (W : World) (v v' : Value) (G H : Gl) (hv : GlAt W v G) (hv' : GlAt W v' H) (hok : GlOk G) (hok' : GlOk H) :
    Calls Try.prog 20 #[v, v'] W fun e w' => e = .returned (.bool (OL.same G H)) ∧ Below W.heap.size W w' := by
  obtain ⟨vc, va, vd, vp, rfl, h1, h2, h3, h4⟩ := hv
  obtain ⟨vc', va', vd', vp', rfl, k1, k2, k3, k4⟩ := hv'
  obtain ⟨ca, ck, rfl⟩ := h1.shape
  obtain ⟨aa, ak, rfl⟩ := h2.shape
  obtain ⟨da, dk, rfl⟩ := h3.shape
  obtain ⟨pa, pk, rfl⟩ := h4.shape
  obtain ⟨ca', ck', rfl⟩ := k1.shape
  obtain ⟨aa', ak', rfl⟩ := k2.shape
  obtain ⟨da', dk', rfl⟩ := k3.shape
  obtain ⟨pa', pk', rfl⟩ := k4.shape
  have HH := Lib.hid (And.intro h1 (And.intro h2 (And.intro h3 (And.intro h4 (And.intro k1 (And.intro k2 (And.intro k3 k4)))))))
  obtain ⟨B, hB⟩ : ∃ B, W.heap.size = B := ⟨_, rfl⟩
  have hbd : Hid ((∀ x ∈ G.cs, x.length ≤ 1000000) ∧ (∀ x ∈ H.cs, x.length ≤ 1000000) ∧ (∀ x ∈ G.ds, x.m.length ≤ 1000000) ∧ (∀ x ∈ H.ds, x.m.length ≤ 1000000) ∧ (G.cs.length ≤ 1000000 ∧ H.cs.length ≤ 1000000) ∧ (G.ds.length ≤ 1000000 ∧ H.ds.length ≤ 1000000) ∧ (G.an.length ≤ 1000000 ∧ H.an.length ≤ 1000000) ∧ G.pr.length ≤ 1000000 ∧ H.pr.length ≤ 1000000) := Lib.hid ⟨fun x hx => by have := hok.cs.m x hx; omega, fun x hx => by have := hok'.cs.m x hx; omega, fun x hx => by have := hok.mv x hx; omega, fun x hx => by have := hok'.mv x hx; omega, ⟨by have := hok.cs.n; omega, by have := hok'.cs.n; omega⟩, ⟨by have := hok.ds; omega, by have := hok'.ds; omega⟩, ⟨by have := hok.an; omega, by have := hok'.an; omega⟩, by have := hok.pr; omega, by have := hok'.pr; omega⟩
  obtain ⟨⟨hc, hx, hy⟩, hhg⟩ : ∃ h, G.hg = h := ⟨_, rfl⟩
  obtain ⟨⟨hc', hx', hy'⟩, hhg'⟩ : ∃ h, H.hg = h := ⟨_, rfl⟩
  obtain ⟨ad, had⟩ : ∃ h, G.ad = h := ⟨_, rfl⟩
  obtain ⟨ad', had'⟩ : ∃ h, H.ad = h := ⟨_, rfl⟩
  have HV : Hid (OL.same G H = (decide ((⟨hc, hx, hy⟩ : Ac) = ⟨hc', hx', hy'⟩) && (decide (ad = ad') && (decide (G.an = H.an) && (decide (G.pr = H.pr) && (decide (G.cs = H.cs) && decide (G.ds = H.ds))))))) := Lib.hid (by unfold OL.same; rw [hhg, hhg', had, had'])
  rw [hhg, hhg', had, had']
  obtain ⟨cn, hcn⟩ : ∃ n, G.cs.length = n := ⟨_, rfl⟩
  obtain ⟨an, han⟩ : ∃ n, G.an.length = n := ⟨_, rfl⟩
  obtain ⟨dn, hdn⟩ : ∃ n, G.ds.length = n := ⟨_, rfl⟩
  obtain ⟨pn, hpn⟩ : ∃ n, G.pr.length = n := ⟨_, rfl⟩
  obtain ⟨cn', hcn'⟩ : ∃ n, H.cs.length = n := ⟨_, rfl⟩
  obtain ⟨an', han'⟩ : ∃ n, H.an.length = n := ⟨_, rfl⟩
  obtain ⟨dn', hdn'⟩ : ∃ n, H.ds.length = n := ⟨_, rfl⟩
  obtain ⟨pn', hpn'⟩ : ∃ n, H.pr.length = n := ⟨_, rfl⟩
  rw [hcn, han, hdn, hpn, hcn', han', hdn', hpn'] at HH
  rw [hcn, han, hdn, hpn, hcn', han', hdn', hpn']
  clear h1 h2 h3 h4 k1 k2 k3 k4 hok hok' hhg hhg' had had' hcn han hdn hpn hcn' han' hdn' hpn'
  have x0 := heap_alloc_new W (.cells #[.slice ca cn ck, .slice aa an ak, .int .i64 hc, .int .i64 hx, .int .i64 hy, .int .i64 ad, .slice da dn dk, .slice pa pn pk] 34)
  have x1 := heap_alloc_new (W.alloc (.cells #[.slice ca cn ck, .slice aa an ak, .int .i64 hc, .int .i64 hx, .int .i64 hy, .int .i64 ad, .slice da dn dk, .slice pa pn pk] 34)) (.cells #[.slice ca' cn' ck', .slice aa' an' ak', .int .i64 hc', .int .i64 hx', .int .i64 hy', .int .i64 ad', .slice da' dn' dk', .slice pa' pn' pk'] 34)
  have bb := balloc (Below.refl _ (W.alloc (.cells #[.slice ca cn ck, .slice aa an ak, .int .i64 hc, .int .i64 hx, .int .i64 hy, .int .i64 ad, .slice da dn dk, .slice pa pn pk] 34))) (.cells #[.slice ca' cn' ck', .slice aa' an' ak', .int .i64 hc', .int .i64 hx', .int .i64 hy', .int .i64 ad', .slice da' dn' dk', .slice pa' pn' pk'] 34)
  have hb1 := balloc (balloc (Below.refl _ W) (.cells #[.slice ca cn ck, .slice aa an ak, .int .i64 hc, .int .i64 hx, .int .i64 hy, .int .i64 ad, .slice da dn dk, .slice pa pn pk] 34)) (.cells #[.slice ca' cn' ck', .slice aa' an' ak', .int .i64 hc', .int .i64 hx', .int .i64 hy', .int .i64 ad', .slice da' dn' dk', .slice pa' pn' pk'] 34)
  simp only [World.size_alloc] at x1 bb
  obtain ⟨W1, hW1⟩ : ∃ W1, (W.alloc (.cells #[.slice ca cn ck, .slice aa an ak, .int .i64 hc, .int .i64 hx, .int .i64 hy, .int .i64 ad, .slice da dn dk, .slice pa pn pk] 34)).alloc (.cells #[.slice ca' cn' ck', .slice aa' an' ak', .int .i64 hc', .int .i64 hx', .int .i64 hy', .int .i64 ad', .slice da' dn' dk', .slice pa' pn' pk'] 34) = W1 := ⟨_, rfl⟩
  rw [hW1] at x1 bb hb1
  rw [hB] at x0 x1 bb
  have HB1 := Lib.hid hb1
  have x0' := (bb.block B (by omega)).trans x0
  have HGA : Hid (∀ U, Below W1.heap.size W1 U → U.heap[B]? = some (.cells #[.slice ca cn ck, .slice aa an ak, .int .i64 hc, .int .i64 hx, .int .i64 hy, .int .i64 ad, .slice da dn dk, .slice pa pn pk] 34)) := Lib.hid fun U hU => (hU.block _ (Array.getElem?_eq_some_iff.1 x0').1).trans x0'
  have HGB : Hid (∀ U, Below W1.heap.size W1 U → U.heap[B + 1]? = some (.cells #[.slice ca' cn' ck', .slice aa' an' ak', .int .i64 hc', .int .i64 hx', .int .i64 hy', .int .i64 ad', .slice da' dn' dk', .slice pa' pn' pk'] 34)) := Lib.hid fun U hU => (hU.block _ (Array.getElem?_eq_some_iff.1 x1).1).trans x1
  have HC0 : Hid (∀ U, Below W1.heap.size W1 U → Calls Try.prog 50 #[.slice aa an ak, .slice aa' an' ak'] U fun e w' => e = .returned (.bool (decide (G.an = H.an))) ∧ Below U.heap.size U w') := Lib.hid fun U hU => eqs_ac U _ _ G.an H.an (HH.out.2.1.keep (bnext HB1.out hU)) (HH.out.2.2.2.2.2.1.keep (bnext HB1.out hU)) hbd.out.2.2.2.2.2.2.1.1 hbd.out.2.2.2.2.2.2.1.2
  have HC1 : Hid (∀ U, Below W1.heap.size W1 U → Calls Try.prog 51 #[.slice pa pn pk, .slice pa' pn' pk'] U fun e w' => e = .returned (.bool (decide (G.pr = H.pr))) ∧ Below U.heap.size U w') := Lib.hid fun U hU => eqs_in U _ _ G.pr H.pr (HH.out.2.2.2.1.keep (bnext HB1.out hU)) (HH.out.2.2.2.2.2.2.2.keep (bnext HB1.out hU)) hbd.out.2.2.2.2.2.2.2.1 hbd.out.2.2.2.2.2.2.2.2
  have HC2 : Hid (∀ U, Below W1.heap.size W1 U → Calls Try.prog 52 #[.slice ca cn ck, .slice ca' cn' ck', .func (.func 53) #[] #[]] U fun e w' => e = .returned (.bool (decide (G.cs = H.cs))) ∧ Below U.heap.size U w') := Lib.hid fun U hU => eqf_c U _ _ G.cs H.cs (HH.out.1.keep (bnext HB1.out hU)) (HH.out.2.2.2.2.1.keep (bnext HB1.out hU)) hbd.out.2.2.2.2.1.1 hbd.out.2.2.2.2.1.2 hbd.out.1 hbd.out.2.1
  have HC3 : Hid (∀ U, Below W1.heap.size W1 U → Calls Try.prog 54 #[.slice da dn dk, .slice da' dn' dk', .func (.func 55) #[] #[]] U fun e w' => e = .returned (.bool (decide (G.ds = H.ds))) ∧ Below U.heap.size U w') := Lib.hid fun U hU => eqf_d U _ _ G.ds H.ds (HH.out.2.2.1.keep (bnext HB1.out hU)) (HH.out.2.2.2.2.2.2.1.keep (bnext HB1.out hU)) hbd.out.2.2.2.2.2.1.1 hbd.out.2.2.2.2.2.1.2 hbd.out.2.2.1 hbd.out.2.2.2.1
  clear x0 x1 bb hb1 x0'
  have a1 : W1.cell? ⟨B, 1, none⟩ = some (.slice aa an ak) := nd_cell (HGA.out W1 (Below.refl _ _)) rfl
  have b1 : W1.cell? ⟨B + 1, 1, none⟩ = some (.slice aa' an' ak') := nd_cell (HGB.out W1 (Below.refl _ _)) rfl
  have a2 : W1.cell? ⟨B, 2, none⟩ = some (.int .i64 hc) := nd_cell (HGA.out W1 (Below.refl _ _)) rfl
  have b2 : W1.cell? ⟨B + 1, 2, none⟩ = some (.int .i64 hc') := nd_cell (HGB.out W1 (Below.refl _ _)) rfl
  have a3 : W1.cell? ⟨B, 3, none⟩ = some (.int .i64 hx) := nd_cell (HGA.out W1 (Below.refl _ _)) rfl
  have b3 : W1.cell? ⟨B + 1, 3, none⟩ = some (.int .i64 hx') := nd_cell (HGB.out W1 (Below.refl _ _)) rfl
  have a4 : W1.cell? ⟨B, 4, none⟩ = some (.int .i64 hy) := nd_cell (HGA.out W1 (Below.refl _ _)) rfl
  have b4 : W1.cell? ⟨B + 1, 4, none⟩ = some (.int .i64 hy') := nd_cell (HGB.out W1 (Below.refl _ _)) rfl
  have a5 : W1.cell? ⟨B, 5, none⟩ = some (.int .i64 ad) := nd_cell (HGA.out W1 (Below.refl _ _)) rfl
  have b5 : W1.cell? ⟨B + 1, 5, none⟩ = some (.int .i64 ad') := nd_cell (HGB.out W1 (Below.refl _ _)) rfl
  go_enter Try.func20, Try.ntmps20
  go_upto_region 1 with fail
  try rw [show W.heap.size + 1 = B + 1 by rw [hB]]
  try rw [hB]
  try rw [hW1]
  clear hW1 hB
  by_cases e1 : (⟨hc, hx, hy⟩ : Ac) = ⟨hc', hx', hy'⟩
  · have hq : ∀ w : World, (binOp .eql 30 (.agg #[.int .i64 hc, .int .i64 hx, .int .i64 hy]) (.agg #[.int .i64 hc', .int .i64 hx', .int .i64 hy'])).run Try.prog w = .ok (.bool true) w := fun w => by rw [eq_ac w ⟨hc, hx, hy⟩ ⟨hc', hx', hy'⟩, decide_eq_true e1]
    rw [decide_eq_true e1, Bool.true_and] at HV
    clear e1
    by_cases e2 : ad = ad'
    · have hp : (ad == ad') = true := by simp [e2]
      rw [decide_eq_true e2, Bool.true_and] at HV
      clear e2
      go_wp2_with fail
      go_at_call 50
      refine (HC0.out W1 (Below.refl _ _)).mono ?_
      rintro e w1 ⟨rfl, hb0⟩
      have HW0 := Lib.hid (bnext (Below.refl _ _) hb0)
      clear hb0 HC0
      clear a1 b1 a2 b2 a3 b3 a4 b4 a5 b5
      obtain ⟨q0, hq0⟩ : ∃ q, decide (G.an = H.an) = q := ⟨_, rfl⟩
      rw [hq0] at HV ⊢
      clear hq0
      cases q0 with
      | false =>
        have HV' : Hid (OL.same G H = false) := Lib.hid (by rw [HV.out]; simp)
        go_wp2
        go_ret
        exact ⟨by rw [HV'.out]; rfl, bnext HB1.out HW0.out⟩
      | true =>
        simp only [Bool.true_and] at HV
        have a7 : w1.cell? ⟨B, 7, none⟩ = some (.slice pa pn pk) := nd_cell (HGA.out w1 HW0.out) rfl
        have b7 : w1.cell? ⟨B + 1, 7, none⟩ = some (.slice pa' pn' pk') := nd_cell (HGB.out w1 HW0.out) rfl
        go_wp2_with fail
        go_at_call 51
        refine (HC1.out w1 HW0.out).mono ?_
        rintro e w2 ⟨rfl, hb1⟩
        have HW1 := Lib.hid (bnext HW0.out hb1)
        clear hb1 HC1
        clear a7 b7
        obtain ⟨q1, hq1⟩ : ∃ q, decide (G.pr = H.pr) = q := ⟨_, rfl⟩
        rw [hq1] at HV ⊢
        clear hq1
        cases q1 with
        | false =>
          have HV' : Hid (OL.same G H = false) := Lib.hid (by rw [HV.out]; simp)
          go_wp2
          go_ret
          exact ⟨by rw [HV'.out]; rfl, bnext HB1.out HW1.out⟩
        | true =>
          simp only [Bool.true_and] at HV
          have a0 : w2.cell? ⟨B, 0, none⟩ = some (.slice ca cn ck) := nd_cell (HGA.out w2 HW1.out) rfl
          have b0 : w2.cell? ⟨B + 1, 0, none⟩ = some (.slice ca' cn' ck') := nd_cell (HGB.out w2 HW1.out) rfl
          go_wp2_with fail
          go_at_call 52
          refine (HC2.out w2 HW1.out).mono ?_
          rintro e w3 ⟨rfl, hb2⟩
          have HW2 := Lib.hid (bnext HW1.out hb2)
          clear hb2 HC2
          clear a0 b0
          obtain ⟨q2, hq2⟩ : ∃ q, decide (G.cs = H.cs) = q := ⟨_, rfl⟩
          rw [hq2] at HV ⊢
          clear hq2
          cases q2 with
          | false =>
            have HV' : Hid (OL.same G H = false) := Lib.hid (by rw [HV.out]; simp)
            go_wp2
            go_ret
            exact ⟨by rw [HV'.out]; rfl, bnext HB1.out HW2.out⟩
          | true =>
            simp only [Bool.true_and] at HV
            have a6 : w3.cell? ⟨B, 6, none⟩ = some (.slice da dn dk) := nd_cell (HGA.out w3 HW2.out) rfl
            have b6 : w3.cell? ⟨B + 1, 6, none⟩ = some (.slice da' dn' dk') := nd_cell (HGB.out w3 HW2.out) rfl
            go_wp2_with fail
            go_at_call 54
            refine (HC3.out w3 HW2.out).mono ?_
            rintro e w4 ⟨rfl, hb3⟩
            have HW3 := Lib.hid (bnext HW2.out hb3)
            clear hb3 HC3
            clear a6 b6
            go_wp2
            go_ret
            exact ⟨by rw [HV.out]; rfl, bnext HB1.out HW3.out⟩
    · have hp : (ad == ad') = false := by simp [e2]
      have HV' : Hid (OL.same G H = false) := Lib.hid (by rw [HV.out, decide_eq_false e2]; rfl)
      clear e2
      go_wp2
      go_ret
      exact ⟨by rw [HV'.out]; rfl, HB1.out⟩
  · have hq : ∀ w : World, (binOp .eql 30 (.agg #[.int .i64 hc, .int .i64 hx, .int .i64 hy]) (.agg #[.int .i64 hc', .int .i64 hx', .int .i64 hy'])).run Try.prog w = .ok (.bool false) w := fun w => by rw [eq_ac w ⟨hc, hx, hy⟩ ⟨hc', hx', hy'⟩, decide_eq_false e1]
    have HV' : Hid (OL.same G H = false) := Lib.hid (by rw [HV.out, decide_eq_false e1]; rfl)
    clear e1
    go_wp2
    go_ret
    exact ⟨by rw [HV'.out]; rfl, HB1.out⟩
end Go.Proofs.Ytanppbdlcinpfaa
end
