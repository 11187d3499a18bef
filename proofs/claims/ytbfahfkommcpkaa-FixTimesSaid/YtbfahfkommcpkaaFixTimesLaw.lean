/- For every two pairs of int64 Times returns what the reference returns: FixTimes returns true. -/
import Derived.Test.YtbfahfkommcpkaaRows
import Derived.Test.YtbfahfkommcpkaaFixOpen
import Derived.Deep.RegionWith
import Derived.Deep.RegionHeld3
import Derived.Deep.DeepCutAuto
import Derived.Test.YtbfahfkommcpkaaFixMade
namespace Go.Proofs.Ytbfahfkommcpkaa.fixTimes
open Go.ChangeShapes Go.WideShapes Go.ChangeAt Go.RowKit Go.Joins Go.Deep
set_option linter.unusedVariables false

theorem drew_cell (w : World) (a : Addr) : w.drew.cell? a = w.cell? a := rfl
def Old (w wx : World) (a1 b1 a2 b2 : Int) : Prop :=
  wx.cell? ⟨w.heap.size, 0, none⟩ = some (.int .i64 a1) ∧ wx.cell? ⟨w.heap.size, 1, none⟩ = some (.int .i64 b1) ∧ wx.cell? ⟨w.heap.size + 1, 0, none⟩ = some (.int .i64 a2) ∧ wx.cell? ⟨w.heap.size + 1, 1, none⟩ = some (.int .i64 b2)
def Pair (g : Nat) (x y : Int) (wx : World) : Prop := g < wx.heap.size ∧ wx.cell? ⟨g, 0, none⟩ = some (.int .i64 x) ∧ wx.cell? ⟨g, 1, none⟩ = some (.int .i64 y)
/-- What holds behind the statement that makes the two right scalars. -/
def Cut2 (w : World) (a1 b1 a2 b2 N0 D0 N1 D1 : Int) (s6 s7 : Value) (wx : World) : Prop :=
  ∃ g h : Nat, s6 = .pointer (some ⟨g, 0, none⟩) ∧ s7 = .pointer (some ⟨h, 0, none⟩) ∧ Pair g N0 D0 wx ∧ Pair h N1 D1 wx ∧ Old w wx a1 b1 a2 b2 ∧ w.heap.size + 1 < wx.heap.size ∧ Below w.heap.size w wx
def Row (g : Nat) (xs : List Int) (wx : World) : Prop := g < wx.heap.size ∧ ∀ j, j < 16 → wx.cell? ⟨g, j, none⟩ = some (.int .i64 (xs.getD j 0))
theorem row_new (cs : Array Value) (xs : List Int) (t : TypeId) (w : World) (h : cs = (xs.map (Value.int .i64)).toArray) (hl : xs.length = 16) : Row w.heap.size xs (w.alloc (.cells cs t)) := by
  refine ⟨by simp, fun j hj => ?_⟩
  rw [World.cell?_alloc_at _ _ _ _ rfl, h]
  simp [List.getD, List.getElem?_eq_getElem (show j < xs.length by omega)]
theorem Row.below {g : Nat} {xs : List Int} {w w' : World} (h : Row g xs w) (hb : Below w.heap.size w w') : Row g xs w' :=
  ⟨Nat.lt_of_lt_of_le h.1 hb.size, fun j hj => (hb.cell (p := ⟨g, j, none⟩) h.1).trans (h.2 j hj)⟩

set_option maxRecDepth 100000 in
set_option maxHeartbeats 1000000 in
theorem walk (a0 : Int) (b0 : Int) (a1 : Int) (b1 : Int) (wa0 : (Lit.int .i64 a0).wf = true) (wb0 : (Lit.int .i64 b0).wf = true) (wa1 : (Lit.int .i64 a1).wf = true) (wb1 : (Lit.int .i64 b1).wf = true) (w : World) :
    Calls Try.prog 6 #[.agg #[.int .i64 a0, .int .i64 b0], .agg #[.int .i64 a1, .int .i64 b1]] w fun e w' => e = .returned (.bool true) ∧ Below w.heap.size w w' := by
  go_enter Try.func6, Try.ntmps6
  go_wp2_with (go_at_call 11; refine (sanity_any _).mono ?_; rintro e w1 ⟨rfl, hb1⟩; obtain ⟨hc1, hf1⟩ := bcell hb1; have hz1 := hb1.size; (try simp at hz1); have hv1 : w.heap.size < w1.heap.size := (by omega); have hu1 : w.heap.size + 1 < w1.heap.size := (by omega))
  have q0 : w1.cell? ⟨w.heap.size, 0, none⟩ = some (.int .i64 a0) := by rw [hc1 _ _ (by simp; omega)]; rw [World.cell?_alloc_past _ _ _ (by simp), World.cell?_alloc_at _ _ _ _ (by simp)]; rfl
  have q1 : w1.cell? ⟨w.heap.size, 1, none⟩ = some (.int .i64 b0) := by rw [hc1 _ _ (by simp; omega)]; rw [World.cell?_alloc_past _ _ _ (by simp), World.cell?_alloc_at _ _ _ _ (by simp)]; rfl
  have q2 : w1.cell? ⟨w.heap.size + 1, 0, none⟩ = some (.int .i64 a1) := by rw [hc1 _ _ (by simp; done)]; rw [World.cell?_alloc_at _ _ _ _ (by simp)]; rfl
  have q3 : w1.cell? ⟨w.heap.size + 1, 1, none⟩ = some (.int .i64 b1) := by rw [hc1 _ _ (by simp; done)]; rw [World.cell?_alloc_at _ _ _ _ (by simp)]; rfl
  have hbw : Below w.heap.size w w1 := by repeat' (first | exact Below.refl _ _ | (with_reducible assumption) | (refine bnext ?_ (by with_reducible assumption)) | (refine balloc ?_ _) | (refine below_drewN ?_ _) | (refine Below.drew ?_) | (refine bset ?_ (by simp; try omega) _))
  clear hc1 hf1 hb1 wa0 wb0 wa1 wb1
  go_cut [6, 7] (fun s6 s7 wx => Cut2 w a0 b0 a1 b1 (FP.madeN a0 b0) (FP.madeD a0 b0) (FP.madeN a1 b1) (FP.madeD a1 b1) s6 s7 wx)
  case first =>
    go_region_held3 (fun w' => w'.cell? ⟨w.heap.size, 0, none⟩ = some (.int .i64 a0) ∧ w'.cell? ⟨w.heap.size, 1, none⟩ = some (.int .i64 b0) ∧ w'.cell? ⟨w.heap.size + 1, 0, none⟩ = some (.int .i64 a1) ∧ w'.cell? ⟨w.heap.size + 1, 1, none⟩ = some (.int .i64 b1))
      (exact ⟨(Below.cell (B := w1.heap.size) (w := w1) (p := ⟨w.heap.size, 0, none⟩) (by repeat' (first | exact Below.refl _ _ | (with_reducible assumption) | (refine bnext ?_ (by with_reducible assumption)) | (refine balloc ?_ _) | (refine below_drewN ?_ _) | (refine Below.drew ?_) | (refine bset ?_ (by simp; try omega) _))) hv1).trans q0, (Below.cell (B := w1.heap.size) (w := w1) (p := ⟨w.heap.size, 1, none⟩) (by repeat' (first | exact Below.refl _ _ | (with_reducible assumption) | (refine bnext ?_ (by with_reducible assumption)) | (refine balloc ?_ _) | (refine below_drewN ?_ _) | (refine Below.drew ?_) | (refine bset ?_ (by simp; try omega) _))) hv1).trans q1, (Below.cell (B := w1.heap.size) (w := w1) (p := ⟨w.heap.size + 1, 0, none⟩) (by repeat' (first | exact Below.refl _ _ | (with_reducible assumption) | (refine bnext ?_ (by with_reducible assumption)) | (refine balloc ?_ _) | (refine below_drewN ?_ _) | (refine Below.drew ?_) | (refine bset ?_ (by simp; try omega) _))) hu1).trans q2, (Below.cell (B := w1.heap.size) (w := w1) (p := ⟨w.heap.size + 1, 1, none⟩) (by repeat' (first | exact Below.refl _ _ | (with_reducible assumption) | (refine bnext ?_ (by with_reducible assumption)) | (refine balloc ?_ _) | (refine below_drewN ?_ _) | (refine Below.drew ?_) | (refine bset ?_ (by simp; try omega) _))) hu1).trans q3⟩)
      ((go_at_call 23; refine (made_eq _ _ _).mono ?_; rintro e w' ⟨rfl, rfl⟩))
    all_goals (try go_wp2_with fail)
    all_goals go_meet
    all_goals exact ⟨_, _, rfl, rfl, ⟨(by go_size), (by first | (refine (World.cell?_alloc_at _ _ _ _ ?_).trans ?_; (focus go_size); rfl) | (refine (World.cell?_alloc_past _ _ _ ?_).trans ?_; (focus go_size); refine (World.cell?_alloc_at _ _ _ _ ?_).trans ?_; (focus go_size); rfl) | (refine (World.cell?_alloc_past _ _ _ ?_).trans ?_; (focus go_size); refine (World.cell?_alloc_past _ _ _ ?_).trans ?_; (focus go_size); refine (World.cell?_alloc_at _ _ _ _ ?_).trans ?_; (focus go_size); rfl) | (refine (World.cell?_alloc_past _ _ _ ?_).trans ?_; (focus go_size); refine (World.cell?_alloc_past _ _ _ ?_).trans ?_; (focus go_size); refine (World.cell?_alloc_past _ _ _ ?_).trans ?_; (focus go_size); refine (World.cell?_alloc_at _ _ _ _ ?_).trans ?_; (focus go_size); rfl)), (by first | (refine (World.cell?_alloc_at _ _ _ _ ?_).trans ?_; (focus go_size); rfl) | (refine (World.cell?_alloc_past _ _ _ ?_).trans ?_; (focus go_size); refine (World.cell?_alloc_at _ _ _ _ ?_).trans ?_; (focus go_size); rfl) | (refine (World.cell?_alloc_past _ _ _ ?_).trans ?_; (focus go_size); refine (World.cell?_alloc_past _ _ _ ?_).trans ?_; (focus go_size); refine (World.cell?_alloc_at _ _ _ _ ?_).trans ?_; (focus go_size); rfl) | (refine (World.cell?_alloc_past _ _ _ ?_).trans ?_; (focus go_size); refine (World.cell?_alloc_past _ _ _ ?_).trans ?_; (focus go_size); refine (World.cell?_alloc_past _ _ _ ?_).trans ?_; (focus go_size); refine (World.cell?_alloc_at _ _ _ _ ?_).trans ?_; (focus go_size); rfl))⟩, ⟨(by go_size), (by first | (refine (World.cell?_alloc_at _ _ _ _ ?_).trans ?_; (focus go_size); rfl) | (refine (World.cell?_alloc_past _ _ _ ?_).trans ?_; (focus go_size); refine (World.cell?_alloc_at _ _ _ _ ?_).trans ?_; (focus go_size); rfl) | (refine (World.cell?_alloc_past _ _ _ ?_).trans ?_; (focus go_size); refine (World.cell?_alloc_past _ _ _ ?_).trans ?_; (focus go_size); refine (World.cell?_alloc_at _ _ _ _ ?_).trans ?_; (focus go_size); rfl) | (refine (World.cell?_alloc_past _ _ _ ?_).trans ?_; (focus go_size); refine (World.cell?_alloc_past _ _ _ ?_).trans ?_; (focus go_size); refine (World.cell?_alloc_past _ _ _ ?_).trans ?_; (focus go_size); refine (World.cell?_alloc_at _ _ _ _ ?_).trans ?_; (focus go_size); rfl)), (by first | (refine (World.cell?_alloc_at _ _ _ _ ?_).trans ?_; (focus go_size); rfl) | (refine (World.cell?_alloc_past _ _ _ ?_).trans ?_; (focus go_size); refine (World.cell?_alloc_at _ _ _ _ ?_).trans ?_; (focus go_size); rfl) | (refine (World.cell?_alloc_past _ _ _ ?_).trans ?_; (focus go_size); refine (World.cell?_alloc_past _ _ _ ?_).trans ?_; (focus go_size); refine (World.cell?_alloc_at _ _ _ _ ?_).trans ?_; (focus go_size); rfl) | (refine (World.cell?_alloc_past _ _ _ ?_).trans ?_; (focus go_size); refine (World.cell?_alloc_past _ _ _ ?_).trans ?_; (focus go_size); refine (World.cell?_alloc_past _ _ _ ?_).trans ?_; (focus go_size); refine (World.cell?_alloc_at _ _ _ _ ?_).trans ?_; (focus go_size); rfl))⟩, ⟨(Below.cell (B := w1.heap.size) (w := w1) (p := ⟨w.heap.size, 0, none⟩) (by repeat' (first | exact Below.refl _ _ | (with_reducible assumption) | (refine bnext ?_ (by with_reducible assumption)) | (refine balloc ?_ _) | (refine below_drewN ?_ _) | (refine Below.drew ?_) | (refine bset ?_ (by simp; try omega) _))) hv1).trans q0, (Below.cell (B := w1.heap.size) (w := w1) (p := ⟨w.heap.size, 1, none⟩) (by repeat' (first | exact Below.refl _ _ | (with_reducible assumption) | (refine bnext ?_ (by with_reducible assumption)) | (refine balloc ?_ _) | (refine below_drewN ?_ _) | (refine Below.drew ?_) | (refine bset ?_ (by simp; try omega) _))) hv1).trans q1, (Below.cell (B := w1.heap.size) (w := w1) (p := ⟨w.heap.size + 1, 0, none⟩) (by repeat' (first | exact Below.refl _ _ | (with_reducible assumption) | (refine bnext ?_ (by with_reducible assumption)) | (refine balloc ?_ _) | (refine below_drewN ?_ _) | (refine Below.drew ?_) | (refine bset ?_ (by simp; try omega) _))) hu1).trans q2, (Below.cell (B := w1.heap.size) (w := w1) (p := ⟨w.heap.size + 1, 1, none⟩) (by repeat' (first | exact Below.refl _ _ | (with_reducible assumption) | (refine bnext ?_ (by with_reducible assumption)) | (refine balloc ?_ _) | (refine below_drewN ?_ _) | (refine Below.drew ?_) | (refine bset ?_ (by simp; try omega) _))) hu1).trans q3⟩, (by go_size), by repeat' (first | exact Below.refl _ _ | (with_reducible assumption) | (refine bnext ?_ (by with_reducible assumption)) | (refine balloc ?_ _) | (refine below_drewN ?_ _) | (refine Below.drew ?_) | (refine bset ?_ (by simp; try omega) _))⟩
  case rest =>
    obtain ⟨g, h, rfl, rfl, ⟨hgs, c0, c1⟩, ⟨hhs, d0, d1⟩, ⟨p0, p1, p2, p3⟩, hsz, hbd⟩ := hcut
    clear q0 q1 q2 q3 hbw hu1 hv1 hz1
    generalize FP.madeN a0 b0 = N0 at *
    generalize FP.madeD a0 b0 = D0 at *
    generalize FP.madeN a1 b1 = N1 at *
    generalize FP.madeD a1 b1 = D1 at *
    rename World => wd
    go_wp2_with fail
    go_loopw [39] (fun i wr => ∃ k : Nat, k ≤ 4 ∧ i = .int .i64 k ∧ Row wd.heap.size [a0, b0, a1, b1, a0, b0, N1, D1, N0, D0, a1, b1, N0, D0, N1, D1] wr ∧ Below w.heap.size w wr) (fun i _ => 4 - (intOf i).toNat)
    case atStart => exact ⟨0, Nat.zero_le _, rfl, row_new _ _ _ _ rfl rfl, by repeat' (first | exact Below.refl _ _ | (with_reducible assumption) | (refine bnext ?_ (by with_reducible assumption)) | (refine balloc ?_ _) | (refine below_drewN ?_ _) | (refine Below.drew ?_) | (refine bset ?_ (by simp; try omega) _))⟩
    case round =>
      obtain ⟨k, hk, rfl, hr, hbr⟩ := hrel
      by_cases hk4 : k < 4
      · have hxs : ∃ v0 v1 v2 v3 : Int, wr.cell? ⟨wd.heap.size, k * 4, none⟩ = some (.int .i64 v0) ∧ wr.cell? ⟨wd.heap.size, k * 4 + 1, none⟩ = some (.int .i64 v1) ∧ wr.cell? ⟨wd.heap.size, k * 4 + 2, none⟩ = some (.int .i64 v2) ∧ wr.cell? ⟨wd.heap.size, k * 4 + 3, none⟩ = some (.int .i64 v3) := by
          obtain rfl | rfl | rfl | rfl : k = 0 ∨ k = 1 ∨ k = 2 ∨ k = 3 := by omega
          · exact ⟨_, _, _, _, hr.2 0 (by omega), hr.2 1 (by omega), hr.2 2 (by omega), hr.2 3 (by omega)⟩
          · exact ⟨_, _, _, _, hr.2 4 (by omega), hr.2 5 (by omega), hr.2 6 (by omega), hr.2 7 (by omega)⟩
          · exact ⟨_, _, _, _, hr.2 8 (by omega), hr.2 9 (by omega), hr.2 10 (by omega), hr.2 11 (by omega)⟩
          · exact ⟨_, _, _, _, hr.2 12 (by omega), hr.2 13 (by omega), hr.2 14 (by omega), hr.2 15 (by omega)⟩
        obtain ⟨v0, v1, v2, v3, y0, y1, y2, y3⟩ := hxs
        have HR := Lib.hid hr
        clear hr c0 c1 d0 d1 p0 p1 p2 p3
        go_wp2_with (first
          | (go_at_call 26; refine (times_any _ _ _ _ _).mono ?_; rintro e w8 ⟨rfl, hb8⟩; obtain ⟨hc8, hf8⟩ := bcell hb8; have hz8 := hb8.size; (try simp at hz8); have hv8 : wr.heap.size < w8.heap.size := (by omega))
          | (go_at_call 27; refine (rtimes_any _ _ _ _ _).mono ?_; rintro e w9 ⟨rfl, hb9⟩; obtain ⟨hc9, hf9⟩ := bcell hb9; have hz9 := hb9.size; (try simp at hz9); have hv9 : wr.heap.size < w9.heap.size := (by omega); have hx9 : w8.heap.size < w9.heap.size := (by omega)))
        have hB : Below wr.heap.size wr w9 := by repeat' (first | exact Below.refl _ _ | (with_reducible assumption) | (refine bnext ?_ (by with_reducible assumption)) | (refine balloc ?_ _) | (refine below_drewN ?_ _) | (refine Below.drew ?_) | (refine bset ?_ (by simp; try omega) _))
        go_roundw
        case rel => exact ⟨k + 1, by omega, by go_num, (HR.out.below hB).below ((Below.refl _ _).alloc (Nat.le_refl _) _), balloc (hbr.trans (hB.mono hbr.size)) _⟩
        case measure => simp [intOf]; omega
      · go_wp2
        go_ret
        exact ⟨rfl, by repeat' (first | exact Below.refl _ _ | (with_reducible assumption) | (refine bnext ?_ (by with_reducible assumption)) | (refine balloc ?_ _) | (refine below_drewN ?_ _) | (refine Below.drew ?_) | (refine bset ?_ (by simp; try omega) _))⟩

set_option maxRecDepth 100000 in
theorem lifted (os : Os) (started : os.Started) (H : Type) (enc : TypeId × Value → H) :
    ReturnsInHanded {} Try.checked os 6 .any (Rows.fixTimesSpec.pre6 enc Try.prog Try.f6 Rows.fixTimesRow.domain false) (Rows.fixTimesSpec.post enc Try.prog Try.f6 false true false false) := by
  refine returnsInHanded_of_change (C := Try.checked) ownKnob_none started (by kernel_rfl) Try.func6
    (ChangeSpec.witness6 (enc := enc) (C := Try.checked) false ⟨#[], #[.agg #[.int .i64 0, .int .i64 0], .agg #[.int .i64 0, .int .i64 0]], []⟩ 8 (by kernel_rfl) (by kernel_rfl) (by kernel_rfl) (by kernel_rfl)) ?_
  intro W base args ds gs before hval0 hW hcnd _
  have hval : ∀ (j : Nat) t v, Try.f6.params[j]? = some t → args[j]? = some v → Value.okWide Try.prog W .any base t v := hval0
  have hW' := hW
  obtain ⟨p, q, hA0, hV, rfl, hfz, hnd⟩ := hW
  have hA : DataW.TrodAll enc Try.prog W 0 (fun _ => true) true Try.f6.params.toList args.toList ds p := hA0
  rw [Try.params6] at hA hval
  obtain ⟨v0, vs0, d0, ds0, p0, q0, hargs, rfl, rfl, h0, r0⟩ := trodAll_cons hA
  obtain ⟨v1, vs1, d1, ds1, p1, q1, rfl, rfl, rfl, h1, r1⟩ := trodAll_cons r0
  obtain ⟨rfl, rfl, rfl⟩ := trodAll_nil r1
  obtain rfl : args = #[v0, v1] := by cases args; simp_all
  obtain ⟨rfl, rfl⟩ := trodVars_none hV
  have k0 := h0
  have lt0 : ∀ x ∈ p0, x.block < W.heap.size := by obtain ⟨m, hm⟩ := k0; exact DataW.trod_lt m _ _ _ hm
  have k1 := h1
  have lt1 : ∀ x ∈ p1, x.block < W.heap.size := by obtain ⟨m, hm⟩ := k1; exact DataW.trod_lt m _ _ _ hm
  obtain ⟨a0, b0, rfl, wa0, wb0⟩ := open_pair Try.underlying31 (by kernel_rfl) (by kernel_rfl) rfl rfl Try.underlying3 (hval 0 31 v0 rfl rfl) h0
  obtain ⟨a1, b1, rfl, wa1, wb1⟩ := open_pair Try.underlying31 (by kernel_rfl) (by kernel_rfl) rfl rfl Try.underlying3 (hval 1 31 v1 rfl rfl) h1
  clear hA0 hval0
  refine (walk a0 b0 a1 b1 wa0 wb0 wa1 wb1 W).mono fun e W' ⟨he, bel⟩ => ?_
  subst he
  exact ⟨_, rfl, _, _, _, [], _, [], hW', trodAll_mk1 (shut_bool Try.underlying4 _), (trodAll_cons_mk (Below.trod laidOut (by kernel_rfl) (of_decide_eq_true (by kernel_rfl)) k0 bel lt0) (trodAll_cons_mk (Below.trod laidOut (by kernel_rfl) (of_decide_eq_true (by kernel_rfl)) k1 bel lt1) trodAll_mk0)), rfl, bel.frame _, fun h => by cases h⟩

theorem over : Rows.fixTimesRow.holds Try.pinned (OpenSpec.ofChange Rows.fixTimesSpec) :=
  OpenClaim.holds_of_wide 6 Try.f6 rfl rfl rfl rfl rfl rfl rfl ⟨rfl, rfl, rfl, rfl, rfl⟩ rfl rfl rfl rfl rfl (by kernel_rfl) Try.func6 (by kernel_rfl)
    (of_decide_eq_true (by kernel_rfl)) (by unfold Func.isWrapper; first | (rw [if_pos (by decide +kernel)]; kernel_rfl) | (rw [if_neg (by decide +kernel)]; exact ⟨rfl, rfl⟩))
    (fun os started H enc _ => lifted os started H enc)

end Go.Proofs.Ytbfahfkommcpkaa.fixTimes
namespace Go.Proofs.Ytbfahfkommcpkaa
theorem fixTimes_proved : Rows.FixTimesSaid := fixTimes.over
#print axioms fixTimes_proved
end Go.Proofs.Ytbfahfkommcpkaa
