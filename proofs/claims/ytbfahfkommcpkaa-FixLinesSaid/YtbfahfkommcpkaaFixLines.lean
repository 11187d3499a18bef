/- For every place and every two points of int64 Line returns what the reference returns: FixLines returns true. -/
import Derived.Test.YtbfahfkommcpkaaRows
import Derived.Test.YtbfahfkommcpkaaFixOpen
import Derived.Deep.RegionWith
import Derived.Deep.RegionHeld3
import Derived.Deep.DeepCutAuto
import Derived.IntWalk
namespace Go.Proofs.Ytbfahfkommcpkaa.fixLines
open Go.ChangeShapes Go.WideShapes Go.ChangeAt Go.RowKit Go.Joins Go.Deep
set_option linter.unusedVariables false

/-- The cells of the two points that came in, and those of the two that are made. -/
def Old (w wx : World) (a1 b1 a2 b2 : Int) : Prop :=
  wx.cell? ⟨w.heap.size, 0, none⟩ = some (.int .i64 a1) ∧ wx.cell? ⟨w.heap.size, 1, none⟩ = some (.int .i64 b1) ∧ wx.cell? ⟨w.heap.size + 1, 0, none⟩ = some (.int .i64 a2) ∧ wx.cell? ⟨w.heap.size + 1, 1, none⟩ = some (.int .i64 b2)
def Pair (g : Nat) (x y : Int) (wx : World) : Prop := g < wx.heap.size ∧ wx.cell? ⟨g, 0, none⟩ = some (.int .i64 x) ∧ wx.cell? ⟨g, 1, none⟩ = some (.int .i64 y)
def Cut2 (w : World) (a1 b1 a2 b2 A B : Int) (s8 : Value) (wx : World) : Prop :=
  ∃ g : Nat, s8 = .pointer (some ⟨g, 0, none⟩) ∧ w.heap.size + 1 < g ∧ Pair g A B wx ∧ Old w wx a1 b1 a2 b2 ∧ Below w.heap.size w wx
def Cut3 (w : World) (g : Nat) (a1 b1 a2 b2 A B C D : Int) (s9 : Value) (wx : World) : Prop :=
  ∃ h : Nat, s9 = .pointer (some ⟨h, 0, none⟩) ∧ g < h ∧ Pair g A B wx ∧ Pair h C D wx ∧ Old w wx a1 b1 a2 b2 ∧ Below w.heap.size w wx
def Row (g : Nat) (xs : List Int) (wx : World) : Prop := g < wx.heap.size ∧ ∀ j, j < 18 → wx.cell? ⟨g, j, none⟩ = some (.int .i64 (xs.getD j 0))
def Cut4 (w : World) (xs : List Int) (s59 s60 s61 : Value) (wx : World) : Prop :=
  ∃ g : Nat, s59 = .slice (some ⟨g, 0, none⟩) 3 3 ∧ s60 = .int .i64 3 ∧ s61 = .int .i64 0 ∧ Row g xs wx ∧ Below w.heap.size w wx
theorem row_new (cs : Array Value) (xs : List Int) (t : TypeId) (w : World) (h : cs = (xs.map (Value.int .i64)).toArray) (hl : xs.length = 18) : Row w.heap.size xs (w.alloc (.cells cs t)) := by
  refine ⟨by simp, fun j hj => ?_⟩
  rw [World.cell?_alloc_at _ _ _ _ rfl, h]
  simp [List.getD, List.getElem?_eq_getElem (show j < xs.length by omega)]
theorem Row.below {g : Nat} {xs : List Int} {w w' : World} (h : Row g xs w) (hb : Below w.heap.size w w') : Row g xs w' :=
  ⟨Nat.lt_of_lt_of_le h.1 hb.size, fun j hj => (hb.cell (p := ⟨g, j, none⟩) h.1).trans (h.2 j hj)⟩

set_option maxRecDepth 100000 in
set_option maxHeartbeats 1000000 in
theorem walk (a0 : Int) (a1 : Int) (b1 : Int) (a2 : Int) (b2 : Int) (wa0 : (Lit.int .i64 a0).wf = true) (wa1 : (Lit.int .i64 a1).wf = true) (wb1 : (Lit.int .i64 b1).wf = true) (wa2 : (Lit.int .i64 a2).wf = true) (wb2 : (Lit.int .i64 b2).wf = true) (w : World) :
    Calls Try.prog 9 #[.int .i64 a0, .agg #[.int .i64 a1, .int .i64 b1], .agg #[.int .i64 a2, .int .i64 b2]] w fun e w' => e = .returned (.bool true) ∧ Below w.heap.size w w' := by
  obtain ⟨b00, b01⟩ := bd_i64 wa0
  obtain ⟨b10, b11⟩ := bd_i64 wa1
  have r1 := Int.emod_lt_of_pos a0 (show (0 : Int) < 72 by omega)
  have r0 := Int.emod_nonneg a0 (show (72 : Int) ≠ 0 by omega)
  have ma1 := Int.emod_lt_of_pos a1 (show (0 : Int) < 130 by omega)
  have na1 := Int.emod_nonneg a1 (show (130 : Int) ≠ 0 by omega)
  have mb1 := Int.emod_lt_of_pos b1 (show (0 : Int) < 130 by omega)
  have nb1 := Int.emod_nonneg b1 (show (130 : Int) ≠ 0 by omega)
  have mb2 := Int.emod_lt_of_pos b2 (show (0 : Int) < 130 by omega)
  have nb2 := Int.emod_nonneg b2 (show (130 : Int) ≠ 0 by omega)
  have ma2 := Int.emod_lt_of_pos a2 (show (0 : Int) < 70 by omega)
  have na2 := Int.emod_nonneg a2 (show (70 : Int) ≠ 0 by omega)
  clear wa0 wa1 wb1 wa2 wb2
  go_enter Try.func9, Try.ntmps9
  go_wp2_with (go_at_call 11; refine (sanity_any _).mono ?_; rintro e w1 ⟨rfl, hb1⟩; obtain ⟨hc1, hf1⟩ := bcell hb1; have hz1 := hb1.size; (try simp at hz1); have hv1 : w.heap.size < w1.heap.size := (by omega); have hu1 : w.heap.size + 1 < w1.heap.size := (by omega))
  have q0 : w1.cell? ⟨w.heap.size, 0, none⟩ = some (.int .i64 a1) := by rw [hc1 _ _ (by simp; omega)]; rw [World.cell?_alloc_past _ _ _ (by simp), World.cell?_alloc_at _ _ _ _ (by simp)]; rfl
  have q1 : w1.cell? ⟨w.heap.size, 1, none⟩ = some (.int .i64 b1) := by rw [hc1 _ _ (by simp; omega)]; rw [World.cell?_alloc_past _ _ _ (by simp), World.cell?_alloc_at _ _ _ _ (by simp)]; rfl
  have q2 : w1.cell? ⟨w.heap.size + 1, 0, none⟩ = some (.int .i64 a2) := by rw [hc1 _ _ (by simp; done)]; rw [World.cell?_alloc_at _ _ _ _ (by simp)]; rfl
  have q3 : w1.cell? ⟨w.heap.size + 1, 1, none⟩ = some (.int .i64 b2) := by rw [hc1 _ _ (by simp; done)]; rw [World.cell?_alloc_at _ _ _ _ (by simp)]; rfl
  have hbw : Below w.heap.size w w1 := by repeat' (first | exact Below.refl _ _ | (with_reducible assumption) | (refine bnext ?_ (by with_reducible assumption)) | (refine balloc ?_ _) | (refine below_drewN ?_ _) | (refine Below.drew ?_) | (refine bset ?_ (by simp; try omega) _))
  clear hc1 hf1 hb1
  have x1 : IntKind.i64.wrap (a1 % 130 - 65) = a1 % 130 - 65 := IntWalk.i64_in _ (by omega)
  have x2 : IntKind.i64.wrap (b1 % 130 - 65) = b1 % 130 - 65 := IntWalk.i64_in _ (by omega)
  go_cut [8] (fun s8 wx => Cut2 w a1 b1 a2 b2 (a1 % 130 - 65) (b1 % 130 - 65) s8 wx)
  case first =>
    go_region_held3 (fun w' => w'.cell? ⟨w.heap.size, 0, none⟩ = some (.int .i64 a1) ∧ w'.cell? ⟨w.heap.size, 1, none⟩ = some (.int .i64 b1))
      (go_keep)
      ((go_at_call 12; refine (mod_any _ _ _ (by omega) (by omega)).mono ?_; rintro e w' ⟨rfl, rfl⟩))
    all_goals (try go_wp2_with fail)
    all_goals go_meet
    all_goals exact ⟨_, rfl, hu1, ⟨by simp, (World.cell?_alloc_at _ _ _ _ rfl).trans rfl, (World.cell?_alloc_at _ _ _ _ rfl).trans rfl⟩, ⟨(World.cell?_alloc_past _ _ _ (by omega)).trans q0, (World.cell?_alloc_past _ _ _ (by omega)).trans q1, (World.cell?_alloc_past _ _ _ (by omega)).trans q2, (World.cell?_alloc_past _ _ _ (by omega)).trans q3⟩, by repeat' (first | exact Below.refl _ _ | (with_reducible assumption) | (refine bnext ?_ (by with_reducible assumption)) | (refine balloc ?_ _) | (refine below_drewN ?_ _) | (refine Below.drew ?_) | (refine bset ?_ (by simp; try omega) _))⟩
  case rest =>
    obtain ⟨g, rfl, hg, ⟨hgs, c0, c1⟩, ⟨q0', q1', q2', q3'⟩, hbc⟩ := hcut
    clear q0 q1 q2 q3 hbw x1 x2
    have hws : w.heap.size + 1 < wc.heap.size := by omega
    generalize hA : a1 % 130 - 65 = A at *
    generalize hB : b1 % 130 - 65 = B at *
    have bA : -65 ≤ A ∧ A ≤ 64 := by omega
    obtain ⟨bA0, bA1⟩ := bA
    clear hA hB
    have x3 : IntKind.i64.wrap (A + a2 % 70) = A + a2 % 70 := IntWalk.i64_in _ (by omega)
    have x4 : IntKind.i64.wrap (A + a2 % 70 - 2) = A + a2 % 70 - 2 := IntWalk.i64_in _ (by omega)
    have x5 : IntKind.i64.wrap (b2 % 130 - 65) = b2 % 130 - 65 := IntWalk.i64_in _ (by omega)
    go_wp2_with fail
    go_cut [9] (fun s9 wx => Cut3 w g a1 b1 a2 b2 A B (A + a2 % 70 - 2) (b2 % 130 - 65) s9 wx)
    case first =>
      go_region_held3 (fun w' => w'.cell? ⟨g, 0, none⟩ = some (.int .i64 A) ∧ w'.cell? ⟨w.heap.size + 1, 0, none⟩ = some (.int .i64 a2) ∧ w'.cell? ⟨w.heap.size + 1, 1, none⟩ = some (.int .i64 b2))
        (go_keep)
        ((go_at_call 12; refine (mod_any _ _ _ (by omega) (by omega)).mono ?_; rintro e w' ⟨rfl, rfl⟩))
      all_goals (try go_wp2_with fail)
      all_goals go_meet
      all_goals exact ⟨_, rfl, hgs, ⟨by simp; omega, (World.cell?_alloc_past _ _ _ (by omega)).trans c0, (World.cell?_alloc_past _ _ _ (by omega)).trans c1⟩, ⟨by simp, (World.cell?_alloc_at _ _ _ _ rfl).trans rfl, (World.cell?_alloc_at _ _ _ _ rfl).trans rfl⟩, ⟨(World.cell?_alloc_past _ _ _ (by omega)).trans q0', (World.cell?_alloc_past _ _ _ (by omega)).trans q1', (World.cell?_alloc_past _ _ _ (by omega)).trans q2', (World.cell?_alloc_past _ _ _ (by omega)).trans q3'⟩, by repeat' (first | exact Below.refl _ _ | (with_reducible assumption) | (refine bnext ?_ (by with_reducible assumption)) | (refine balloc ?_ _) | (refine below_drewN ?_ _) | (refine Below.drew ?_) | (refine bset ?_ (by simp; try omega) _))⟩
    case rest =>
      rename_i wd0
      obtain ⟨h, rfl, hh, ⟨hgs', c0', c1'⟩, ⟨hhs, d0, d1⟩, ⟨p0, p1, p2, p3⟩, hbd⟩ := hcut
      clear q0' q1' q2' q3' c0 c1 hgs hbc x3 x4 x5
      generalize hC : A + a2 % 70 - 2 = C at *
      generalize hD : b2 % 130 - 65 = D at *
      have x6 : IntKind.i64.wrap (A + a0 % 72) = A + a0 % 72 := IntWalk.i64_in _ (by omega)
      have x7 : IntKind.i64.wrap (A + a0 % 72 - 1) = A + a0 % 72 - 1 := IntWalk.i64_in _ (by omega)
      clear hC hD
      go_wp2_with fail
      go_cut [59, 60, 61] (fun s59 s60 s61 wx => Cut4 w [a0, 0, a1, b1, a2, b2, A + a0 % 72 - 1, 0, A, B, C, D, a1, 0, a1, b1, a2, b2] s59 s60 s61 wx)
      case first =>
        go_region_held3 (fun w' => w'.cell? ⟨g, 0, none⟩ = some (.int .i64 A) ∧ w'.cell? ⟨g, 1, none⟩ = some (.int .i64 B) ∧ w'.cell? ⟨h, 0, none⟩ = some (.int .i64 C) ∧ w'.cell? ⟨h, 1, none⟩ = some (.int .i64 D) ∧ w'.cell? ⟨w.heap.size, 0, none⟩ = some (.int .i64 a1) ∧ w'.cell? ⟨w.heap.size, 1, none⟩ = some (.int .i64 b1) ∧ w'.cell? ⟨w.heap.size + 1, 0, none⟩ = some (.int .i64 a2) ∧ w'.cell? ⟨w.heap.size + 1, 1, none⟩ = some (.int .i64 b2))
          (go_keep)
          ((go_at_call 12; refine (mod_any _ _ _ (by omega) (by omega)).mono ?_; rintro e w' ⟨rfl, rfl⟩))
        all_goals (try go_wp2_with fail)
        all_goals go_meet
        all_goals exact ⟨_, rfl, rfl, rfl, row_new _ _ _ _ rfl rfl, by repeat' (first | exact Below.refl _ _ | (with_reducible assumption) | (refine bnext ?_ (by with_reducible assumption)) | (refine balloc ?_ _) | (refine below_drewN ?_ _) | (refine Below.drew ?_) | (refine bset ?_ (by simp; try omega) _))⟩
      case rest =>
        obtain ⟨s, rfl, rfl, rfl, hrow, hbe⟩ := hcut
        clear c0' c1' d0 d1 p0 p1 p2 p3 hgs' hhs hbd x6 x7 hh hg hws hu1 hv1 hz1
        rename World => ws
        go_wp2_with fail
        go_loopw [61] (fun i wr => ∃ k : Nat, k ≤ 3 ∧ i = .int .i64 k ∧ Row s [a0, 0, a1, b1, a2, b2, A + a0 % 72 - 1, 0, A, B, C, D, a1, 0, a1, b1, a2, b2] wr ∧ Below w.heap.size w wr) (fun i _ => 3 - (intOf i).toNat)
        case atStart => exact ⟨0, Nat.zero_le _, rfl, hrow, hbe⟩
        case round =>
          obtain ⟨k, hk, rfl, hr, hbr⟩ := hrel
          by_cases hk3 : k < 3
          · have hxs : ∃ v0 v1 v2 v3 v4 v5 : Int, wr.cell? ⟨s, k * 6, none⟩ = some (.int .i64 v0) ∧ wr.cell? ⟨s, k * 6 + 1, none⟩ = some (.int .i64 v1) ∧ wr.cell? ⟨s, k * 6 + 2, none⟩ = some (.int .i64 v2) ∧
                wr.cell? ⟨s, k * 6 + 3, none⟩ = some (.int .i64 v3) ∧ wr.cell? ⟨s, k * 6 + 4, none⟩ = some (.int .i64 v4) ∧ wr.cell? ⟨s, k * 6 + 5, none⟩ = some (.int .i64 v5) := by
              obtain rfl | rfl | rfl : k = 0 ∨ k = 1 ∨ k = 2 := by omega
              · exact ⟨_, _, _, _, _, _, hr.2 0 (by omega), hr.2 1 (by omega), hr.2 2 (by omega), hr.2 3 (by omega), hr.2 4 (by omega), hr.2 5 (by omega)⟩
              · exact ⟨_, _, _, _, _, _, hr.2 6 (by omega), hr.2 7 (by omega), hr.2 8 (by omega), hr.2 9 (by omega), hr.2 10 (by omega), hr.2 11 (by omega)⟩
              · exact ⟨_, _, _, _, _, _, hr.2 12 (by omega), hr.2 13 (by omega), hr.2 14 (by omega), hr.2 15 (by omega), hr.2 16 (by omega), hr.2 17 (by omega)⟩
            obtain ⟨v0, v1, v2, v3, v4, v5, y0, y1, y2, y3, y4, y5⟩ := hxs
            have HR := Lib.hid hr
            clear hr
            go_wp2_with (first
              | (go_at_call 28; refine (line_any _ _ _ _ _ _).mono ?_; rintro e w9 ⟨rfl, hb9⟩; obtain ⟨hc9, hf9⟩ := bcell hb9; have hz9 := hb9.size; (try simp at hz9); have hv9 : wr.heap.size < w9.heap.size := (by omega))
              | (go_at_call 29; refine (rline_any _ _ _ _ _ _).mono ?_; rintro e w9 ⟨rfl, hb9⟩; obtain ⟨hc9, hf9⟩ := bcell hb9; have hz9 := hb9.size; (try simp at hz9); have hv9 : wr.heap.size < w9.heap.size := (by omega)))
            have hB : Below wr.heap.size wr w9 := by repeat' (first | exact Below.refl _ _ | (with_reducible assumption) | (refine bnext ?_ (by with_reducible assumption)) | (refine balloc ?_ _) | (refine below_drewN ?_ _) | (refine Below.drew ?_) | (refine bset ?_ (by simp; try omega) _))
            go_roundw
            case rel => exact ⟨k + 1, by omega, by go_num, HR.out.below hB, hbr.trans (hB.mono hbr.size)⟩
            case measure => simp [intOf]; omega
          · go_wp2
            go_ret
            exact ⟨rfl, by repeat' (first | exact Below.refl _ _ | (with_reducible assumption) | (refine bnext ?_ (by with_reducible assumption)) | (refine balloc ?_ _) | (refine below_drewN ?_ _) | (refine Below.drew ?_) | (refine bset ?_ (by simp; try omega) _))⟩

set_option maxRecDepth 100000 in
theorem lifted (os : Os) (started : os.Started) (H : Type) (enc : TypeId × Value → H) :
    ReturnsInHanded {} Try.checked os 9 .any (Rows.fixLinesSpec.pre6 enc Try.prog Try.f9 Rows.fixLinesRow.domain false) (Rows.fixLinesSpec.post enc Try.prog Try.f9 false true false false) := by
  refine returnsInHanded_of_change (C := Try.checked) ownKnob_none started (by kernel_rfl) Try.func9
    (ChangeSpec.witness6 (enc := enc) (C := Try.checked) false ⟨#[], #[.int .i64 0, .agg #[.int .i64 0, .int .i64 0], .agg #[.int .i64 0, .int .i64 0]], []⟩ 8 (by kernel_rfl) (by kernel_rfl) (by kernel_rfl) (by kernel_rfl)) ?_
  intro W base args ds gs before hval0 hW hcnd _
  have hval : ∀ (j : Nat) t v, Try.f9.params[j]? = some t → args[j]? = some v → Value.okWide Try.prog W .any base t v := hval0
  have hW' := hW
  obtain ⟨p, q, hA0, hV, rfl, hfz, hnd⟩ := hW
  have hA : DataW.TrodAll enc Try.prog W 0 (fun _ => true) true Try.f9.params.toList args.toList ds p := hA0
  rw [Try.params9] at hA hval
  obtain ⟨v0, vs0, d0, ds0, p0, q0, hargs, rfl, rfl, h0, r0⟩ := trodAll_cons hA
  obtain ⟨v1, vs1, d1, ds1, p1, q1, rfl, rfl, rfl, h1, r1⟩ := trodAll_cons r0
  obtain ⟨v2, vs2, d2, ds2, p2, q2, rfl, rfl, rfl, h2, r2⟩ := trodAll_cons r1
  obtain ⟨rfl, rfl, rfl⟩ := trodAll_nil r2
  obtain rfl : args = #[v0, v1, v2] := by cases args; simp_all
  obtain ⟨rfl, rfl⟩ := trodVars_none hV
  have k0 := h0
  have lt0 : ∀ x ∈ p0, x.block < W.heap.size := by obtain ⟨m, hm⟩ := k0; exact DataW.trod_lt m _ _ _ hm
  have k1 := h1
  have lt1 : ∀ x ∈ p1, x.block < W.heap.size := by obtain ⟨m, hm⟩ := k1; exact DataW.trod_lt m _ _ _ hm
  have k2 := h2
  have lt2 : ∀ x ∈ p2, x.block < W.heap.size := by obtain ⟨m, hm⟩ := k2; exact DataW.trod_lt m _ _ _ hm
  obtain ⟨a0, rfl, rfl, rfl, wa0⟩ := open_int Try.underlying3 (hval 0 3 v0 rfl rfl) h0
  obtain ⟨a1, b1, rfl, wa1, wb1⟩ := open_arr2 Try.underlying23 Try.underlying3 (by kernel_rfl) (by kernel_rfl) (hval 1 23 v1 rfl rfl) h1
  obtain ⟨a2, b2, rfl, wa2, wb2⟩ := open_arr2 Try.underlying23 Try.underlying3 (by kernel_rfl) (by kernel_rfl) (hval 2 23 v2 rfl rfl) h2
  clear hA0 hval0
  refine (walk a0 a1 b1 a2 b2 wa0 wa1 wb1 wa2 wb2 W).mono fun e W' ⟨he, bel⟩ => ?_
  subst he
  exact ⟨_, rfl, _, _, _, [], _, [], hW', trodAll_mk1 (shut_bool Try.underlying4 _), (trodAll_cons_mk (Below.trod laidOut (by kernel_rfl) (of_decide_eq_true (by kernel_rfl)) k0 bel lt0) (trodAll_cons_mk (Below.trod laidOut (by kernel_rfl) (of_decide_eq_true (by kernel_rfl)) k1 bel lt1) (trodAll_cons_mk (Below.trod laidOut (by kernel_rfl) (of_decide_eq_true (by kernel_rfl)) k2 bel lt2) trodAll_mk0))), rfl, bel.frame _, fun h => by cases h⟩

theorem over : Rows.fixLinesRow.holds Try.pinned (OpenSpec.ofChange Rows.fixLinesSpec) :=
  OpenClaim.holds_of_wide 9 Try.f9 rfl rfl rfl rfl rfl rfl rfl ⟨rfl, rfl, rfl, rfl, rfl⟩ rfl rfl rfl rfl rfl (by kernel_rfl) Try.func9 (by kernel_rfl)
    (of_decide_eq_true (by kernel_rfl)) (by unfold Func.isWrapper; first | (rw [if_pos (by decide +kernel)]; kernel_rfl) | (rw [if_neg (by decide +kernel)]; exact ⟨rfl, rfl⟩))
    (fun os started H enc _ => lifted os started H enc)

end Go.Proofs.Ytbfahfkommcpkaa.fixLines
namespace Go.Proofs.Ytbfahfkommcpkaa
theorem fixLines_proved : Rows.FixLinesSaid := fixLines.over
#print axioms fixLines_proved
end Go.Proofs.Ytbfahfkommcpkaa
