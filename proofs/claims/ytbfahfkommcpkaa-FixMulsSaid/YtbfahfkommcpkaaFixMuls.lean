/- For every two int64 and every pair of int64 Mul, Part and Clamp return what the reference returns: FixMuls returns true. -/
import Derived.Test.YtbfahfkommcpkaaRows
import Derived.Test.YtbfahfkommcpkaaFixOpen
import Derived.Deep.RegionWith
import Derived.Deep.RegionHeld3
import Derived.Deep.DeepCutAuto
import Derived.Test.YtbfahfkommcpkaaFixMade
namespace Go.Proofs.Ytbfahfkommcpkaa.fixMuls
open Go.ChangeShapes Go.WideShapes Go.ChangeAt Go.RowKit Go.Joins Go.Deep
set_option linter.unusedVariables false

def Row (n g : Nat) (xs : List Int) (wx : World) : Prop := g < wx.heap.size ∧ ∀ j, j < n → wx.cell? ⟨g, j, none⟩ = some (.int .i64 (xs.getD j 0))
theorem row_new (n : Nat) (cs : Array Value) (xs : List Int) (t : TypeId) (w : World) (h : cs = (xs.map (Value.int .i64)).toArray) (hl : xs.length = n) : Row n w.heap.size xs (w.alloc (.cells cs t)) := by
  refine ⟨by simp, fun j hj => ?_⟩
  rw [World.cell?_alloc_at _ _ _ _ rfl, h]
  simp [List.getD, List.getElem?_eq_getElem (show j < xs.length by omega)]
theorem row_at (n g : Nat) (cs : Array Value) (xs : List Int) (t : TypeId) (w : World) (hg : g = w.heap.size) (h : cs = (xs.map (Value.int .i64)).toArray) (hl : xs.length = n) : Row n g xs (w.alloc (.cells cs t)) := by
  subst hg; exact row_new n cs xs t w h hl
theorem Row.below {n g : Nat} {xs : List Int} {w w' : World} (h : Row n g xs w) (hb : Below w.heap.size w w') : Row n g xs w' :=
  ⟨Nat.lt_of_lt_of_le h.1 hb.size, fun j hj => (hb.cell (p := ⟨g, j, none⟩) h.1).trans (h.2 j hj)⟩
theorem clamp_same (a l h : Int) (w : World) :
    Calls Try.prog 21 #[.int .i64 a, .int .i64 l, .int .i64 h] w fun e w' => e = .returned (.int .i64 (max l (min a h))) ∧ w' = w := by
  go_enter Try.func21, Try.ntmps21
  go_wp2
  all_goals
    go_ret
    exact ⟨ret1 (by omega), rfl⟩
theorem rclamp_same (a l h : Int) (w : World) :
    Calls Try.prog 22 #[.int .i64 a, .int .i64 l, .int .i64 h] w fun e w' => e = .returned (.int .i64 (max l (min a h))) ∧ w' = w := by
  go_enter Try.func22, Try.ntmps22
  go_wp2
  all_goals
    go_ret
    exact ⟨ret1 (by omega), rfl⟩
/-- What holds behind the comparison of the products and of what is clamped. -/
def Cut8 (w wr : World) (X a2 b2 : Int) (s79 : Value) (wx : World) : Prop :=
  s79 = .bool false ∧ wx.cell? ⟨wr.heap.size, 0, none⟩ = some (.int .i64 X) ∧ wx.cell? ⟨w.heap.size, 0, none⟩ = some (.int .i64 a2) ∧ wx.cell? ⟨w.heap.size, 1, none⟩ = some (.int .i64 b2) ∧ wr.heap.size < wx.heap.size ∧ Below wr.heap.size wr wx
/-- What holds behind the statement that lists the two scalars. -/
def Cut10 (wr : World) (X a2 b2 N D : Int) (s86 s87 s88 : Value) (wx : World) : Prop :=
  ∃ g : Nat, s86 = .slice (some ⟨g, 0, none⟩) 2 2 ∧ s87 = .int .i64 2 ∧ s88 = .int .i64 0 ∧ Row 4 g [a2, b2, N, D] wx ∧ wx.cell? ⟨wr.heap.size, 0, none⟩ = some (.int .i64 X) ∧ wr.heap.size < wx.heap.size ∧ Below wr.heap.size wr wx

set_option maxRecDepth 100000 in
set_option maxHeartbeats 1000000 in
theorem walk (a0 : Int) (a1 : Int) (a2 : Int) (b2 : Int) (wa0 : (Lit.int .i64 a0).wf = true) (wa1 : (Lit.int .i64 a1).wf = true) (wa2 : (Lit.int .i64 a2).wf = true) (wb2 : (Lit.int .i64 b2).wf = true) (w : World) :
    Calls Try.prog 5 #[.int .i64 a0, .int .i64 a1, .agg #[.int .i64 a2, .int .i64 b2]] w fun e w' => e = .returned (.bool true) ∧ Below w.heap.size w w' := by
  go_enter Try.func5, Try.ntmps5
  obtain ⟨b00, b01⟩ := bd_i64 wa0
  obtain ⟨b10, b11⟩ := bd_i64 wa1
  have r1 := Int.emod_lt_of_pos a0 (show (0 : Int) < 2097160 by omega)
  have r0 := Int.emod_nonneg a0 (show (2097160 : Int) ≠ 0 by omega)
  have s1 := Int.emod_lt_of_pos a1 (show (0 : Int) < 9000 by omega)
  have s0 := Int.emod_nonneg a1 (show (9000 : Int) ≠ 0 by omega)
  clear wa0 wa1 wa2 wb2
  go_wp2_with (first
    | (go_at_call 11; refine (sanity_any _).mono ?_; rintro e w1 ⟨rfl, hb1⟩; obtain ⟨hc1, hf1⟩ := bcell hb1; have hz1 := hb1.size; (try simp at hz1); have hv1 : w.heap.size < w1.heap.size := (by omega))
    | (go_at_call 12; refine (mod_any _ _ _ (by omega) (by omega)).mono ?_; rintro e w' ⟨rfl, rfl⟩))
  rename World => wd
  have q0 : wd.cell? ⟨w.heap.size, 0, none⟩ = some (.int .i64 a2) := by rw [hc1 _ _ (by simp; done)]; rw [World.cell?_alloc_at _ _ _ _ (by simp)]; rfl
  have q1 : wd.cell? ⟨w.heap.size, 1, none⟩ = some (.int .i64 b2) := by rw [hc1 _ _ (by simp; done)]; rw [World.cell?_alloc_at _ _ _ _ (by simp)]; rfl
  have hbw : Below w.heap.size w wd := by repeat' (first | exact Below.refl _ _ | (with_reducible assumption) | (refine bnext ?_ (by with_reducible assumption)) | (refine balloc ?_ _) | (refine below_drewN ?_ _) | (refine Below.drew ?_) | (refine bset ?_ (by simp; try omega) _))
  clear hc1 hf1 hb1
  generalize a0 % 2097160 - 1048576 - 4 = SM at *
  generalize a1 % 9000 - 4500 = T at *
  clear b00 b01 b10 b11 r1 r0 s1 s0
  go_loopw [35] (fun i wr => ∃ k : Nat, k ≤ 3 ∧ i = .int .i64 k ∧ w.heap.size < wr.heap.size ∧ wr.cell? ⟨w.heap.size, 0, none⟩ = some (.int .i64 a2) ∧ wr.cell? ⟨w.heap.size, 1, none⟩ = some (.int .i64 b2) ∧
      Row 6 wd.heap.size [a0, a1, SM, a1, SM, T] wr ∧ Below w.heap.size w wr) (fun i _ => 3 - (intOf i).toNat)
  case atStart => exact ⟨0, Nat.zero_le _, rfl, by simp; omega, (World.cell?_alloc_past _ _ _ hv1).trans q0, (World.cell?_alloc_past _ _ _ hv1).trans q1, row_new _ _ _ _ _ rfl rfl, by repeat' (first | exact Below.refl _ _ | (with_reducible assumption) | (refine bnext ?_ (by with_reducible assumption)) | (refine balloc ?_ _) | (refine below_drewN ?_ _) | (refine Below.drew ?_) | (refine bset ?_ (by simp; try omega) _))⟩
  case round =>
    obtain ⟨k, hk, rfl, hws, p0, p1, hr, hbr⟩ := hrel
    obtain ⟨wo, hwo⟩ : ∃ wo : World, wo = wr := ⟨_, rfl⟩
    subst hwo
    by_cases hk3 : k < 3
    · have hxs : ∃ X Y : Int, wo.cell? ⟨wd.heap.size, k * 2, none⟩ = some (.int .i64 X) ∧ wo.cell? ⟨wd.heap.size, k * 2 + 1, none⟩ = some (.int .i64 Y) := by
        obtain rfl | rfl | rfl : k = 0 ∨ k = 1 ∨ k = 2 := by omega
        · exact ⟨_, _, hr.2 0 (by omega), hr.2 1 (by omega)⟩
        · exact ⟨_, _, hr.2 2 (by omega), hr.2 3 (by omega)⟩
        · exact ⟨_, _, hr.2 4 (by omega), hr.2 5 (by omega)⟩
      obtain ⟨X, Y, y0, y1⟩ := hxs
      have HR := Lib.hid hr
      clear hr q0 q1 hbw hv1 hz1
      go_wp2_with (first
        | (go_at_call 19; refine (mul_any _ _ _).mono ?_; rintro e w8 ⟨rfl, hb8⟩; obtain ⟨hc8, hf8⟩ := bcell hb8; have hz8 := hb8.size; (try simp at hz8); have hv8 : wo.heap.size < w8.heap.size := (by omega); have hx8 : w.heap.size < w8.heap.size := (by omega))
        | (go_at_call 20; refine (rmul_any _ _ _).mono ?_; rintro e w9 ⟨rfl, hb9⟩; obtain ⟨hc9, hf9⟩ := bcell hb9; have hz9 := hb9.size; (try simp at hz9); have hv9 : wo.heap.size < w9.heap.size := (by omega); have hx9 : w.heap.size < w9.heap.size := (by omega)))
      have z0 : w9.cell? ⟨wo.heap.size, 0, none⟩ = some (.int .i64 X) := by rw [hc9 _ _ hv8, hc8 _ _ (by simp), World.cell?_alloc_at _ _ _ _ rfl]; rfl
      have z1 : w9.cell? ⟨wo.heap.size, 1, none⟩ = some (.int .i64 Y) := by rw [hc9 _ _ hv8, hc8 _ _ (by simp), World.cell?_alloc_at _ _ _ _ rfl]; rfl
      have z2 : w9.cell? ⟨w.heap.size, 0, none⟩ = some (.int .i64 a2) := by rw [hc9 _ _ hx8, hc8 _ _ (by simp; omega), World.cell?_alloc_past _ _ _ hws]; exact p0
      have z3 : w9.cell? ⟨w.heap.size, 1, none⟩ = some (.int .i64 b2) := by rw [hc9 _ _ hx8, hc8 _ _ (by simp; omega), World.cell?_alloc_past _ _ _ hws]; exact p1
      have hB9 : Below wo.heap.size wo w9 := by repeat' (first | exact Below.refl _ _ | (with_reducible assumption) | (refine bnext ?_ (by with_reducible assumption)) | (refine balloc ?_ _) | (refine below_drewN ?_ _) | (refine Below.drew ?_) | (refine bset ?_ (by simp; try omega) _))
      clear hc8 hf8 hb8 hz8 hc9 hf9 hb9 hz9 hx8 hx9 hv8 y0 y1
      go_cut [79] (fun s79 wx => Cut8 w wo X a2 b2 s79 wx)
      case first =>
        go_quiet ((first | (go_at_call 21; exact Calls.quiet_of_same (clamp_same _ _ _ _)) | (go_at_call 22; exact Calls.quiet_of_same (rclamp_same _ _ _ _))))
        all_goals (try go_wp2_with fail)
        all_goals go_meet
        all_goals exact ⟨by first | rfl | simp, z0, z2, z3, hv9, below_drewN hB9 _⟩
      case rest =>
        obtain ⟨rfl, z0', z2', z3', hv9', hB'⟩ := hcut
        clear z0 z1 z2 z3 hB9 hv9
        rename World => we
        have hwe : w.heap.size < we.heap.size := by omega
        go_wp2_with fail
        go_cut [86, 87, 88] (fun s86 s87 s88 wx => Cut10 wo X a2 b2 (FP.madeN a2 b2) (FP.madeD a2 b2) s86 s87 s88 wx)
        case first =>
          go_region_held3 (fun w' => w'.cell? ⟨w.heap.size, 0, none⟩ = some (.int .i64 a2) ∧ w'.cell? ⟨w.heap.size, 1, none⟩ = some (.int .i64 b2))
            (exact ⟨(Below.cell (B := we.heap.size) (w := we) (p := ⟨w.heap.size, 0, none⟩) (by repeat' (first | exact Below.refl _ _ | (with_reducible assumption) | (refine bnext ?_ (by with_reducible assumption)) | (refine balloc ?_ _) | (refine below_drewN ?_ _) | (refine Below.drew ?_) | (refine bset ?_ (by simp; try omega) _))) hwe).trans z2', (Below.cell (B := we.heap.size) (w := we) (p := ⟨w.heap.size, 1, none⟩) (by repeat' (first | exact Below.refl _ _ | (with_reducible assumption) | (refine bnext ?_ (by with_reducible assumption)) | (refine balloc ?_ _) | (refine below_drewN ?_ _) | (refine Below.drew ?_) | (refine bset ?_ (by simp; try omega) _))) hwe).trans z3'⟩)
            ((go_at_call 23; refine (made_eq _ _ _).mono ?_; rintro e w' ⟨rfl, rfl⟩))
          all_goals (try go_wp2_with fail)
          all_goals go_meet
          all_goals exact ⟨_, rfl, rfl, rfl, row_at _ _ _ _ _ _ (by simp) rfl rfl, (Below.cell (B := we.heap.size) (w := we) (p := ⟨wo.heap.size, 0, none⟩) (by repeat' (first | exact Below.refl _ _ | (with_reducible assumption) | (refine bnext ?_ (by with_reducible assumption)) | (refine balloc ?_ _) | (refine below_drewN ?_ _) | (refine Below.drew ?_) | (refine bset ?_ (by simp; try omega) _))) hv9').trans z0', by go_size, Below.trans hB' (Below.mono (B := we.heap.size) (by repeat' (first | exact Below.refl _ _ | (with_reducible assumption) | (refine bnext ?_ (by with_reducible assumption)) | (refine balloc ?_ _) | (refine below_drewN ?_ _) | (refine Below.drew ?_) | (refine bset ?_ (by simp; try omega) _))) hB'.size)⟩
        case rest =>
          obtain ⟨g, rfl, rfl, rfl, hrow, x0, hvx, hBx⟩ := hcut
          clear z0' z2' z3' hv9' hB' hwe
          rename World => wf
          generalize FP.madeN a2 b2 = N at *
          generalize FP.madeD a2 b2 = Dn at *
          go_wp2_with fail
          go_loopw [88] (fun i wq => ∃ j : Nat, j ≤ 2 ∧ i = .int .i64 j ∧ Row 4 g [a2, b2, N, Dn] wq ∧ wq.cell? ⟨wo.heap.size, 0, none⟩ = some (.int .i64 X) ∧ wo.heap.size < wq.heap.size ∧ Below wo.heap.size wo wq) (fun i _ => 2 - (intOf i).toNat)
          case atStart => exact ⟨0, Nat.zero_le _, rfl, hrow, x0, hvx, hBx⟩
          case round =>
            obtain ⟨j, hj, rfl, hrq, xq, hvq, hBq⟩ := hrel
            by_cases hj2 : j < 2
            · have hys : ∃ N1 D1 : Int, wr.cell? ⟨g, j * 2, none⟩ = some (.int .i64 N1) ∧ wr.cell? ⟨g, j * 2 + 1, none⟩ = some (.int .i64 D1) := by
                obtain rfl | rfl : j = 0 ∨ j = 1 := by omega
                · exact ⟨_, _, hrq.2 0 (by omega), hrq.2 1 (by omega)⟩
                · exact ⟨_, _, hrq.2 2 (by omega), hrq.2 3 (by omega)⟩
              obtain ⟨N1, D1, y0, y1⟩ := hys
              have HQ := Lib.hid hrq
              clear hrq x0 hvx hBx hrow
              go_wp2_with (first
                | (go_at_call 24; refine (part_any _ _ _ _).mono ?_; rintro e w8 ⟨rfl, hb8⟩; obtain ⟨hc8, hf8⟩ := bcell hb8; have hz8 := hb8.size; (try simp at hz8); have hv8 : wr.heap.size < w8.heap.size := (by omega); have hx8 : wo.heap.size < w8.heap.size := (by omega))
                | (go_at_call 25; refine (rpart_any _ _ _ _).mono ?_; rintro e w9 ⟨rfl, hb9⟩; obtain ⟨hc9, hf9⟩ := bcell hb9; have hz9 := hb9.size; (try simp at hz9); have hv9 : wr.heap.size < w9.heap.size := (by omega); have hx9 : wo.heap.size < w9.heap.size := (by omega)))
              have hB9 : Below wr.heap.size wr w9 := by repeat' (first | exact Below.refl _ _ | (with_reducible assumption) | (refine bnext ?_ (by with_reducible assumption)) | (refine balloc ?_ _) | (refine below_drewN ?_ _) | (refine Below.drew ?_) | (refine bset ?_ (by simp; try omega) _))
              go_roundw
              case rel => exact ⟨j + 1, by omega, by go_num, HQ.out.below hB9, (hB9.cell (p := ⟨wo.heap.size, 0, none⟩) hvq).trans xq, by omega, hBq.trans (hB9.mono hBq.size)⟩
              case measure => simp [intOf]; omega
            · clear x0 hvx hBx hrow xq
              go_wp2
              go_roundw
              case rel => exact ⟨k + 1, by omega, by go_num, by omega, (hBq.cell (p := ⟨w.heap.size, 0, none⟩) hws).trans p0, (hBq.cell (p := ⟨w.heap.size, 1, none⟩) hws).trans p1, HR.out.below hBq, hbr.trans (hBq.mono hbr.size)⟩
              case measure => simp [intOf]; omega
    · go_wp2
      go_ret
      exact ⟨rfl, by repeat' (first | exact Below.refl _ _ | (with_reducible assumption) | (refine bnext ?_ (by with_reducible assumption)) | (refine balloc ?_ _) | (refine below_drewN ?_ _) | (refine Below.drew ?_) | (refine bset ?_ (by simp; try omega) _))⟩

set_option maxRecDepth 100000 in
theorem lifted (os : Os) (started : os.Started) (H : Type) (enc : TypeId × Value → H) :
    ReturnsInHanded {} Try.checked os 5 .any (Rows.fixMulsSpec.pre6 enc Try.prog Try.f5 Rows.fixMulsRow.domain false) (Rows.fixMulsSpec.post enc Try.prog Try.f5 false true false false) := by
  refine returnsInHanded_of_change (C := Try.checked) ownKnob_none started (by kernel_rfl) Try.func5
    (ChangeSpec.witness6 (enc := enc) (C := Try.checked) false ⟨#[], #[.int .i64 0, .int .i64 0, .agg #[.int .i64 0, .int .i64 0]], []⟩ 8 (by kernel_rfl) (by kernel_rfl) (by kernel_rfl) (by kernel_rfl)) ?_
  intro W base args ds gs before hval0 hW hcnd _
  have hval : ∀ (j : Nat) t v, Try.f5.params[j]? = some t → args[j]? = some v → Value.okWide Try.prog W .any base t v := hval0
  have hW' := hW
  obtain ⟨p, q, hA0, hV, rfl, hfz, hnd⟩ := hW
  have hA : DataW.TrodAll enc Try.prog W 0 (fun _ => true) true Try.f5.params.toList args.toList ds p := hA0
  rw [Try.params5] at hA hval
  obtain ⟨v0, vs0, d0, ds0, p0, q0, hargs, rfl, rfl, h0, r0⟩ := trodAll_cons hA
  obtain ⟨v1, vs1, d1, ds1, p1, q1, rfl, rfl, rfl, h1, r1⟩ := trodAll_cons r0
  obtain ⟨v2, vs2, d2, ds2, p2, q2, rfl, rfl, rfl, h2, r2⟩ := trodAll_cons r1
  obtain ⟨rfl, rfl, rfl⟩ := trodAll_nil r2
  obtain rfl : args = #[v0, v1, v2] := by cases args; simp_all
  obtain ⟨rfl, rfl⟩ := trodVars_none hV
  have k0 := h0
  have lt0 : ∀ x ∈ p0, x.block < W.heap.size := by obtain ⟨m, hm⟩ := k0; exact DataW.trod_lt m _ _ _ hm
  have k1 := h1
  have lt1 : ∀ x ∈ p1, x.block < W.heap.size := by obtain ⟨m, hm⟩ := k1; exact DataW.trod_lt m _ _ _ hm
  have k2 := h2
  have lt2 : ∀ x ∈ p2, x.block < W.heap.size := by obtain ⟨m, hm⟩ := k2; exact DataW.trod_lt m _ _ _ hm
  obtain ⟨a0, rfl, rfl, rfl, wa0⟩ := open_int Try.underlying3 (hval 0 3 v0 rfl rfl) h0
  obtain ⟨a1, rfl, rfl, rfl, wa1⟩ := open_int Try.underlying3 (hval 1 3 v1 rfl rfl) h1
  obtain ⟨a2, b2, rfl, wa2, wb2⟩ := open_pair Try.underlying31 (by kernel_rfl) (by kernel_rfl) rfl rfl Try.underlying3 (hval 2 31 v2 rfl rfl) h2
  clear hA0 hval0
  refine (walk a0 a1 a2 b2 wa0 wa1 wa2 wb2 W).mono fun e W' ⟨he, bel⟩ => ?_
  subst he
  exact ⟨_, rfl, _, _, _, [], _, [], hW', trodAll_mk1 (shut_bool Try.underlying4 _), (trodAll_cons_mk (Below.trod laidOut (by kernel_rfl) (of_decide_eq_true (by kernel_rfl)) k0 bel lt0) (trodAll_cons_mk (Below.trod laidOut (by kernel_rfl) (of_decide_eq_true (by kernel_rfl)) k1 bel lt1) (trodAll_cons_mk (Below.trod laidOut (by kernel_rfl) (of_decide_eq_true (by kernel_rfl)) k2 bel lt2) trodAll_mk0))), rfl, bel.frame _, fun h => by cases h⟩

theorem over : Rows.fixMulsRow.holds Try.pinned (OpenSpec.ofChange Rows.fixMulsSpec) :=
  OpenClaim.holds_of_wide 5 Try.f5 rfl rfl rfl rfl rfl rfl rfl ⟨rfl, rfl, rfl, rfl, rfl⟩ rfl rfl rfl rfl rfl (by kernel_rfl) Try.func5 (by kernel_rfl)
    (of_decide_eq_true (by kernel_rfl)) (by unfold Func.isWrapper; first | (rw [if_pos (by decide +kernel)]; kernel_rfl) | (rw [if_neg (by decide +kernel)]; exact ⟨rfl, rfl⟩))
    (fun os started H enc _ => lifted os started H enc)

end Go.Proofs.Ytbfahfkommcpkaa.fixMuls
namespace Go.Proofs.Ytbfahfkommcpkaa
theorem fixMuls_proved : Rows.FixMulsSaid := fixMuls.over
#print axioms fixMuls_proved
end Go.Proofs.Ytbfahfkommcpkaa
