/- For all ends and places a line passes through its ends and rises or falls as they say: FixEnds returns true. -/
import Derived.Test.YtbfahfkommcpkaaRows
import Derived.Test.YtbfahfkommcpkaaFixOpen
import Derived.Deep.RegionWith
import Derived.Deep.RegionHeld3
import Derived.Deep.DeepCutAuto
import Derived.Test.YtbfahfkommcpkaaFixEndsPlain
namespace Go.Proofs.Ytbfahfkommcpkaa.fixEnds
open Go.ChangeShapes Go.WideShapes Go.ChangeAt Go.RowKit Go.Joins Go.Deep
set_option linter.unusedVariables false

/-- What holds behind the statement that makes the two ends. -/
def Cut3 (w w1 : World) (H W f1 t1 a2 b2 : Int) (s9 s10 : Value) (wx : World) : Prop :=
  ∃ g h : Nat, s9 = .pointer (some ⟨g, 0, none⟩) ∧ s10 = .pointer (some ⟨h, 0, none⟩) ∧ g < wx.heap.size ∧ h < wx.heap.size ∧
    wx.cell? ⟨g, 0, none⟩ = some (.int .i64 (-H)) ∧ wx.cell? ⟨g, 1, none⟩ = some (.int .i64 f1) ∧ wx.cell? ⟨h, 0, none⟩ = some (.int .i64 (W - H)) ∧ wx.cell? ⟨h, 1, none⟩ = some (.int .i64 t1) ∧
    wx.cell? ⟨w.heap.size + 1, 0, none⟩ = some (.int .u16 a2) ∧ wx.cell? ⟨w.heap.size + 1, 1, none⟩ = some (.int .u16 b2) ∧ Below w.heap.size w wx
/-- What holds behind the statement that puts the two places in order. -/
def Cut5 (H W f1 t1 : Int) (wd : World) (s11 s12 : Value) (wx : World) : Prop :=
  ∃ P Q x y : Int, s11 = .int .i64 P ∧ s12 = .int .i64 Q ∧ wx = wd ∧ FP.lineS P (-H) f1 (W - H) t1 = (x, true) ∧ FP.lineS Q (-H) f1 (W - H) t1 = (y, true) ∧
    ((f1 ≤ t1 ∧ f1 ≤ x ∧ x ≤ y ∧ y ≤ t1) ∨ (t1 < f1 ∧ x ≤ f1 ∧ y ≤ x ∧ t1 ≤ y))
theorem key (H W f1 t1 P Q : Int) (sH : FP.sm (-H)) (sf : FP.sm f1) (sW : FP.sm (W - H)) (st : FP.sm t1) (h : 1 ≤ W) (hp : -H ≤ P) (hpq : P ≤ Q) (hq : Q ≤ W - H) :
    ∃ x y : Int, FP.lineS P (-H) f1 (W - H) t1 = (x, true) ∧ FP.lineS Q (-H) f1 (W - H) t1 = (y, true) ∧ ((f1 ≤ t1 ∧ f1 ≤ x ∧ x ≤ y ∧ y ≤ t1) ∨ (t1 < f1 ∧ x ≤ f1 ∧ y ≤ x ∧ t1 ≤ y)) := by
  obtain ⟨x, y, e1, e2, e3, e4, hu, hd⟩ := FP.ends (-H) f1 (W - H) t1 P Q sH sf sW st (by omega) hp hpq hq
  refine ⟨x, y, e1, e2, ?_⟩
  by_cases hft : f1 ≤ t1
  · exact .inl ⟨hft, hu hft⟩
  · exact .inr ⟨by omega, hd (by omega)⟩

set_option maxRecDepth 100000 in
set_option maxHeartbeats 1000000 in
theorem walk (a0 : Int) (b0 : Int) (a1 : Int) (a2 : Int) (b2 : Int) (wa0 : (Lit.int .i64 a0).wf = true) (wb0 : (Lit.int .i64 b0).wf = true) (wa1 : (Lit.int .u16 a1).wf = true) (wa2 : (Lit.int .u16 a2).wf = true) (wb2 : (Lit.int .u16 b2).wf = true) (w : World) :
    Calls Try.prog 10 #[.agg #[.int .i64 a0, .int .i64 b0], .int .u16 a1, .agg #[.int .u16 a2, .int .u16 b2]] w fun e w' => e = .returned (.bool true) ∧ Below w.heap.size w w' := by
  obtain ⟨u0, u1⟩ := bd_u16 wa1
  obtain ⟨s0, s1⟩ := bd_u16 wa2
  obtain ⟨bb0, bb1⟩ := bd_u16 wb2
  obtain ⟨y1, y2, y3, y4⟩ := FP.tmod_bd a0 1000 (by omega)
  obtain ⟨z1, z2, z3, z4⟩ := FP.tmod_bd b0 1000 (by omega)
  have E : (a1 % 500 + 1).tdiv 2 = (a1 % 500 + 1) / 2 := Int.tdiv_eq_ediv_of_nonneg (by omega)
  have g0 : 1 ≤ a1 % 500 + 1 := by omega
  have g1 : a1 % 500 + 1 ≤ 500 := by omega
  have g2 : 0 ≤ (a1 % 500 + 1) / 2 := by omega
  have g3 : 2 * ((a1 % 500 + 1) / 2) ≤ a1 % 500 + 1 := by omega
  have k0 := Int.emod_nonneg a2 (show a1 % 500 + 1 + 1 ≠ 0 by omega)
  have k1 := Int.emod_lt_of_pos a2 (show 0 < a1 % 500 + 1 + 1 by omega)
  have l0 := Int.emod_nonneg b2 (show a1 % 500 + 1 + 1 ≠ 0 by omega)
  have l1 := Int.emod_lt_of_pos b2 (show 0 < a1 % 500 + 1 + 1 by omega)
  clear y3 y4 z3 z4 wa0 wb0 wa1 wa2 wb2
  go_enter Try.func10, Try.ntmps10
  go_wp2_with (go_at_call 11; refine (sanity_any _).mono ?_; rintro e w1 ⟨rfl, hb1⟩; obtain ⟨hc1, hf1⟩ := bcell hb1; have hz1 := hb1.size; (try simp at hz1); have hv1 : w.heap.size < w1.heap.size := (by omega); have hu1 : w.heap.size + 1 < w1.heap.size := (by omega))
  have q2 : w1.cell? ⟨w.heap.size + 1, 0, none⟩ = some (.int .u16 a2) := by rw [hc1 _ _ (by simp; done)]; first | (rw [World.cell?_alloc_at _ _ _ _ (by simp)]; rfl) | (rw [World.cell?_alloc_past _ _ _ (by simp), World.cell?_alloc_at _ _ _ _ (by simp)]; rfl)
  have q3 : w1.cell? ⟨w.heap.size + 1, 1, none⟩ = some (.int .u16 b2) := by rw [hc1 _ _ (by simp; done)]; first | (rw [World.cell?_alloc_at _ _ _ _ (by simp)]; rfl) | (rw [World.cell?_alloc_past _ _ _ (by simp), World.cell?_alloc_at _ _ _ _ (by simp)]; rfl)
  have hbw : Below w.heap.size w w1 := by repeat' (first | exact Below.refl _ _ | (with_reducible assumption) | (refine bnext ?_ (by with_reducible assumption)) | (refine balloc ?_ _) | (refine below_drewN ?_ _) | (refine Below.drew ?_) | (refine bset ?_ (by simp; try omega) _))
  go_cut [9, 10] (fun s9 s10 wx => Cut3 w w1 ((a1 % 500 + 1) / 2) (a1 % 500 + 1) (a0.tmod 1000) (b0.tmod 1000) a2 b2 s9 s10 wx)
  case first =>
    go_region
    all_goals (try go_wp2_with fail)
    all_goals go_meet
    all_goals
      exact ⟨_, _, rfl, rfl, (by first | (simp; done) | (simp; omega)), (by first | (simp; done) | (simp; omega)), (by first | (simp; done) | (rw [World.cell?_alloc_at _ _ _ _ (by simp)]; rfl) | (rw [World.cell?_alloc_past _ _ _ (by simp), World.cell?_alloc_at _ _ _ _ (by simp)]; rfl)), (by first | (simp; done) | (rw [World.cell?_alloc_at _ _ _ _ (by simp)]; rfl) | (rw [World.cell?_alloc_past _ _ _ (by simp), World.cell?_alloc_at _ _ _ _ (by simp)]; rfl)), (by first | (simp; done) | (rw [World.cell?_alloc_at _ _ _ _ (by simp)]; rfl) | (rw [World.cell?_alloc_past _ _ _ (by simp), World.cell?_alloc_at _ _ _ _ (by simp)]; rfl)), (by first | (simp; done) | (rw [World.cell?_alloc_at _ _ _ _ (by simp)]; rfl) | (rw [World.cell?_alloc_past _ _ _ (by simp), World.cell?_alloc_at _ _ _ _ (by simp)]; rfl)), (World.cell?_alloc_past _ _ _ (by simp; omega)).trans ((World.cell?_alloc_past _ _ _ hu1).trans q2), (World.cell?_alloc_past _ _ _ (by simp; omega)).trans ((World.cell?_alloc_past _ _ _ hu1).trans q3), by repeat' (first | exact Below.refl _ _ | (with_reducible assumption) | (refine bnext ?_ (by with_reducible assumption)) | (refine balloc ?_ _) | (refine below_drewN ?_ _) | (refine Below.drew ?_) | (refine bset ?_ (by simp; try omega) _))⟩
  case rest =>
    obtain ⟨g, h, rfl, rfl, hg, hh, d0, d1, d2, d3, d4, d5, hbc⟩ := hcut
    clear hc1 hf1 hb1 hbw q2 q3 E u0 u1
    generalize (a1 % 500 + 1) / 2 = H at *
    generalize a1 % 500 + 1 = W at *
    generalize a0.tmod 1000 = f1 at *
    generalize b0.tmod 1000 = t1 at *
    go_wp2_with fail
    go_region
    go_upto_region 5 with (fail)
    have sH : FP.sm (-H) := ⟨by omega, by omega⟩
    have sW : FP.sm (W - H) := ⟨by omega, by omega⟩
    have sf : FP.sm f1 := ⟨by omega, by omega⟩
    have st : FP.sm t1 := ⟨by omega, by omega⟩
    obtain ⟨e3, e4⟩ : FP.lineS (-H) (-H) f1 (W - H) t1 = (f1, true) ∧ FP.lineS (W - H) (-H) f1 (W - H) t1 = (t1, true) := by
      obtain ⟨x, y, _, _, e3, e4, _, _⟩ := FP.ends (-H) f1 (W - H) t1 (-H) (W - H) sH sf sW st (by omega) (by omega) (by omega) (by omega)
      exact ⟨e3, e4⟩
    rename World => wd
    go_cut [11, 12] (fun s11 s12 wx => Cut5 H W f1 t1 wd.drew s11 s12 wx)
    case first =>
      clear e3 e4
      rcases Int.lt_trichotomy (a2 % (W + 1)) (b2 % (W + 1)) with hc | hc | hc
      · have K := Lib.hid (key H W f1 t1 (-H + a2 % (W + 1)) (-H + b2 % (W + 1)) sH sf sW st (by omega) (by omega) (by omega) (by omega))
        go_wp2
        all_goals go_meet
        all_goals
          obtain ⟨x, y, e1, e2, hw⟩ := K.out
          exact ⟨_, _, x, y, rfl, rfl, rfl, e1, e2, hw⟩
      · have K := Lib.hid (key H W f1 t1 (-H + b2 % (W + 1)) (-H + b2 % (W + 1)) sH sf sW st (by omega) (by omega) (by omega) (by omega))
        go_wp2
        all_goals go_meet
        all_goals
          obtain ⟨x, y, e1, e2, hw⟩ := K.out
          exact ⟨_, _, x, y, rfl, rfl, rfl, e1, e2, hw⟩
      · have K := Lib.hid (key H W f1 t1 (-H + b2 % (W + 1)) (-H + a2 % (W + 1)) sH sf sW st (by omega) (by omega) (by omega) (by omega))
        go_wp2
        all_goals go_meet
        all_goals
          obtain ⟨x, y, e1, e2, hw⟩ := K.out
          exact ⟨_, _, x, y, rfl, rfl, rfl, e1, e2, hw⟩
    case rest =>
      obtain ⟨P, Q, x, y, rfl, rfl, hwx, e1, e2, hway⟩ := hcut
      have hg' : g < wc.heap.size := by rw [hwx]; exact hg
      have hh' : h < wc.heap.size := by rw [hwx]; exact hh
      have d0' : wc.cell? ⟨g, 0, none⟩ = some (.int .i64 (-H)) := by rw [hwx]; exact d0
      have d1' : wc.cell? ⟨g, 1, none⟩ = some (.int .i64 f1) := by rw [hwx]; exact d1
      have d2' : wc.cell? ⟨h, 0, none⟩ = some (.int .i64 (W - H)) := by rw [hwx]; exact d2
      have d3' : wc.cell? ⟨h, 1, none⟩ = some (.int .i64 t1) := by rw [hwx]; exact d3
      have hbc' : Below w.heap.size w wc := by rw [hwx]; exact hbc.drew
      clear hwx d0 d1 d2 d3 d4 d5 hbc hg hh
      clear k0 k1 l0 l1 s0 s1 bb0 bb1
      rcases hway with ⟨h1, h2, h3, h4⟩ | ⟨h1, h2, h3, h4⟩
      all_goals
        go_wp2_with (go_at_call 28; refine (line_any _ _ _ _ _ _).mono ?_; rintro e w9 ⟨rfl, hb9⟩; obtain ⟨hc9, hf9⟩ := bcell hb9; have hz9 := hb9.size; (try simp at hz9); have hg9 : g < w9.heap.size := (by omega); have hh9 : h < w9.heap.size := (by omega))
        all_goals
          go_ret
          exact ⟨by first | rfl | (apply retb; simp; omega), by repeat' (first | exact Below.refl _ _ | (with_reducible assumption) | (refine bnext ?_ (by with_reducible assumption)) | (refine balloc ?_ _) | (refine below_drewN ?_ _) | (refine Below.drew ?_) | (refine bset ?_ (by simp; try omega) _))⟩

set_option maxRecDepth 100000 in
theorem lifted (os : Os) (started : os.Started) (H : Type) (enc : TypeId × Value → H) :
    ReturnsInHanded {} Try.checked os 10 .any (Rows.fixEndsSpec.pre6 enc Try.prog Try.f10 Rows.fixEndsRow.domain false) (Rows.fixEndsSpec.post enc Try.prog Try.f10 false true false false) := by
  refine returnsInHanded_of_change (C := Try.checked) ownKnob_none started (by kernel_rfl) Try.func10
    (ChangeSpec.witness6 (enc := enc) (C := Try.checked) false ⟨#[], #[.agg #[.int .i64 0, .int .i64 0], .int .u16 0, .agg #[.int .u16 0, .int .u16 0]], []⟩ 8 (by kernel_rfl) (by kernel_rfl) (by kernel_rfl) (by kernel_rfl)) ?_
  intro W base args ds gs before hval0 hW hcnd _
  have hval : ∀ (j : Nat) t v, Try.f10.params[j]? = some t → args[j]? = some v → Value.okWide Try.prog W .any base t v := hval0
  have hW' := hW
  obtain ⟨p, q, hA0, hV, rfl, hfz, hnd⟩ := hW
  have hA : DataW.TrodAll enc Try.prog W 0 (fun _ => true) true Try.f10.params.toList args.toList ds p := hA0
  rw [Try.params10] at hA hval
  obtain ⟨v0, vs0, d0, ds0, p0, q0, hargs, rfl, rfl, h0, r0⟩ := trodAll_cons hA
  obtain ⟨v1, vs1, d1, ds1, p1, q1, rfl, rfl, rfl, h1, r1⟩ := trodAll_cons r0
  obtain ⟨v2, vs2, d2, ds2, p2, q2, rfl, rfl, rfl, h2, r2⟩ := trodAll_cons r1
  obtain ⟨rfl, rfl, rfl⟩ := trodAll_nil r2
  obtain rfl : args = #[v0, v1, v2] := by cases args; simp_all
  obtain ⟨rfl, rfl⟩ := trodVars_none hV
  have k0 := h0
  have lt0 : ∀ x ∈ p0, x.block < W.heap.size := by obtain ⟨m, hm⟩ := k0; exact DataW.trod_lt m _ _ _ hm
  have k1 := h1
  have lt1 : ∀ x ∈ p1, x.block < W.heap.size := by obtain ⟨m, hm⟩ := k1; exact DataW.trod_lt m _ _ _ hm
  have k2 := h2
  have lt2 : ∀ x ∈ p2, x.block < W.heap.size := by obtain ⟨m, hm⟩ := k2; exact DataW.trod_lt m _ _ _ hm
  obtain ⟨a0, b0, rfl, wa0, wb0⟩ := open_arr2 Try.underlying23 Try.underlying3 (by kernel_rfl) (by kernel_rfl) (hval 0 23 v0 rfl rfl) h0
  obtain ⟨a1, rfl, rfl, rfl, wa1⟩ := open_int Try.underlying49 (hval 1 49 v1 rfl rfl) h1
  obtain ⟨a2, b2, rfl, wa2, wb2⟩ := open_arr2 Try.underlying50 Try.underlying49 (by kernel_rfl) (by kernel_rfl) (hval 2 50 v2 rfl rfl) h2
  clear hA0 hval0
  refine (walk a0 b0 a1 a2 b2 wa0 wb0 wa1 wa2 wb2 W).mono fun e W' ⟨he, bel⟩ => ?_
  subst he
  exact ⟨_, rfl, _, _, _, [], _, [], hW', trodAll_mk1 (shut_bool Try.underlying4 _), (trodAll_cons_mk (Below.trod laidOut (by kernel_rfl) (of_decide_eq_true (by kernel_rfl)) k0 bel lt0) (trodAll_cons_mk (Below.trod laidOut (by kernel_rfl) (of_decide_eq_true (by kernel_rfl)) k1 bel lt1) (trodAll_cons_mk (Below.trod laidOut (by kernel_rfl) (of_decide_eq_true (by kernel_rfl)) k2 bel lt2) trodAll_mk0))), rfl, bel.frame _, fun h => by cases h⟩

theorem over : Rows.fixEndsRow.holds Try.pinned (OpenSpec.ofChange Rows.fixEndsSpec) :=
  OpenClaim.holds_of_wide 10 Try.f10 rfl rfl rfl rfl rfl rfl rfl ⟨rfl, rfl, rfl, rfl, rfl⟩ rfl rfl rfl rfl rfl (by kernel_rfl) Try.func10 (by kernel_rfl)
    (of_decide_eq_true (by kernel_rfl)) (by unfold Func.isWrapper; first | (rw [if_pos (by decide +kernel)]; kernel_rfl) | (rw [if_neg (by decide +kernel)]; exact ⟨rfl, rfl⟩))
    (fun os started H enc _ => lifted os started H enc)

end Go.Proofs.Ytbfahfkommcpkaa.fixEnds
namespace Go.Proofs.Ytbfahfkommcpkaa
theorem fixEnds_proved : Rows.FixEndsSaid := fixEnds.over
#print axioms fixEnds_proved
end Go.Proofs.Ytbfahfkommcpkaa
