/- For every time and every trouble LinesLate returns true: a message is neither early nor later than both limits. No conditions. -/
import Derived.Test.YtgphdgalcbcamaaLn12
namespace Go.Proofs.Ytgphdgalcbcamaa.linesLate
open Go.ChangeShapes Go.WideShapes Go.ChangeAt Go.RowKit Go.Joins Go.Deep
set_option linter.unusedVariables false

set_option maxRecDepth 100000 in
set_option maxHeartbeats 4000000 in
theorem walk (a0 : Int) (x1 : Bool) (b1 : Int) (c1 : Int) (wa0 : (Lit.int .i64 a0).wf = true) (w : World) (H1 : trOk ⟨x1, b1, c1⟩) :
    Calls Try.prog 8 #[.int .i64 a0, .agg #[.bool x1, .int .i64 b1, .int .i64 c1]] w fun e w' => e = .returned (.bool true) ∧ Below w.heap.size w w' := by
  obtain ⟨hc1, hd1⟩ := H1
  dsimp only at hc1 hd1
  have hb0 := bd64 wa0
  go_enter Try.func8, Try.ntmps8
  go_wp2_with fail
  have HB0 := Lib.hid (balloc (Below.refl _ w) (.cells #[.bool x1, .int .i64 b1, .int .i64 c1] 43))
  have HX0 := Lib.hid (heap_alloc_new w (.cells #[.bool x1, .int .i64 b1, .int .i64 c1] 43))
  refine (sanity_any _).mono ?_
  rintro e w2 ⟨rfl, k2⟩
  have hx2 := (k2.block w.heap.size (by simp)).trans HX0.out
  have HB2 := Lib.hid (bnext HB0.out k2)
  have HX2 := Lib.hid hx2
  clear k2
  obtain ⟨X, hX⟩ : ∃ X, w.heap.size = X := ⟨_, rfl⟩
  try rw [hX]
  rw [hX] at hx2
  have HXE := Lib.hid hX
  have z0 : w2.cell? ⟨X, 0, none⟩ = some (.bool x1) := nd_cell hx2 rfl
  have z1 : w2.cell? ⟨X, 1, none⟩ = some (.int .i64 b1) := nd_cell hx2 rfl
  have z2 : w2.cell? ⟨X, 2, none⟩ = some (.int .i64 c1) := nd_cell hx2 rfl
  clear hx2 hX
  obtain ⟨T, hT⟩ : ∃ T : List Tr, [⟨x1, b1, c1⟩] = T := ⟨_, rfl⟩
  have hsrc := srcN_new w2 (trs [⟨x1, b1, c1⟩]) 43 3 1 1 rfl
  rw [hT] at hsrc
  have hTL : T.length = 1 := by rw [← hT]; rfl
  have hnw := new_any (w2.alloc (.cells (trs T).toArray 43)) 2 (.slice (some ⟨w2.heap.size, 0, none⟩) 1 1) T 1 hTL (by decide) hsrc
  rw [← hT] at hnw
  change Calls _ _ _ (w2.alloc (.cells #[.bool x1, .int .i64 b1, .int .i64 c1] 43)) _ at hnw
  have HNEW := Lib.hid hnw
  clear hsrc hnw hT hTL
  go_upto_region 3 with (go_at_call 11; refine HNEW.out.mono ?_; rintro x w3 ⟨M, rfl, hls, hb3⟩)
  have HB3 := Lib.hid (bnext (balloc HB2.out (.cells #[.bool x1, .int .i64 b1, .int .i64 c1] 43)) hb3)
  have hx3 := (hb3.block w.heap.size (by have := (Array.getElem?_eq_some_iff.1 HX2.out).1; simp; omega)).trans (((balloc (Below.refl _ w2) (.cells #[.bool x1, .int .i64 b1, .int .i64 c1] 43)).block w.heap.size (Array.getElem?_eq_some_iff.1 HX2.out).1).trans HX2.out)
  obtain ⟨F, hF⟩ : ∃ F, (fun b => (w2.alloc (.cells (trs [⟨x1, b1, c1⟩]).toArray 43)).heap.size ≤ b ∧ b < w3.heap.size) = F := ⟨_, rfl⟩
  have HF0 : Hid (∀ b, F b → w2.heap.size < b + 1) := Lib.hid fun b hb => by rw [← hF] at hb; have := hb.1; simp at this; omega
  rw [hF] at hls
  have HLS := Lib.hid hls
  have HX3 := Lib.hid hx3
  clear hls hx3 hb3 hF z0 z1 z2
  have HWS : Hid (w.heap.size < w2.heap.size) := Lib.hid (Array.getElem?_eq_some_iff.1 HX2.out).1
  have HQ0 : Hid (∀ V, FrS F w3 V → Below w.heap.size w V) := Lib.hid fun V hV => hV.below w HB3.out (fun b hb => by have := HF0.out b hb; have := HWS.out; omega)
  have HT : Hid (∀ V, FrS F w3 V → V.cell? ⟨X, 0, none⟩ = some (.bool x1) ∧ V.cell? ⟨X, 1, none⟩ = some (.int .i64 b1) ∧ V.cell? ⟨X, 2, none⟩ = some (.int .i64 c1)) := Lib.hid fun V hV => by
    have q := hV.nd HX3.out (fun h => by have := HF0.out _ h; have := HWS.out; omega)
    rw [HXE.out] at q
    exact ⟨nd_cell q rfl, nd_cell q rfl, nd_cell q rfl⟩
  go_wp2_with fail
  go_at_call 18
  refine (told_any _ _).mono ?_
  rintro x w4 ⟨rfl, hb4⟩
  have HS := Lib.hid (send_any (HLS.out.below hb4).here a0 0 1 ⟨#[120]⟩ (by decide) (by decide))
  have HB4 := Lib.hid (FrS.of (S := F) hb4)
  clear hb4
  go_wp2_with fail
  go_at_call 15
  refine HS.out.mono ?_
  rintro x w5 ⟨rfl, h5⟩
  have H5 := Lib.hid (LSr.glue HB4.out (fun b hb => .inl hb) h5)
  clear h5
  have ha1 := clp_bd a0 (show (0 : Int) ≤ 1048576 by decide)
  have ha2 := clp_bd c1 (show (0 : Int) ≤ 1048576 by decide)
  have hcb := clp_bd b1 (show (1 : Int) ≤ 9 by decide)
  obtain ⟨c, hc⟩ : ∃ c : Nat, clp b1 1 9 = (c : Int) := ⟨(clp b1 1 9).toNat, by omega⟩
  have hat : 0 ≤ a0 → a0 ≤ 1048576 → clp a0 0 1048576 = a0 := fun g1 g2 => by unfold clp; omega
  obtain ⟨a, ha⟩ : ∃ a, clp a0 0 1048576 + clp c1 0 1048576 = a := ⟨_, rfl⟩
  have hab : 0 ≤ a ∧ a ≤ 2097152 := by omega
  have hata : 0 ≤ a0 → a0 ≤ 1048576 → a0 ≤ a := fun g1 g2 => by have := hat g1 g2; omega
  obtain ⟨m, hm⟩ : ∃ m : Nat, (if x1 = true then 0 else c) = m := ⟨_, rfl⟩
  have hsp : sendP [⟨x1, b1, c1⟩] 2 0 a0 0 1 ⟨#[120]⟩ [] = cpr a 0 0 1 ⟨#[120]⟩ 0 m := by
    have h0 : tro [⟨x1, b1, c1⟩] 0 = ⟨x1, b1, c1⟩ := rfl
    unfold sendP
    rw [h0, nodes01.1, nodes01.2]
    dsimp only
    rw [ha, hc, Int.toNat_natCast, cps_cpr, ← hm]
    cases x1 <;> simp [cpr]
  rw [hsp] at H5
  have hm9 : m ≤ 9 := by rw [← hm]; split <;> omega
  have hmx : ((m : Int) == 0) = x1 := by
    rw [← hm]
    cases x1
    · simp
      omega
    · simp
  have HMX := Lib.hid hmx
  obtain ⟨hab0, hab1⟩ := hab
  clear hc ha hat ha1 ha2 hcb hsp hm hmx hc1 hd1 HS
  go_upto_region 6 with fail
  go_loopw [7, 8] (fun v7 v8 wr => ∃ i j : Nat, v7 = .int .i64 (i : Int) ∧ v8 = .int .i64 (i : Int) ∧ i + j = m ∧ Hid (LSr w3 F wr M 2 [⟨x1, b1, c1⟩] 1 (cpr a 0 0 1 ⟨#[120]⟩ i j))) (fun _ v _ => 20 - (intOf v).toNat)
  case atStart => exact ⟨0, m, rfl, rfl, by omega, H5⟩
  case round =>
    obtain ⟨i, j, rfl, rfl, hij, HR⟩ := hrel
    have hi20 : (i : Int) < 20 := by omega
    cases j with
    | zero =>
      obtain rfl : i = m := by omega
      have HN := Lib.hid (next_none HR.out)
      go_wp2_with fail
      go_at_call 20
      refine HN.out.mono ?_
      rintro x wx ⟨rfl, hx⟩
      have HX := Lib.hid (hx.below (balloc (Below.refl _ wx) ms0C))
      have HFI := Lib.hid (HQ0.out _ HX.out.1)
      clear hx
      go_upto_region 13 with fail
      obtain ⟨z0, -, -⟩ := HT.out _ HX.out.1
      have hi9 : (i : Int) ≤ 9 := by omega
      have hxx := HMX.out
      clear hij
      go_wp2
      go_ret
      exact ⟨by simp, HFI.out⟩
    | succ j =>
      have HN := Lib.hid (next_some HR.out (cpr_ord _ _) (by rw [cpr_len]; omega) (cpy a 0 0 1 ⟨#[120]⟩ i) (by rw [cpr_bs]; rfl))
      rw [cpr_bs] at HN
      have ht0 : ¬ a + (i : Int) < 0 := by omega
      have ht1 : ¬ (2097160 : Int) < a + (i : Int) := by omega
      have ht2 : 0 ≤ a0 → a0 ≤ 1048576 → ¬ a + (i : Int) < a0 := fun g1 g2 => by have := hata g1 g2; omega
      go_wp2_with fail
      go_at_call 20
      refine HN.out.mono ?_
      rintro x wx ⟨rfl, hx⟩
      have HX : Hid (LSr w3 F (wx.alloc (.cells #[.int .i64 0, .int .i64 1, .string ⟨#[120]⟩] 31)) M 2 [⟨x1, b1, c1⟩] 1 (cpr a 0 0 1 ⟨#[120]⟩ (i + 1) j)) := Lib.hid (hx.below (balloc (Below.refl _ wx) (.cells #[.int .i64 0, .int .i64 1, .string ⟨#[120]⟩] 31)))
      clear hx
      dsimp only [cpy]
      by_cases g1 : 0 ≤ a0
      · by_cases g2 : a0 ≤ 1048576
        · have ht3 := ht2 g1 g2
          clear hata ht2
          go_wp2
          go_roundw
          case rel => exact ⟨i + 1, j, by go_num, by go_num, by omega, HX⟩
          case measure => simp [intOf]; omega
        · clear hata ht2
          go_wp2
          go_roundw
          case rel => exact ⟨i + 1, j, by go_num, by go_num, by omega, HX⟩
          case measure => simp [intOf]; omega
      · clear hata ht2
        go_wp2
        go_roundw
        case rel => exact ⟨i + 1, j, by go_num, by go_num, by omega, HX⟩
        case measure => simp [intOf]; omega

set_option maxRecDepth 100000 in
theorem lifted (os : Os) (started : os.Started) (H : Type) (enc : TypeId × Value → H) :
    ReturnsInHanded {} Try.checked os 8 .any (Rows.linesLateSpec.pre6 enc Try.prog Try.f8 Rows.linesLateRow.domain false) (Rows.linesLateSpec.post enc Try.prog Try.f8 false true false false) := by
  refine returnsInHanded_of_change (C := Try.checked) own started (by kernel_rfl) Try.func8
    (ChangeSpec.witness6 (enc := enc) (C := Try.checked) false ⟨#[], #[.int .i64 0, .agg #[.bool false, .int .i64 0, .int .i64 0]], []⟩ 8 (by kernel_rfl) (by kernel_rfl) (by kernel_rfl) (by kernel_rfl)) ?_
  intro W base args ds gs before hval0 hW hcnd _
  have hval : ∀ (j : Nat) t v, Try.f8.params[j]? = some t → args[j]? = some v → Value.okWide Try.prog W .any base t v := hval0
  have hW' := hW
  obtain ⟨p, q, hA0, hV, rfl, hfz, hnd⟩ := hW
  have hA : DataW.TrodAll enc Try.prog W 0 (fun _ => true) true Try.f8.params.toList args.toList ds p := hA0
  rw [Try.params8] at hA hval
  obtain ⟨v0, vs0, d0, ds0, p0, q0, hargs, rfl, rfl, h0, r0⟩ := trodAll_cons hA
  obtain ⟨v1, vs1, d1, ds1, p1, q1, rfl, rfl, rfl, h1, r1⟩ := trodAll_cons r0
  obtain ⟨rfl, rfl, rfl⟩ := trodAll_nil r1
  obtain rfl : args = #[v0, v1] := by cases args; simp_all
  obtain ⟨rfl, rfl⟩ := trodVars_none hV
  have k0 := h0
  have lt0 : ∀ x ∈ p0, x.block < W.heap.size := by obtain ⟨m, hm⟩ := k0; exact DataW.trod_lt m _ _ _ hm
  have k1 := h1
  have lt1 : ∀ x ∈ p1, x.block < W.heap.size := by obtain ⟨m, hm⟩ := k1; exact DataW.trod_lt m _ _ _ hm
  obtain ⟨a0, rfl, rfl, rfl, wa0⟩ := open_int Try.underlying3 (hval 0 3 v0 rfl rfl) h0
  obtain ⟨x1, b1, c1, rfl, H1⟩ := open_tr (hval 1 43 v1 rfl rfl) h1
  clear hA0 hval0
  refine (walk a0 x1 b1 c1 wa0 W H1).mono fun e W' ⟨he, bel⟩ => ?_
  subst he
  exact ⟨_, rfl, _, _, _, [], _, [], hW', trodAll_mk1 (shut_bool Try.underlying4 _), (trodAll_cons_mk (Below.trod laidOut (by kernel_rfl) (of_decide_eq_true (by kernel_rfl)) k0 bel lt0) (trodAll_cons_mk (Below.trod laidOut (by kernel_rfl) (of_decide_eq_true (by kernel_rfl)) k1 bel lt1) trodAll_mk0)), rfl, bel.frame _, fun h => by cases h⟩

theorem over : Rows.linesLateRow.holds Try.pinned (OpenSpec.ofChange Rows.linesLateSpec) :=
  OpenClaim.holds_of_wide 8 Try.f8 rfl rfl rfl rfl rfl rfl rfl ⟨rfl, rfl, rfl, rfl, rfl⟩ rfl rfl rfl rfl rfl (by kernel_rfl) Try.func8 (by kernel_rfl)
    (of_decide_eq_true (by kernel_rfl)) (by unfold Func.isWrapper; first | (rw [if_pos (by decide +kernel)]; kernel_rfl) | (rw [if_neg (by decide +kernel)]; exact ⟨rfl, rfl⟩))
    (fun os started H enc _ => lifted os started H enc)

end Go.Proofs.Ytgphdgalcbcamaa.linesLate
namespace Go.Proofs.Ytgphdgalcbcamaa
theorem linesLate_proved : Rows.LinesLateSaid := linesLate.over
#print axioms linesLate_proved
end Go.Proofs.Ytgphdgalcbcamaa
