/- For all glyphs and every list of lists of numbers AttachRaw returns true: Places returns what the reference returns, for any glyphs (the first 12, with 5 anchors each), and with glyphs that numbers make before and behind them. No conditions. -/
import Derived.Test.YtpmmincophaaiaaAttRaw1
namespace Go.Proofs.Ytpmmincophaaiaa.attachRaw
open Go.ChangeShapes Go.WideShapes Go.ChangeAt Go.RowKit Go.Joins Go.Deep
set_option linter.unusedVariables false

set_option maxRecDepth 100000 in
set_option maxHeartbeats 8000000 in
theorem walk (v0 : Value) (a0 : List AT.Dr) (v1 : Value) (a1 : List (List Int))  (w : World) (H0 : DrArg w v0 a0) (H1 : LLAt w v1 a1) (L1 : a1.length ≤ maxLen ∧ ∀ a n c, v1 = .slice a n c → n ≤ c) :
    Calls Try.prog 4 #[v0, v1] w fun e w' => e = .returned (.bool true) ∧ Below w.heap.size w w' := by
  have HM : Hid (∀ V, Below w.heap.size w V → LLAt V v1 a1) := Lib.hid fun V hV => H1.keep hV
  have HDA : Hid (∀ V, Below w.heap.size w V → DrArg V v0 a0) := Lib.hid fun V hV => H0.keep hV
  obtain ⟨va, vc, hv1⟩ : ∃ va vc, v1 = .slice va a1.length vc := by obtain ⟨va, vc, e, -⟩ := H1; exact ⟨va, vc, e⟩
  obtain ⟨ra, rc, hv0, ⟨hrc1, hrc2⟩, -⟩ := H0
  subst hv1 hv0
  have L1' := L1.1
  obtain ⟨n, hn⟩ : ∃ n, a0.length = n := ⟨_, rfl⟩
  have HN := Lib.hid hn
  rw [hn] at HDA hrc1 ⊢
  unfold maxLen at hrc2
  obtain ⟨i0, hi, hz0, hz1, hz2⟩ := info_parts info_dr
  clear L1 H1 hn
  go_enter Try.func4, Try.ntmps4
  go_wp2_with fail
  refine (sane_any _).mono ?_
  rintro e w1 ⟨rfl, k1⟩
  have HB1 := Lib.hid k1
  clear k1
  go_wp2_with fail
  go_loopw [6, 7] (fun v6 v7 wr => ∃ (k : Nat) (U : List Value), v7 = .int .i64 (k : Int) ∧ k ≤ n ∧ k ≤ 12 ∧ wr.ownsRow w.heap.size 35 6 v6 k U ∧ Hid (∀ V, Below w.heap.size w V → DV V U ((a0.take k).map AT.cutD)) ∧ Below w.heap.size w wr) (fun _ v _ => n - (intOf v).toNat)
  case atStart => exact ⟨0, [], rfl, Nat.zero_le _, by omega, ⟨rfl, .inl ⟨rfl, rfl⟩⟩, Lib.hid (fun V hV => DV.nil V), HB1.out⟩
  case round =>
    obtain ⟨k, U, rfl, hk, hk12, hrow, HDV, hb⟩ := hrel
    have HB := Lib.hid hb
    obtain ⟨oa, oc, rfl⟩ := own_shape hrow
    have HROW := Lib.hid hrow
    clear hb hrow
    by_cases hin : k < n
    · have hii : (k : Int) < (n : Int) := by omega
      have hi0 : (0 : Int) ≤ (k : Int) := by omega
      by_cases hin12 : k < 12
      · have hii2 : (k : Int) < 12 := by omega
        obtain ⟨d, hd⟩ : ∃ d, a0[k]? = some d := ⟨a0[k]'(by rw [HN.out]; exact hin), List.getElem?_eq_getElem _⟩
        obtain ⟨aw, cw, e1, -, hcw⟩ := HDA.out w (Below.refl _ _)
        rw [HN.out] at e1
        injection e1 with e1 e2 e3
        subst e1 e3
        rcases hcw with h | ⟨g, o, rfl, hg, hcl⟩
        · rw [h] at hd
          simp at hd
        obtain ⟨ca, cn, cc, aa, ac, ha, ⟨hac1, hac2⟩, c0, c1, c2, c3, c4, c5⟩ := hcl k d hd
        have hag : Hid (∀ V, Below w.heap.size w V → AnAt V (.slice aa d.anchors.length ac) d.anchors) := Lib.hid (fun V hV => ha.keep hV)
        replace c0 := (HB.out.cell (p := ⟨g, o + k * 6, none⟩) hg).trans c0
        replace c1 := (HB.out.cell (p := ⟨g, o + k * 6 + 1, none⟩) hg).trans c1
        replace c2 := (HB.out.cell (p := ⟨g, o + k * 6 + 2, none⟩) hg).trans c2
        replace c3 := (HB.out.cell (p := ⟨g, o + k * 6 + 3, none⟩) hg).trans c3
        replace c4 := (HB.out.cell (p := ⟨g, o + k * 6 + 4, none⟩) hg).trans c4
        replace c5 := (HB.out.cell (p := ⟨g, o + k * 6 + 5, none⟩) hg).trans c5
        have HD := Lib.hid hd
        obtain ⟨m, hm⟩ : ∃ m, d.anchors.length = m := ⟨_, rfl⟩
        obtain ⟨mm, hmm⟩ : ∃ mm, min m 5 = mm := ⟨_, rfl⟩
        have hmn : min (m : Int) 5 = (mm : Int) := by omega
        have hif : (if (5 : Int) < (m : Int) then (5 : Int) else (m : Int)) = (mm : Int) := by split <;> omega
        have hmm0 : (0 : Int) ≤ (mm : Int) := by omega
        have hmac : (mm : Int) ≤ (ac : Int) := by omega
        rw [hm] at c1 hag
        have HM2 := Lib.hid hm
        have HMM := Lib.hid hmm
        clear hcl ha hd hm hmm
        go_upto_region 8 with fail
        obtain ⟨W1, hW1⟩ : ∃ W1, wr.alloc (.cells #[.slice ca cn cc, .slice aa mm ac, .int .i64 d.hang.1, .int .i64 d.hang.2.1, .int .i64 d.hang.2.2, .int .i64 d.adv] 35) = W1 := ⟨_, rfl⟩
        obtain ⟨G, hG⟩ : ∃ G, wr.heap.size = G := ⟨_, rfl⟩
        have hbx : DrB W1 G (.slice ca cn cc) (.slice aa mm ac) d := by rw [← hW1, ← hG]; exact heap_alloc_new wr _
        have hb1 : Below wr.heap.size wr W1 := by rw [← hW1]; exact balloc (Below.refl _ _) _
        rw [hW1, hG]
        obtain ⟨d0, d1, d2, d3, d4, d5⟩ := hbx.cells
        have HBW1 := Lib.hid (bnext HB.out hb1)
        have hrow1 := own_below HROW.out hb1
        have HROW1 := Lib.hid hrow1
        have hsz := HBW1.out.size
        clear hW1 hG hbx hb1 hrow1 c0 c1 c2 c3 c4 c5
        go_upto_region 5 with (at_builtin; refine wpList_append_own _ rfl _ _ 24 rfl w.heap.size 35 i0 (.agg #[.slice none 0 0, .slice none 0 0, .int .i64 0, .int .i64 0, .int .i64 0, .int .i64 0]) 6 80 Try.underlying24 hi hz0 hz1 hz2 rfl (by decide) _ _ _ rfl (HROW1.out.alloc _) ⟨W1.heap.size, 0, none⟩ 1 1 [.slice ca cn cc, .slice aa mm ac, .int .i64 d.hang.1, .int .i64 d.hang.2.1, .int .i64 d.hang.2.2, .int .i64 d.adv] rfl rfl (cells_src W1 _ _) (by simp [Value.oneCell']) (by unfold maxLen; omega) (by omega) (by simp; omega) ?_; intro v' w3 hown' hgrow _; obtain ⟨g', cap', rfl⟩ := ownsRow_succ hown')
        have HOWN := Lib.hid hown'
        have HB3 := Lib.hid ((balloc HBW1.out _).grown hgrow (by simp; omega) (fun j ej => (HROW1.out.lt j ej).1))
        have HDV3 : Hid (∀ V, Below w.heap.size w V → DV V (U ++ [.slice ca cn cc, .slice aa mm ac, .int .i64 d.hang.1, .int .i64 d.hang.2.1, .int .i64 d.hang.2.2, .int .i64 d.adv]) ((a0.take (k + 1)).map AT.cutD)) := Lib.hid (fun V hV => by
          rw [List.take_add_one, HD.out, List.map_append]
          have h1 := hag.out V hV
          have h2 := h1.take (k := mm) (by rw [HM2.out, ← HMM.out]; omega)
          have h3 : d.anchors.take mm = (AT.cutD d).anchors := by
            show d.anchors.take mm = d.anchors.take 5
            rw [← HMM.out, ← HM2.out]
            by_cases h5 : d.anchors.length ≤ 5
            · rw [Nat.min_eq_left h5, List.take_of_length_le (Nat.le_refl _), List.take_of_length_le h5]
            · rw [Nat.min_eq_right (by omega)]
          rw [h3] at h2
          exact (HDV.out V hV).app (dv_one (d := AT.cutD d) h2))
        clear hown' hgrow d0 d1 d2 d3 d4 d5
        go_wp2_with fail
        go_roundw
        case rel => exact ⟨k + 1, _, by go_num, hin, by omega, HOWN.out, HDV3, HB3.out⟩
        case measure => simp [intOf]; omega
      · have hii2 : ¬ (k : Int) < 12 := by omega
        have hkk : k ≤ 12 := by omega
        go_wp2_with fail
        refine (made_any a1 _ _ (HM.out _ HB.out) L1').mono ?_
        rintro e w2 ⟨u, X, rfl, ho, hm, k2⟩
        have hXl : X.length ≤ 12 := by
          have := AT.made_len a1
          rw [← hm, List.length_map] at this
          exact this
        have hXDV := ho.dv
        rw [hm] at hXDV
        have HXDV := Lib.hid hXDV
        obtain ⟨n2, hn2⟩ : ∃ n2, X.length = n2 := ⟨_, rfl⟩
        have hXr := ho.1
        obtain ⟨xa, xc, rfl⟩ := own_shape ho.1
        rw [hn2] at hXr hXl ⊢
        have HX := Lib.hid hXr
        have HN2 := Lib.hid hn2
        have HMM1 := Lib.hid hm
        have HB2 := Lib.hid (bnext HB.out k2)
        have HR2 := Lib.hid (own_below HROW.out k2)
        clear k2 ho hm hXDV hn2 hXr
        go_upto_region 11 with (first | (at_builtin; refine wpList_from _ rfl _ _ 24 rfl w2.heap.size 35 i0 (.agg #[.slice none 0 0, .slice none 0 0, .int .i64 0, .int .i64 0, .int .i64 0, .int .i64 0]) 6 80 Try.underlying24 hi hz0 hz1 hz2 rfl (by decide) (.slice (some ⟨w2.heap.size, 0, none⟩) 0 0) (0) _ rfl (own_empty w2 35 6 w2.heap.size (Nat.le_refl _)) (.slice xa n2 xc) _ (n2) _ rfl (own_below HX.out (balloc (Below.refl _ w2) _)) (HXDV.out.2.1) (by unfold maxLen; omega) (by omega) (by first | exact Nat.le_of_lt (by simp) | exact hbB.size | exact hbA.size) ?_; intro vA wA hownA hgrA; have hbA : Below w2.heap.size w2 wA := (balloc (Below.refl _ w2) _).grown hgrA (by simp) (fun q e => by simp [Value.ownBlock] at e; omega)) | (at_builtin; refine wpList_from _ rfl _ _ 24 rfl w2.heap.size 35 i0 (.agg #[.slice none 0 0, .slice none 0 0, .int .i64 0, .int .i64 0, .int .i64 0, .int .i64 0]) 6 80 Try.underlying24 hi hz0 hz1 hz2 rfl (by decide) (vA) (0 + n2) _ rfl (hownA) (.slice oa k oc) _ (k) _ rfl (own_below HR2.out hbA) ((HDV.out _ HB2.out).2.1) (by unfold maxLen; omega) (by omega) (by first | exact Nat.le_of_lt (by simp) | exact hbB.size | exact hbA.size) ?_; intro vB wB hownB hgrB; have hbB : Below w2.heap.size w2 wB := hbA.grown hgrB hbA.size (fun q e => (hownA.lt q e).1)) | (at_builtin; refine wpList_from _ rfl _ _ 24 rfl w2.heap.size 35 i0 (.agg #[.slice none 0 0, .slice none 0 0, .int .i64 0, .int .i64 0, .int .i64 0, .int .i64 0]) 6 80 Try.underlying24 hi hz0 hz1 hz2 rfl (by decide) (vB) (0 + n2 + k) _ rfl (hownB) (.slice xa n2 xc) _ (n2) _ rfl (own_below HX.out hbB) (HXDV.out.2.1) (by unfold maxLen; omega) (by omega) (by first | exact Nat.le_of_lt (by simp) | exact hbB.size | exact hbA.size) ?_; intro vC wC hownC hgrC; have hbC : Below w2.heap.size w2 wC := hbB.grown hgrC hbB.size (fun q e => (hownB.lt q e).1)))
        obtain ⟨O, hO⟩ : ∃ O, (a0.take k).map AT.cutD = O := ⟨_, rfl⟩
        rw [hO] at HDV
        have hOl : O.length = k := by rw [← hO, List.length_map, List.length_take, HN.out]; omega
        have HOA : Hid (∀ d ∈ O, d.anchors.length ≤ 1000000000000) := Lib.hid (by
          rw [← hO]
          intro d hd
          obtain ⟨d', -, rfl⟩ := List.mem_map.1 hd
          show (d'.anchors.take 5).length ≤ _
          rw [List.length_take]
          omega)
        have HBC := Lib.hid (bnext HB2.out hbC)
        have HdO : Hid (∀ V, Below wC.heap.size wC V → DsAt V (.slice oa k oc) O) := Lib.hid (fun V hV => own_dv (own_below (own_below HR2.out hbC) hV) (HDV.out V (bnext HBC.out hV)) hOl.symm)
        obtain ⟨T, hT⟩ : ∃ T, (AT.made a1 ++ O) ++ AT.made a1 = T := ⟨_, rfl⟩
        have hml : (AT.made a1).length = n2 := by rw [← HMM1.out, List.length_map, HN2.out]
        have hTl : T.length = n2 + k + n2 := by rw [← hT, List.length_append, List.length_append, hml, hOl]
        have HTA : Hid (∀ d ∈ T, d.anchors.length ≤ 1000000000000) := Lib.hid (by
          rw [← hT]
          intro d hd
          rcases List.mem_append.1 hd with hd | hd
          · rcases List.mem_append.1 hd with hd | hd
            · exact AT.made_anch a1 d hd
            · exact HOA.out d hd
          · exact AT.made_anch a1 d hd)
        obtain ⟨r, hr⟩ : ∃ r, 0 + n2 + k + n2 = r := ⟨_, rfl⟩
        have hrT : r = T.length := by omega
        rw [hr] at hownC
        obtain ⟨ta, tc, rfl⟩ := own_shape hownC
        have HdT : Hid (∀ V, Below wC.heap.size wC V → DsAt V (.slice ta r tc) T) := Lib.hid (fun V hV => by
          refine own_dv (own_below hownC hV) ?_ hrT
          have h1 := HXDV.out.keep hbC
          have h2 := HDV.out wC HBC.out
          have h3 := (((DV.nil wC).app h1).app h2).app h1
          have h4 : (([] ++ AT.made a1) ++ O) ++ AT.made a1 = T := by rw [List.nil_append]; exact hT
          rw [h4] at h3
          exact h3.keep hV)
        have hOl12 : O.length ≤ 12 := by omega
        have hTl36 : T.length ≤ 36 := by omega
        clear hownA hownB hownC hgrA hgrB hgrC hO hT hr hrT hTl hOl hml hbA hbB hbC
        go_wp2_with fail
        refine (mplaces_c O _ _ (by omega) HOA.out (HdO.out _ (Below.refl _ _))).mono ?_
        rintro e wO1 ⟨pO, qO, rfl, hpO, kO1⟩
        have HbO1 := Lib.hid (bnext (Below.refl wC.heap.size wC) kO1)
        have HpO1 := Lib.hid hpO
        clear kO1 hpO
        go_wp2_with fail
        refine (mrplaces_c O _ _ (by omega) HOA.out (HdO.out _ HbO1.out)).mono ?_
        rintro e wO2 ⟨rO, sO, rfl, hrO, kO2⟩
        have HbO2 := Lib.hid (bnext HbO1.out kO2)
        have HpO2 := Lib.hid (HpO1.out.keep kO2)
        have HrO2 := Lib.hid hrO
        clear kO2 hrO
        go_wp2_with fail
        refine (same_c (AT.places O) _ _ _ HpO2.out HrO2.out (by have := places_len O; omega)).mono ?_
        rintro e wO3 ⟨rfl, kO3⟩
        have HbO3 := Lib.hid (bnext HbO2.out kO3)
        clear kO3
        go_wp2_with fail
        refine (mplaces_c T _ _ (by omega) HTA.out (HdT.out _ HbO3.out)).mono ?_
        rintro e wT1 ⟨pT, qT, rfl, hpT, kT1⟩
        have HbT1 := Lib.hid (bnext HbO3.out kT1)
        have HpT1 := Lib.hid hpT
        clear kT1 hpT
        go_wp2_with fail
        refine (mrplaces_c T _ _ (by omega) HTA.out (HdT.out _ HbT1.out)).mono ?_
        rintro e wT2 ⟨rT, sT, rfl, hrT, kT2⟩
        have HbT2 := Lib.hid (bnext HbT1.out kT2)
        have HpT2 := Lib.hid (HpT1.out.keep kT2)
        have HrT2 := Lib.hid hrT
        clear kT2 hrT
        go_wp2_with fail
        refine (same_c (AT.places T) _ _ _ HpT2.out HrT2.out (by have := places_len T; omega)).mono ?_
        rintro e wT3 ⟨rfl, kT3⟩
        have HbT3 := Lib.hid (bnext HbT2.out kT3)
        clear kT3
        go_wp2
        go_ret
        exact ⟨rfl, bnext HBC.out HbT3.out⟩
    · have hii : ¬ (k : Int) < (n : Int) := by omega
      have hkk : k ≤ 12 := by omega
      go_wp2_with fail
      refine (made_any a1 _ _ (HM.out _ HB.out) L1').mono ?_
      rintro e w2 ⟨u, X, rfl, ho, hm, k2⟩
      have hXl : X.length ≤ 12 := by
        have := AT.made_len a1
        rw [← hm, List.length_map] at this
        exact this
      have hXDV := ho.dv
      rw [hm] at hXDV
      have HXDV := Lib.hid hXDV
      obtain ⟨n2, hn2⟩ : ∃ n2, X.length = n2 := ⟨_, rfl⟩
      have hXr := ho.1
      obtain ⟨xa, xc, rfl⟩ := own_shape ho.1
      rw [hn2] at hXr hXl ⊢
      have HX := Lib.hid hXr
      have HN2 := Lib.hid hn2
      have HMM1 := Lib.hid hm
      have HB2 := Lib.hid (bnext HB.out k2)
      have HR2 := Lib.hid (own_below HROW.out k2)
      clear k2 ho hm hXDV hn2 hXr
      go_upto_region 11 with (first | (at_builtin; refine wpList_from _ rfl _ _ 24 rfl w2.heap.size 35 i0 (.agg #[.slice none 0 0, .slice none 0 0, .int .i64 0, .int .i64 0, .int .i64 0, .int .i64 0]) 6 80 Try.underlying24 hi hz0 hz1 hz2 rfl (by decide) (.slice (some ⟨w2.heap.size, 0, none⟩) 0 0) (0) _ rfl (own_empty w2 35 6 w2.heap.size (Nat.le_refl _)) (.slice xa n2 xc) _ (n2) _ rfl (own_below HX.out (balloc (Below.refl _ w2) _)) (HXDV.out.2.1) (by unfold maxLen; omega) (by omega) (by first | exact Nat.le_of_lt (by simp) | exact hbB.size | exact hbA.size) ?_; intro vA wA hownA hgrA; have hbA : Below w2.heap.size w2 wA := (balloc (Below.refl _ w2) _).grown hgrA (by simp) (fun q e => by simp [Value.ownBlock] at e; omega)) | (at_builtin; refine wpList_from _ rfl _ _ 24 rfl w2.heap.size 35 i0 (.agg #[.slice none 0 0, .slice none 0 0, .int .i64 0, .int .i64 0, .int .i64 0, .int .i64 0]) 6 80 Try.underlying24 hi hz0 hz1 hz2 rfl (by decide) (vA) (0 + n2) _ rfl (hownA) (.slice oa k oc) _ (k) _ rfl (own_below HR2.out hbA) ((HDV.out _ HB2.out).2.1) (by unfold maxLen; omega) (by omega) (by first | exact Nat.le_of_lt (by simp) | exact hbB.size | exact hbA.size) ?_; intro vB wB hownB hgrB; have hbB : Below w2.heap.size w2 wB := hbA.grown hgrB hbA.size (fun q e => (hownA.lt q e).1)) | (at_builtin; refine wpList_from _ rfl _ _ 24 rfl w2.heap.size 35 i0 (.agg #[.slice none 0 0, .slice none 0 0, .int .i64 0, .int .i64 0, .int .i64 0, .int .i64 0]) 6 80 Try.underlying24 hi hz0 hz1 hz2 rfl (by decide) (vB) (0 + n2 + k) _ rfl (hownB) (.slice xa n2 xc) _ (n2) _ rfl (own_below HX.out hbB) (HXDV.out.2.1) (by unfold maxLen; omega) (by omega) (by first | exact Nat.le_of_lt (by simp) | exact hbB.size | exact hbA.size) ?_; intro vC wC hownC hgrC; have hbC : Below w2.heap.size w2 wC := hbB.grown hgrC hbB.size (fun q e => (hownB.lt q e).1)))
      obtain ⟨O, hO⟩ : ∃ O, (a0.take k).map AT.cutD = O := ⟨_, rfl⟩
      rw [hO] at HDV
      have hOl : O.length = k := by rw [← hO, List.length_map, List.length_take, HN.out]; omega
      have HOA : Hid (∀ d ∈ O, d.anchors.length ≤ 1000000000000) := Lib.hid (by
        rw [← hO]
        intro d hd
        obtain ⟨d', -, rfl⟩ := List.mem_map.1 hd
        show (d'.anchors.take 5).length ≤ _
        rw [List.length_take]
        omega)
      have HBC := Lib.hid (bnext HB2.out hbC)
      have HdO : Hid (∀ V, Below wC.heap.size wC V → DsAt V (.slice oa k oc) O) := Lib.hid (fun V hV => own_dv (own_below (own_below HR2.out hbC) hV) (HDV.out V (bnext HBC.out hV)) hOl.symm)
      obtain ⟨T, hT⟩ : ∃ T, (AT.made a1 ++ O) ++ AT.made a1 = T := ⟨_, rfl⟩
      have hml : (AT.made a1).length = n2 := by rw [← HMM1.out, List.length_map, HN2.out]
      have hTl : T.length = n2 + k + n2 := by rw [← hT, List.length_append, List.length_append, hml, hOl]
      have HTA : Hid (∀ d ∈ T, d.anchors.length ≤ 1000000000000) := Lib.hid (by
        rw [← hT]
        intro d hd
        rcases List.mem_append.1 hd with hd | hd
        · rcases List.mem_append.1 hd with hd | hd
          · exact AT.made_anch a1 d hd
          · exact HOA.out d hd
        · exact AT.made_anch a1 d hd)
      obtain ⟨r, hr⟩ : ∃ r, 0 + n2 + k + n2 = r := ⟨_, rfl⟩
      have hrT : r = T.length := by omega
      rw [hr] at hownC
      obtain ⟨ta, tc, rfl⟩ := own_shape hownC
      have HdT : Hid (∀ V, Below wC.heap.size wC V → DsAt V (.slice ta r tc) T) := Lib.hid (fun V hV => by
        refine own_dv (own_below hownC hV) ?_ hrT
        have h1 := HXDV.out.keep hbC
        have h2 := HDV.out wC HBC.out
        have h3 := (((DV.nil wC).app h1).app h2).app h1
        have h4 : (([] ++ AT.made a1) ++ O) ++ AT.made a1 = T := by rw [List.nil_append]; exact hT
        rw [h4] at h3
        exact h3.keep hV)
      have hOl12 : O.length ≤ 12 := by omega
      have hTl36 : T.length ≤ 36 := by omega
      clear hownA hownB hownC hgrA hgrB hgrC hO hT hr hrT hTl hOl hml hbA hbB hbC
      go_wp2_with fail
      refine (mplaces_c O _ _ (by omega) HOA.out (HdO.out _ (Below.refl _ _))).mono ?_
      rintro e wO1 ⟨pO, qO, rfl, hpO, kO1⟩
      have HbO1 := Lib.hid (bnext (Below.refl wC.heap.size wC) kO1)
      have HpO1 := Lib.hid hpO
      clear kO1 hpO
      go_wp2_with fail
      refine (mrplaces_c O _ _ (by omega) HOA.out (HdO.out _ HbO1.out)).mono ?_
      rintro e wO2 ⟨rO, sO, rfl, hrO, kO2⟩
      have HbO2 := Lib.hid (bnext HbO1.out kO2)
      have HpO2 := Lib.hid (HpO1.out.keep kO2)
      have HrO2 := Lib.hid hrO
      clear kO2 hrO
      go_wp2_with fail
      refine (same_c (AT.places O) _ _ _ HpO2.out HrO2.out (by have := places_len O; omega)).mono ?_
      rintro e wO3 ⟨rfl, kO3⟩
      have HbO3 := Lib.hid (bnext HbO2.out kO3)
      clear kO3
      go_wp2_with fail
      refine (mplaces_c T _ _ (by omega) HTA.out (HdT.out _ HbO3.out)).mono ?_
      rintro e wT1 ⟨pT, qT, rfl, hpT, kT1⟩
      have HbT1 := Lib.hid (bnext HbO3.out kT1)
      have HpT1 := Lib.hid hpT
      clear kT1 hpT
      go_wp2_with fail
      refine (mrplaces_c T _ _ (by omega) HTA.out (HdT.out _ HbT1.out)).mono ?_
      rintro e wT2 ⟨rT, sT, rfl, hrT, kT2⟩
      have HbT2 := Lib.hid (bnext HbT1.out kT2)
      have HpT2 := Lib.hid (HpT1.out.keep kT2)
      have HrT2 := Lib.hid hrT
      clear kT2 hrT
      go_wp2_with fail
      refine (same_c (AT.places T) _ _ _ HpT2.out HrT2.out (by have := places_len T; omega)).mono ?_
      rintro e wT3 ⟨rfl, kT3⟩
      have HbT3 := Lib.hid (bnext HbT2.out kT3)
      clear kT3
      go_wp2
      go_ret
      exact ⟨rfl, bnext HBC.out HbT3.out⟩

set_option maxRecDepth 100000 in
theorem lifted (os : Os) (started : os.Started) (H : Type) (enc : TypeId × Value → H) :
    ReturnsInHanded {} Try.checked os 4 .any (Rows.attachRawSpec.pre6 enc Try.prog Try.f4 Rows.attachRawRow.domain false) (Rows.attachRawSpec.post enc Try.prog Try.f4 false true false false) := by
  refine returnsInHanded_of_change (C := Try.checked) own started (by kernel_rfl) Try.func4
    (ChangeSpec.witness6 (enc := enc) (C := Try.checked) false ⟨#[], #[.slice none 0 0, .slice none 0 0], []⟩ 8 (by kernel_rfl) (by kernel_rfl) (by kernel_rfl) (by kernel_rfl)) ?_
  intro W base args ds gs before hval0 hW hcnd _
  have hval : ∀ (j : Nat) t v, Try.f4.params[j]? = some t → args[j]? = some v → Value.okWide Try.prog W .any base t v := hval0
  have hW' := hW
  obtain ⟨p, q, hA0, hV, rfl, hfz, hnd⟩ := hW
  have hA : DataW.TrodAll enc Try.prog W 0 (fun _ => true) true Try.f4.params.toList args.toList ds p := hA0
  rw [Try.params4] at hA hval
  obtain ⟨v0, vs0, d0, ds0, p0, q0, hargs, rfl, rfl, h0, r0⟩ := trodAll_cons hA
  obtain ⟨v1, vs1, d1, ds1, p1, q1, rfl, rfl, rfl, h1, r1⟩ := trodAll_cons r0
  obtain ⟨rfl, rfl, rfl⟩ := trodAll_nil r1
  obtain rfl : args = #[v0, v1] := by cases args; simp_all
  obtain ⟨rfl, rfl⟩ := trodVars_none hV
  have k0 := h0
  have lt0 : ∀ x ∈ p0, x.block < W.heap.size := by obtain ⟨m, hm⟩ := k0; exact DataW.trod_lt m _ _ _ hm
  have k1 := h1
  have lt1 : ∀ x ∈ p1, x.block < W.heap.size := by obtain ⟨m, hm⟩ := k1; exact DataW.trod_lt m _ _ _ hm
  obtain ⟨a0, H0⟩ := open_drs (hval 0 24 v0 rfl rfl) h0
  obtain ⟨a1, H1, L1⟩ := open_lll (hval 1 22 v1 rfl rfl) h1
  clear hA0 hval0
  refine (walk v0 a0 v1 a1  W H0 H1 L1).mono fun e W' ⟨he, bel⟩ => ?_
  subst he
  exact ⟨_, rfl, _, _, _, [], _, [], hW', trodAll_mk1 (shut_bool Try.underlying4 _), (trodAll_cons_mk (Below.trod laidOut (by kernel_rfl) (of_decide_eq_true (by kernel_rfl)) k0 bel lt0) (trodAll_cons_mk (Below.trod laidOut (by kernel_rfl) (of_decide_eq_true (by kernel_rfl)) k1 bel lt1) trodAll_mk0)), rfl, bel.frame _, fun h => by cases h⟩

theorem over : Rows.attachRawRow.holds Try.pinned (OpenSpec.ofChange Rows.attachRawSpec) :=
  OpenClaim.holds_of_wide 4 Try.f4 rfl rfl rfl rfl rfl rfl rfl ⟨rfl, rfl, rfl, rfl, rfl⟩ rfl rfl rfl rfl rfl (by kernel_rfl) Try.func4 (by kernel_rfl)
    (of_decide_eq_true (by kernel_rfl)) (by unfold Func.isWrapper; first | (rw [if_pos (by decide +kernel)]; kernel_rfl) | (rw [if_neg (by decide +kernel)]; exact ⟨rfl, rfl⟩))
    (fun os started H enc _ => lifted os started H enc)

end Go.Proofs.Ytpmmincophaaiaa.attachRaw
namespace Go.Proofs.Ytpmmincophaaiaa
theorem attachRaw_proved : Rows.AttachRawSaid := attachRaw.over
#print axioms attachRaw_proved
end Go.Proofs.Ytpmmincophaaiaa
