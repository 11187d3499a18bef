/- For every budget, all acts, every key and size MemoryErrors returns true: with an error nothing changes. No conditions. -/
import Derived.Test.YtmnajongifdajaaMem36
namespace Go.Proofs.Ytmnajongifdajaa.memoryErrors
open Go.ChangeShapes Go.WideShapes Go.ChangeAt Go.RowKit Go.Joins Go.Deep ME
set_option linter.unusedVariables false

set_option maxRecDepth 100000 in
set_option maxHeartbeats 4000000 in
theorem walk (a0 : Int) (v1 : Value) (a1 : List Ac) (a2 : Int) (b2 : Int) (c2 : Int) (d2 : Int) (wa0 : (Lit.int .u8 a0).wf = true) (w : World) (H1 : AcArg w v1 a1) (H2 : (Lit.int .i64 a2).wf = true ∧ (Lit.int .i64 b2).wf = true ∧ (Lit.int .i64 c2).wf = true ∧ (Lit.int .i64 d2).wf = true) :
    Calls Try.prog 7 #[.int .u8 a0, v1, .agg #[.int .i64 a2, .int .i64 b2, .int .i64 c2, .int .i64 d2]] w fun e w' => e = .returned (.bool true) ∧ Below w.heap.size w w' := by
  have HM : Hid (∀ V, Below w.heap.size w V → AcArg V v1 a1) := Lib.hid fun V hV => H1.keep hV
  clear H1
  have h8 := bd8 wa0
  have hre : a0.tmod 64 = a0 % 64 := Int.tmod_eq_emod_of_nonneg h8.1
  obtain ⟨bu, hbu⟩ : ∃ bu, a0 % 64 = bu := ⟨_, rfl⟩
  have hbu0 : 0 ≤ bu := by omega
  have hbu1 : bu < 64 := by omega
  rw [hbu] at hre
  obtain ⟨wa2, wb2, wc2, wd2⟩ := H2
  have HKO : Hid (K4ok (7, a2, b2, c2)) := Lib.hid ⟨⟨by omega, by omega⟩, bd64 wa2, bd64 wb2, bd64 wc2⟩
  have hd2 := bd64 wd2
  go_enter Try.func7, Try.ntmps7
  go_wp2_with fail
  have HT1 := Lib.hid (balloc (Below.refl _ w) (.cells #[.int .i64 a2, .int .i64 b2, .int .i64 c2, .int .i64 d2] 59))
  have HX1 := Lib.hid (heap_alloc_new w (.cells #[.int .i64 a2, .int .i64 b2, .int .i64 c2, .int .i64 d2] 59))
  refine (sanity_any _).mono ?_
  rintro e w2 ⟨rfl, k2⟩
  have HB2 := Lib.hid (bnext HT1.out k2)
  have HX2 := Lib.hid ((k2.block w.heap.size (by simp)).trans HX1.out)
  clear k2
  go_wp2_with fail
  go_at_call 11
  refine (filled_yes w2 bu v1 a1 hbu0 (by omega) (HM.out _ HB2.out)).mono ?_
  rintro e w3 ⟨M, mb, root, r, H, rfl, hps, hH, k3⟩
  obtain ⟨F, hms, hFH⟩ := hps.ms
  obtain ⟨P, hP⟩ : ∃ P, ME.acts bu (a1.take 60) [] = P := ⟨_, rfl⟩
  have HNO : Hid (∀ e ∈ P, e.key ≠ (7, a2, b2, c2)) := Lib.hid (by rw [← hP]; exact ME.acts_no7 bu _ _ rfl)
  rw [hP] at hms
  have HMS := Lib.hid hms
  have HOK := Lib.hid hms.ok
  have HF3 : Hid (∀ b, F b → w2.heap.size ≤ b) := Lib.hid fun b hb => hH b (hFH b hb)
  have hx3 := (k3.block w.heap.size (Array.getElem?_eq_some_iff.1 HX2.out).1).trans HX2.out
  have HX3 := Lib.hid hx3
  have HG : Hid (w.heap.size < w2.heap.size) := Lib.hid (Array.getElem?_eq_some_iff.1 HX2.out).1
  have HB3 := Lib.hid (bnext HB2.out k3)
  have HK3 := Lib.hid k3
  clear hps hms hP hH hFH hx3 k3
  go_upto_region 5 with fail
  go_wp2_with fail
  go_at_call 18
  refine (list_s HMS.out.here (by omega)).mono ?_
  rintro e w4 ⟨v4, rfl, row4, k4⟩
  obtain ⟨n, hn⟩ : ∃ n, (P.map En.key).length = n := ⟨_, rfl⟩
  rw [hn] at row4
  have HN := Lib.hid hn
  clear hn
  obtain ⟨la, lc, rfl⟩ := own_shape row4
  have HR4 := Lib.hid row4
  have HM4 := Lib.hid (HMS.out.below k4)
  have HK4 := Lib.hid (bnext HK3.out k4)
  have hx4 := (k4.block w.heap.size (Array.getElem?_eq_some_iff.1 HX3.out).1).trans HX3.out
  have HX4 := Lib.hid hx4
  have HS3 := Lib.hid k4.size
  clear row4 k4
  go_wp2_with fail
  go_at_call 19
  refine (used_s HM4.out.here).mono ?_
  rintro e w5 ⟨rfl, he⟩
  have he' := he.symm
  subst he'
  have c0 : w4.cell? ⟨w.heap.size, 0, none⟩ = some (.int .i64 a2) := nd_cell hx4 rfl
  have c1 : w4.cell? ⟨w.heap.size, 1, none⟩ = some (.int .i64 b2) := nd_cell hx4 rfl
  have c2' : w4.cell? ⟨w.heap.size, 2, none⟩ = some (.int .i64 c2) := nd_cell hx4 rfl
  have c3 : w4.cell? ⟨w.heap.size, 3, none⟩ = some (.int .i64 d2) := nd_cell hx4 rfl
  clear hx4
  go_upto_region 7 with fail
  clear c0 c1 c2' c3
  have hb5 := balloc (Below.refl _ w4) (.cells #[.int .i64 7, .int .i64 a2, .int .i64 b2, .int .i64 c2] 34)
  have b5 := heap_alloc_new w4 (.cells #[.int .i64 7, .int .i64 a2, .int .i64 b2, .int .i64 c2] 34)
  obtain ⟨X, hX⟩ : ∃ X, w4.heap.size = X := ⟨_, rfl⟩
  obtain ⟨W5, hW5⟩ : ∃ W5, w4.alloc (.cells #[.int .i64 7, .int .i64 a2, .int .i64 b2, .int .i64 c2] 34) = W5 := ⟨_, rfl⟩
  rw [hW5] at hb5 b5
  rw [hW5]
  rw [hX] at b5
  rw [hX]
  have HM5 := Lib.hid (HM4.out.below hb5)
  have HBW := Lib.hid (bnext (bnext HB2.out HK4.out) hb5)
  have HS : Hid (∀ V, FrS F W5 V → V.cell? ⟨X, 0, none⟩ = some (.int .i64 7) ∧ V.cell? ⟨X, 1, none⟩ = some (.int .i64 a2) ∧ V.cell? ⟨X, 2, none⟩ = some (.int .i64 b2) ∧ V.cell? ⟨X, 3, none⟩ = some (.int .i64 c2) ∧ V.cell? ⟨w.heap.size, 3, none⟩ = some (.int .i64 d2) ∧ V.ownsRow w3.heap.size 34 4 (.slice la n lc) n (ME.kc (P.map En.key))) := Lib.hid fun V hV => by
    have q5 := hV.nd b5 (fun h => by have := HMS.out.lt X h; have := HS3.out; omega)
    have q1 := hV.nd ((hb5.block w.heap.size (Array.getElem?_eq_some_iff.1 HX4.out).1).trans HX4.out) (fun h => by have := HF3.out _ h; have := HG.out; omega)
    exact ⟨nd_cell q5 rfl, nd_cell q5 rfl, nd_cell q5 rfl, nd_cell q5 rfl, nd_cell q1 rfl, row_keepF (own_below HR4.out hb5) hV HMS.out.lt⟩
  clear hb5 b5 hW5 hX
  obtain ⟨t0, t1, t2, t3, t4, row⟩ := HS.out W5 (FrS.refl _ _)
  go_wp2_with fail
  go_at_call 14
  refine (use_c (7, a2, b2, c2) HKO.out HM5.out.here (ME.use_no HNO.out)).mono ?_
  rintro e w6 ⟨rfl, s6⟩
  have S6 := Lib.hid s6
  clear s6 t0 t1 t2 t3 t4 row
  obtain ⟨t0, t1, t2, t3, t4, row⟩ := HS.out w6 S6.out.1
  go_wp2_with fail
  go_at_call 15
  refine (pin_c (7, a2, b2, c2) true HKO.out S6.out (ME.pin_no true HNO.out)).mono ?_
  rintro e w7 ⟨rfl, s7⟩
  have S7 := Lib.hid s7
  clear s7 t0 t1 t2 t3 t4 row
  obtain ⟨t0, t1, t2, t3, t4, row⟩ := HS.out w7 S7.out.1
  go_wp2_with fail
  go_at_call 16
  refine (drop_c (7, a2, b2, c2) HKO.out S7.out (ME.drop_no HNO.out)).mono ?_
  rintro e w8 ⟨rfl, s8⟩
  have S8 := Lib.hid s8
  clear s8 t0 t1 t2 t3 t4 row
  go_upto_region 9 with fail
  by_cases hd : d2 < 0
  · have hde : ¬ d2 ≥ 0 := by omega
    have HPUT := Lib.hid (ME.put_arg1 (k := (7, a2, b2, c2)) (bu := bu) (P := P) (s := d2) (.inl hd))
    obtain ⟨t0, t1, t2, t3, t4, row⟩ := HS.out w8 S8.out.1
    go_wp2_with fail
    go_at_call 17
    refine (put_c (7, a2, b2, c2) d2 HKO.out S8.out (by omega) HPUT.out).mono ?_
    rintro e w9 ⟨v9, rfl, s9⟩
    have S9 := Lib.hid s9
    clear s9 t0 t1 t2 t3 t4 row
    go_upto_region 10 with fail
    obtain ⟨t0, t1, t2, t3, t4, row⟩ := HS.out w9 S9.out.1
    go_wp2_with fail
    go_at_call 17
    refine (put_c (7, a2, b2, c2) 65536 HKO.out S9.out (by omega) (ME.put_full S9.out.ok (by omega) (by omega) (by omega))).mono ?_
    rintro e w10 ⟨v10, rfl, s10⟩
    have S10 := Lib.hid s10
    clear s10 t0 t1 t2 t3 t4 row
    obtain ⟨t0, t1, t2, t3, t4, row⟩ := HS.out w10 S10.out.1
    go_upto_region 14 with fail
    clear t0 t1 t2 t3 t4
    go_wp2_with fail
    go_at_call 18
    refine (list_s S10.out (by omega)).mono ?_
    rintro e w11 ⟨v11, rfl, row11, k11⟩
    have S11 := Lib.hid (S10.out.below k11)
    have HSM := Lib.hid (same_any w11 (.slice la n lc) v11 (P.map En.key) (P.map En.key) (by rw [HN.out]; exact own_srcN (own_below row k11)) (own_srcN row11) (by have := S10.out.l1; rw [List.length_map]; omega) (by have := S10.out.l1; rw [List.length_map]; omega))
    rw [decide_eq_true rfl] at HSM
    clear row row11 k11
    go_wp2_with fail
    go_at_call 20
    refine HSM.out.mono ?_
    rintro e w12 ⟨rfl, nq, rfl⟩
    have S12 := Lib.hid (S11.out.below (w' := w11.drewN nq) ⟨rfl, rfl, rfl, Nat.le_refl _, fun _ _ => rfl⟩)
    have HFI := Lib.hid (S12.out.to_below HBW.out (fun b hb => Nat.le_trans (Nat.le_of_lt HG.out) (HF3.out b hb)))
    go_wp2_with fail
    go_at_call 19
    refine (used_s S12.out).mono ?_
    rintro e w13 ⟨rfl, he⟩
    have he' := he.symm
    subst he'
    go_wp2
    go_ret
    exact ⟨by simp, HFI.out⟩
  · by_cases hd' : 65536 < d2
    · have hde : ¬ d2 ≤ 65536 := by omega
      have HPUT := Lib.hid (ME.put_arg1 (k := (7, a2, b2, c2)) (bu := bu) (P := P) (s := d2) (.inr hd'))
      obtain ⟨t0, t1, t2, t3, t4, row⟩ := HS.out w8 S8.out.1
      go_wp2_with fail
      go_at_call 17
      refine (put_c (7, a2, b2, c2) d2 HKO.out S8.out (by omega) HPUT.out).mono ?_
      rintro e w9 ⟨v9, rfl, s9⟩
      have S9 := Lib.hid s9
      clear s9 t0 t1 t2 t3 t4 row
      go_upto_region 10 with fail
      obtain ⟨t0, t1, t2, t3, t4, row⟩ := HS.out w9 S9.out.1
      go_wp2_with fail
      go_at_call 17
      refine (put_c (7, a2, b2, c2) 65536 HKO.out S9.out (by omega) (ME.put_full S9.out.ok (by omega) (by omega) (by omega))).mono ?_
      rintro e w10 ⟨v10, rfl, s10⟩
      have S10 := Lib.hid s10
      clear s10 t0 t1 t2 t3 t4 row
      obtain ⟨t0, t1, t2, t3, t4, row⟩ := HS.out w10 S10.out.1
      go_upto_region 14 with fail
      clear t0 t1 t2 t3 t4
      go_wp2_with fail
      go_at_call 18
      refine (list_s S10.out (by omega)).mono ?_
      rintro e w11 ⟨v11, rfl, row11, k11⟩
      have S11 := Lib.hid (S10.out.below k11)
      have HSM := Lib.hid (same_any w11 (.slice la n lc) v11 (P.map En.key) (P.map En.key) (by rw [HN.out]; exact own_srcN (own_below row k11)) (own_srcN row11) (by have := S10.out.l1; rw [List.length_map]; omega) (by have := S10.out.l1; rw [List.length_map]; omega))
      rw [decide_eq_true rfl] at HSM
      clear row row11 k11
      go_wp2_with fail
      go_at_call 20
      refine HSM.out.mono ?_
      rintro e w12 ⟨rfl, nq, rfl⟩
      have S12 := Lib.hid (S11.out.below (w' := w11.drewN nq) ⟨rfl, rfl, rfl, Nat.le_refl _, fun _ _ => rfl⟩)
      have HFI := Lib.hid (S12.out.to_below HBW.out (fun b hb => Nat.le_trans (Nat.le_of_lt HG.out) (HF3.out b hb)))
      go_wp2_with fail
      go_at_call 19
      refine (used_s S12.out).mono ?_
      rintro e w13 ⟨rfl, he⟩
      have he' := he.symm
      subst he'
      go_wp2
      go_ret
      exact ⟨by simp, HFI.out⟩
    · have hde : d2 ≤ 65536 := by omega
      by_cases hdb : bu < d2
      · have hdf : (0 : Int) ≤ d2 := by omega
        have HPUT := Lib.hid (ME.put_full (k := (7, a2, b2, c2)) (s := d2) HOK.out (by omega) hde hdb)
        obtain ⟨t0, t1, t2, t3, t4, row⟩ := HS.out w8 S8.out.1
        go_wp2_with fail
        go_at_call 17
        refine (put_c (7, a2, b2, c2) d2 HKO.out S8.out (by omega) HPUT.out).mono ?_
        rintro e w9 ⟨v9, rfl, s9⟩
        have S9 := Lib.hid s9
        clear s9 t0 t1 t2 t3 t4 row
        go_upto_region 10 with fail
        obtain ⟨t0, t1, t2, t3, t4, row⟩ := HS.out w9 S9.out.1
        go_wp2_with fail
        go_at_call 17
        refine (put_c (7, a2, b2, c2) 65536 HKO.out S9.out (by omega) (ME.put_full S9.out.ok (by omega) (by omega) (by omega))).mono ?_
        rintro e w10 ⟨v10, rfl, s10⟩
        have S10 := Lib.hid s10
        clear s10 t0 t1 t2 t3 t4 row
        obtain ⟨t0, t1, t2, t3, t4, row⟩ := HS.out w10 S10.out.1
        go_upto_region 14 with fail
        clear t0 t1 t2 t3 t4
        go_wp2_with fail
        go_at_call 18
        refine (list_s S10.out (by omega)).mono ?_
        rintro e w11 ⟨v11, rfl, row11, k11⟩
        have S11 := Lib.hid (S10.out.below k11)
        have HSM := Lib.hid (same_any w11 (.slice la n lc) v11 (P.map En.key) (P.map En.key) (by rw [HN.out]; exact own_srcN (own_below row k11)) (own_srcN row11) (by have := S10.out.l1; rw [List.length_map]; omega) (by have := S10.out.l1; rw [List.length_map]; omega))
        rw [decide_eq_true rfl] at HSM
        clear row row11 k11
        go_wp2_with fail
        go_at_call 20
        refine HSM.out.mono ?_
        rintro e w12 ⟨rfl, nq, rfl⟩
        have S12 := Lib.hid (S11.out.below (w' := w11.drewN nq) ⟨rfl, rfl, rfl, Nat.le_refl _, fun _ _ => rfl⟩)
        have HFI := Lib.hid (S12.out.to_below HBW.out (fun b hb => Nat.le_trans (Nat.le_of_lt HG.out) (HF3.out b hb)))
        go_wp2_with fail
        go_at_call 19
        refine (used_s S12.out).mono ?_
        rintro e w13 ⟨rfl, he⟩
        have he' := he.symm
        subst he'
        go_wp2
        go_ret
        exact ⟨by simp, HFI.out⟩
      · rcases ME.put_two (k := (7, a2, b2, c2)) (bu := bu) (P := P) (s := d2) (by omega) (by omega) with hp | ⟨Q, gs, hp⟩
        · have hdf : (0 : Int) ≤ d2 := by omega
          have HPUT := Lib.hid (hp)
          obtain ⟨t0, t1, t2, t3, t4, row⟩ := HS.out w8 S8.out.1
          go_wp2_with fail
          go_at_call 17
          refine (put_c (7, a2, b2, c2) d2 HKO.out S8.out (by omega) HPUT.out).mono ?_
          rintro e w9 ⟨v9, rfl, s9⟩
          have S9 := Lib.hid s9
          clear s9 t0 t1 t2 t3 t4 row
          go_upto_region 10 with fail
          obtain ⟨t0, t1, t2, t3, t4, row⟩ := HS.out w9 S9.out.1
          go_wp2_with fail
          go_at_call 17
          refine (put_c (7, a2, b2, c2) 65536 HKO.out S9.out (by omega) (ME.put_full S9.out.ok (by omega) (by omega) (by omega))).mono ?_
          rintro e w10 ⟨v10, rfl, s10⟩
          have S10 := Lib.hid s10
          clear s10 t0 t1 t2 t3 t4 row
          obtain ⟨t0, t1, t2, t3, t4, row⟩ := HS.out w10 S10.out.1
          go_upto_region 14 with fail
          clear t0 t1 t2 t3 t4
          go_wp2_with fail
          go_at_call 18
          refine (list_s S10.out (by omega)).mono ?_
          rintro e w11 ⟨v11, rfl, row11, k11⟩
          have S11 := Lib.hid (S10.out.below k11)
          have HSM := Lib.hid (same_any w11 (.slice la n lc) v11 (P.map En.key) (P.map En.key) (by rw [HN.out]; exact own_srcN (own_below row k11)) (own_srcN row11) (by have := S10.out.l1; rw [List.length_map]; omega) (by have := S10.out.l1; rw [List.length_map]; omega))
          rw [decide_eq_true rfl] at HSM
          clear row row11 k11
          go_wp2_with fail
          go_at_call 20
          refine HSM.out.mono ?_
          rintro e w12 ⟨rfl, nq, rfl⟩
          have S12 := Lib.hid (S11.out.below (w' := w11.drewN nq) ⟨rfl, rfl, rfl, Nat.le_refl _, fun _ _ => rfl⟩)
          have HFI := Lib.hid (S12.out.to_below HBW.out (fun b hb => Nat.le_trans (Nat.le_of_lt HG.out) (HF3.out b hb)))
          go_wp2_with fail
          go_at_call 19
          refine (used_s S12.out).mono ?_
          rintro e w13 ⟨rfl, he⟩
          have he' := he.symm
          subst he'
          go_wp2
          go_ret
          exact ⟨by simp, HFI.out⟩
        · have hdf : (0 : Int) ≤ d2 := by omega
          have HPUT := Lib.hid (hp)
          obtain ⟨t0, t1, t2, t3, t4, row⟩ := HS.out w8 S8.out.1
          go_wp2_with fail
          go_at_call 17
          refine (put_c (7, a2, b2, c2) d2 HKO.out S8.out (by omega) HPUT.out).mono ?_
          rintro e w9 ⟨v9, rfl, s9⟩
          have S9 := Lib.hid s9
          clear s9 t0 t1 t2 t3 t4 row
          go_upto_region 10 with fail
          obtain ⟨t0, t1, t2, t3, t4, row⟩ := HS.out w9 S9.out.1
          go_wp2_with fail
          go_at_call 17
          refine (put_c (7, a2, b2, c2) 65536 HKO.out S9.out (by omega) (ME.put_full S9.out.ok (by omega) (by omega) (by omega))).mono ?_
          rintro e w10 ⟨v10, rfl, s10⟩
          have S10 := Lib.hid s10
          clear s10 t0 t1 t2 t3 t4 row
          obtain ⟨t0, t1, t2, t3, t4, row⟩ := HS.out w10 S10.out.1
          go_upto_region 14 with fail
          clear t0 t1 t2 t3 t4
          have HFI := Lib.hid (S10.out.to_below HBW.out (fun b hb => Nat.le_trans (Nat.le_of_lt HG.out) (HF3.out b hb)))
          clear row
          go_wp2
          go_ret
          exact ⟨rfl, HFI.out⟩

set_option maxRecDepth 100000 in
theorem lifted (os : Os) (started : os.Started) (H : Type) (enc : TypeId × Value → H) :
    ReturnsInHanded {} Try.checked os 7 .any (Rows.memoryErrorsSpec.pre6 enc Try.prog Try.f7 Rows.memoryErrorsRow.domain false) (Rows.memoryErrorsSpec.post enc Try.prog Try.f7 false true false false) := by
  refine returnsInHanded_of_change (C := Try.checked) own started (by kernel_rfl) Try.func7
    (ChangeSpec.witness6 (enc := enc) (C := Try.checked) false ⟨#[], #[.int .u8 0, .slice none 0 0, .agg #[.int .i64 0, .int .i64 0, .int .i64 0, .int .i64 0]], []⟩ 8 (by kernel_rfl) (by kernel_rfl) (by kernel_rfl) (by kernel_rfl)) ?_
  intro W base args ds gs before hval0 hW hcnd _
  have hval : ∀ (j : Nat) t v, Try.f7.params[j]? = some t → args[j]? = some v → Value.okWide Try.prog W .any base t v := hval0
  have hW' := hW
  obtain ⟨p, q, hA0, hV, rfl, hfz, hnd⟩ := hW
  have hA : DataW.TrodAll enc Try.prog W 0 (fun _ => true) true Try.f7.params.toList args.toList ds p := hA0
  rw [Try.params7] at hA hval
  obtain ⟨v0, vs0, d0, ds0, p0, q0, hargs, rfl, rfl, h0, r0⟩ := trodAll_cons hA
  obtain ⟨v1, vs1, d1, ds1, p1, q1, rfl, rfl, rfl, h1, r1⟩ := trodAll_cons r0
  obtain ⟨v2, vs2, d2, ds2, p2, q2, rfl, rfl, rfl, h2, r2⟩ := trodAll_cons r1
  obtain ⟨rfl, rfl, rfl⟩ := trodAll_nil r2
  obtain rfl : args = #[v0, v1, v2] := by cases args; simp_all
  obtain ⟨rfl, rfl⟩ := trodVars_none hV
  have k0 := h0
  have lt0 : ∀ x ∈ p0, x.block < W.heap.size := by obtain ⟨m, hm⟩ := k0; exact DataW.trod_lt m _ _ _ hm
  have k1 := h1
  have lt1 : ∀ x ∈ p1, x.block < W.heap.size := by obtain ⟨m, hm⟩ := k1; exact DataW.trod_lt m _ _ _ hm
  have k2 := h2
  have lt2 : ∀ x ∈ p2, x.block < W.heap.size := by obtain ⟨m, hm⟩ := k2; exact DataW.trod_lt m _ _ _ hm
  obtain ⟨a0, rfl, rfl, rfl, wa0⟩ := open_int Try.underlying5 (hval 0 5 v0 rfl rfl) h0
  obtain ⟨a1, H1⟩ := open_acts (hval 1 22 v1 rfl rfl) h1
  obtain ⟨a2, b2, c2, d2, rfl, H2⟩ := open_last (hval 2 59 v2 rfl rfl) h2
  clear hA0 hval0
  refine (walk a0 v1 a1 a2 b2 c2 d2 wa0 W H1 H2).mono fun e W' ⟨he, bel⟩ => ?_
  subst he
  exact ⟨_, rfl, _, _, _, [], _, [], hW', trodAll_mk1 (shut_bool Try.underlying4 _), (trodAll_cons_mk (Below.trod laidOut (by kernel_rfl) (of_decide_eq_true (by kernel_rfl)) k0 bel lt0) (trodAll_cons_mk (Below.trod laidOut (by kernel_rfl) (of_decide_eq_true (by kernel_rfl)) k1 bel lt1) (trodAll_cons_mk (Below.trod laidOut (by kernel_rfl) (of_decide_eq_true (by kernel_rfl)) k2 bel lt2) trodAll_mk0))), rfl, bel.frame _, fun h => by cases h⟩

theorem over : Rows.memoryErrorsRow.holds Try.pinned (OpenSpec.ofChange Rows.memoryErrorsSpec) :=
  OpenClaim.holds_of_wide 7 Try.f7 rfl rfl rfl rfl rfl rfl rfl ⟨rfl, rfl, rfl, rfl, rfl⟩ rfl rfl rfl rfl rfl (by kernel_rfl) Try.func7 (by kernel_rfl)
    (of_decide_eq_true (by kernel_rfl)) (by unfold Func.isWrapper; first | (rw [if_pos (by decide +kernel)]; kernel_rfl) | (rw [if_neg (by decide +kernel)]; exact ⟨rfl, rfl⟩))
    (fun os started H enc _ => lifted os started H enc)

end Go.Proofs.Ytmnajongifdajaa.memoryErrors
namespace Go.Proofs.Ytmnajongifdajaa
theorem memoryErrors_proved : Rows.MemoryErrorsSaid := memoryErrors.over
#print axioms memoryErrors_proved
end Go.Proofs.Ytmnajongifdajaa
