/- For every budget, all acts and every key MemoryPinned returns true: pinned keys are never given up and cannot be dropped. No conditions. -/
import Derived.Test.YtmnajongifdajaaMem37
namespace Go.Proofs.Ytmnajongifdajaa.memoryPinned
open Go.ChangeShapes Go.WideShapes Go.ChangeAt Go.RowKit Go.Joins Go.Deep ME
set_option linter.unusedVariables false

set_option maxRecDepth 100000 in
set_option maxHeartbeats 8000000 in
theorem walk (a0 : Int) (v1 : Value) (a1 : List Ac) (a2 : Int) (b2 : Int) (wa0 : (Lit.int .u8 a0).wf = true) (wa2 : (Lit.int .u8 a2).wf = true) (wb2 : (Lit.int .u8 b2).wf = true) (w : World) (H1 : AcArg w v1 a1) :
    Calls Try.prog 6 #[.int .u8 a0, v1, .agg #[.int .u8 a2, .int .u8 b2]] w fun e w' => e = .returned (.bool true) ∧ Below w.heap.size w w' := by
  have HM : Hid (∀ V, Below w.heap.size w V → AcArg V v1 a1) := Lib.hid fun V hV => H1.keep hV
  obtain ⟨va, vc, hv⟩ : ∃ va vc, v1 = .slice va a1.length vc := by obtain ⟨va, vc, e, -⟩ := H1.src; exact ⟨va, vc, e⟩
  subst hv
  have HA0 := Lib.hid H1
  have hlen := H1.len
  unfold maxLen at hlen
  obtain ⟨n, hn⟩ : ∃ n, a1.length = n := ⟨_, rfl⟩
  have HNN := Lib.hid hn
  rw [hn] at hlen HM HA0 ⊢
  clear H1 hn
  have h8 := bd8 wa0
  have hre : a0.tmod 64 = a0 % 64 := Int.tmod_eq_emod_of_nonneg h8.1
  obtain ⟨bu, hbu⟩ : ∃ bu, a0 % 64 = bu := ⟨_, rfl⟩
  have hbu0 : 0 ≤ bu := by omega
  have hbu1 : bu < 64 := by omega
  rw [hbu] at hre
  have ha2 := bd8 wa2
  have hb2 := bd8 wb2
  have hre9 : a2.tmod 9 = a2 % 9 := Int.tmod_eq_emod_of_nonneg ha2.1
  have hre20 : b2.tmod 20 = b2 % 20 := Int.tmod_eq_emod_of_nonneg hb2.1
  obtain ⟨sz, hsz⟩ : ∃ sz, b2 % 20 = sz := ⟨_, rfl⟩
  have hsz0 : 0 ≤ sz := by omega
  have hsz1 : sz < 20 := by omega
  rw [hsz] at hre20
  obtain ⟨ky, hky⟩ : ∃ ky, kyE (a2 % 9) = ky := ⟨_, rfl⟩
  have HKO : Hid (K4ok ky) := Lib.hid (by rw [← hky]; exact kyE_ok _ (by omega) (by omega))
  have HKY := Lib.hid fun V => key_any (a2 % 9) V (by omega) (by omega)
  rw [hky] at HKY
  clear hky hsz hbu
  go_enter Try.func6, Try.ntmps6
  go_wp2_with fail
  have HT1 := Lib.hid (balloc (Below.refl _ w) (.cells #[.int .u8 a2, .int .u8 b2] 49))
  have HX1 := Lib.hid (heap_alloc_new w (.cells #[.int .u8 a2, .int .u8 b2] 49))
  refine (sanity_any _).mono ?_
  rintro e w2 ⟨rfl, k2⟩
  have HB2 := Lib.hid (bnext HT1.out k2)
  have HX2 := Lib.hid ((k2.block w.heap.size (by simp)).trans HX1.out)
  have HG : Hid (w.heap.size < w2.heap.size) := Lib.hid (Array.getElem?_eq_some_iff.1 HX2.out).1
  clear k2
  go_wp2_with fail
  go_at_call 12
  refine (new_yes w2 bu hbu0 (by omega)).mono ?_
  rintro e w3 ⟨M, mb, root, rfl, hm3, k3⟩
  have HMS0 := MS.new hm3 hbu0 (by omega)
  obtain ⟨F, hF⟩ : ∃ F, (fun b => w2.heap.size ≤ b ∧ b < w3.heap.size) = F := ⟨_, rfl⟩
  have HF3 : Hid (∀ b, F b → w2.heap.size ≤ b) := Lib.hid fun b hb => by rw [← hF] at hb; exact hb.1
  have HFL : Hid (∀ b, F b → b < w3.heap.size) := Lib.hid fun b hb => by rw [← hF] at hb; exact hb.2
  rw [hF] at HMS0
  have HMS := Lib.hid HMS0
  have hx3 := (k3.block w.heap.size (Array.getElem?_eq_some_iff.1 HX2.out).1).trans HX2.out
  have HX3 := Lib.hid hx3
  have HB3 := Lib.hid (bnext HB2.out k3)
  clear HMS0 hF hm3 k3
  have d0 : w3.cell? ⟨w.heap.size, 0, none⟩ = some (.int .u8 a2) := nd_cell hx3 rfl
  clear hx3
  go_upto_region 4 with (go_at_call 13; refine (HKY.out _).mono ?_; rintro e w4 ⟨rfl, k4⟩)
  clear d0
  have hb5 := balloc (Below.refl _ w4) (.cells #[.int .i64 ky.1, .int .i64 ky.2.1, .int .i64 ky.2.2.1, .int .i64 ky.2.2.2] 34)
  have b5 := heap_alloc_new w4 (.cells #[.int .i64 ky.1, .int .i64 ky.2.1, .int .i64 ky.2.2.1, .int .i64 ky.2.2.2] 34)
  obtain ⟨X, hX⟩ : ∃ X, w4.heap.size = X := ⟨_, rfl⟩
  obtain ⟨W5, hW5⟩ : ∃ W5, w4.alloc (.cells #[.int .i64 ky.1, .int .i64 ky.2.1, .int .i64 ky.2.2.1, .int .i64 ky.2.2.2] 34) = W5 := ⟨_, rfl⟩
  rw [hW5] at hb5 b5
  rw [hW5]
  rw [hX] at b5
  rw [hX]
  have HM5 := Lib.hid ((HMS.out.below k4).below hb5)
  have HBW := Lib.hid (bnext (bnext HB3.out k4) hb5)
  have HG4 := Lib.hid ((k4.block w.heap.size (Array.getElem?_eq_some_iff.1 HX3.out).1).trans HX3.out)
  have HVB : Hid (∀ V, FrS F W5 V → Below w.heap.size w V) := Lib.hid fun V hV => hV.below w HBW.out (fun b hb => Nat.le_trans (Nat.le_of_lt HG.out) (HF3.out b hb))
  have HS : Hid (∀ V, FrS F W5 V → V.cell? ⟨X, 0, none⟩ = some (.int .i64 ky.1) ∧ V.cell? ⟨X, 1, none⟩ = some (.int .i64 ky.2.1) ∧ V.cell? ⟨X, 2, none⟩ = some (.int .i64 ky.2.2.1) ∧ V.cell? ⟨X, 3, none⟩ = some (.int .i64 ky.2.2.2) ∧ V.cell? ⟨w.heap.size, 1, none⟩ = some (.int .u8 b2)) := Lib.hid fun V hV => by
    have q5 := hV.nd b5 (fun h => by have := HFL.out X h; have := k4.size; omega)
    have q1 := hV.nd ((hb5.block w.heap.size (Array.getElem?_eq_some_iff.1 HG4.out).1).trans HG4.out) (fun h => by have := HF3.out _ h; have := HG.out; omega)
    exact ⟨nd_cell q5 rfl, nd_cell q5 rfl, nd_cell q5 rfl, nd_cell q5 rfl, nd_cell q1 rfl⟩
  have HXW : Hid (X < W5.heap.size) := Lib.hid (Array.getElem?_eq_some_iff.1 b5).1
  clear hb5 b5 hW5 hX k4
  obtain ⟨t0, t1, t2, t3, t4⟩ := HS.out W5 (FrS.refl _ _)
  by_cases hps : sz ≤ bu
  · go_wp2_with fail
    go_at_call 17
    refine (put_c ky sz HKO.out HM5.out.here (by omega) (ME.put_first hsz0 (by omega) hps)).mono ?_
    rintro e w6 ⟨v6, rfl, s6⟩
    have S6 := Lib.hid s6
    clear s6 t0 t1 t2 t3 t4
    obtain ⟨t0, t1, t2, t3, -⟩ := HS.out w6 S6.out.1
    go_upto_region 7 with fail
    go_wp2_with fail
    go_at_call 15
    refine (pin_c ky true HKO.out S6.out ME.pin_first).mono ?_
    rintro e w7 ⟨rfl, s7⟩
    have S7 := Lib.hid s7
    clear s7 t0 t1 t2 t3
    go_upto_region 10 with fail
    go_loopw [12] (fun v12 wr => ∃ (i : Nat) (P : List En), v12 = .int .i64 (i : Int) ∧ i ≤ n ∧ i ≤ 60 ∧ Hid (ME.Pd ky P) ∧ Hid (MSr W5 F wr M mb root bu P (i + 1))) (fun v _ => n - (intOf v).toNat)
    case atStart => exact ⟨0, [ME.mkE ky sz true], rfl, Nat.zero_le _, by omega, Lib.hid ⟨ME.mkE ky sz true, by simp, rfl, rfl⟩, S7⟩
    case round =>
      obtain ⟨i, P, rfl, hi, hi60, HPd, HSR⟩ := hrel
      by_cases hin : i < n ∧ i < 60
      · obtain ⟨hin, hi6⟩ := hin
        have hii : (i : Int) < (n : Int) := by omega
        have hii6 : (i : Int) < 60 := by omega
        have hi0 : (0 : Int) ≤ (i : Int) := by omega
        obtain ⟨z, hz⟩ : ∃ z, a1[i]? = some z := ⟨a1[i]'(by rw [HNN.out]; exact hin), List.getElem?_eq_getElem _⟩
        have hs := HA0.out.src
        rw [HNN.out] at hs
        obtain ⟨g, o, rfl, hg, k0, k1, k2⟩ := ac_at hs hz hin
        obtain ⟨zb0, zb1, zb2⟩ := HA0.out.ok z (List.mem_of_getElem? hz)
        have HZ : Hid (∀ V, Below w.heap.size w V → V.cell? ⟨g, o + i * 3, none⟩ = some (.int .u8 z.1) ∧ V.cell? ⟨g, o + i * 3 + 1, none⟩ = some (.int .u8 z.2.1) ∧ V.cell? ⟨g, o + i * 3 + 2, none⟩ = some (.int .i64 z.2.2)) := Lib.hid fun V hV => ⟨(hV.cell (p := ⟨g, o + i * 3, none⟩) hg).trans k0, (hV.cell (p := ⟨g, o + i * 3 + 1, none⟩) hg).trans k1, (hV.cell (p := ⟨g, o + i * 3 + 2, none⟩) hg).trans k2⟩
        clear hs hz hg k0 k1 k2
        obtain ⟨hf, F', hms, hFF⟩ := HSR.out
        have HFF := Lib.hid hFF
        obtain ⟨k0, k1, k2⟩ := HZ.out wr (HVB.out wr hf)
        have hz9 : z.2.1.tmod 9 = z.2.1 % 9 := Int.tmod_eq_emod_of_nonneg zb1.1
        have hz6 : z.1.tmod 6 = z.1 % 6 := Int.tmod_eq_emod_of_nonneg zb0.1
        obtain ⟨kx, hkx⟩ : ∃ kx, kyE (z.2.1 % 9) = kx := ⟨_, rfl⟩
        have HKX : Hid (K4ok kx) := Lib.hid (by rw [← hkx]; exact kyE_ok _ (by omega) (by omega))
        have HKZ := Lib.hid fun V => key_any (z.2.1 % 9) V (by omega) (by omega)
        rw [hkx] at HKZ
        clear hkx
        have HMR := Lib.hid hms
        have HFR := Lib.hid hf
        clear hms hf hFF
        go_upto_region 13 with (go_at_call 13; refine (HKZ.out _).mono ?_; rintro e wk ⟨rfl, kk⟩)
        clear k0 k1 k2 hz9
        have hb6 := balloc (Below.refl _ wk) (.cells #[.int .i64 kx.1, .int .i64 kx.2.1, .int .i64 kx.2.2.1, .int .i64 kx.2.2.2] 34)
        have b6 := heap_alloc_new wk (.cells #[.int .i64 kx.1, .int .i64 kx.2.1, .int .i64 kx.2.2.1, .int .i64 kx.2.2.2] 34)
        obtain ⟨Y, hY⟩ : ∃ Y, wk.heap.size = Y := ⟨_, rfl⟩
        obtain ⟨W6, hW6⟩ : ∃ W6, wk.alloc (.cells #[.int .i64 kx.1, .int .i64 kx.2.1, .int .i64 kx.2.2.1, .int .i64 kx.2.2.2] 34) = W6 := ⟨_, rfl⟩
        rw [hW6] at hb6 b6
        rw [hW6]
        rw [hY] at b6
        try rw [hY]
        have HM6 := Lib.hid ((HMR.out.below kk).below hb6)
        have HH := Lib.hid ((HFR.out.then kk).then hb6)
        have HFY : Hid (¬ F' Y) := Lib.hid fun h => by have := HMR.out.lt Y h; have := kk.size; omega
        have HQ : Hid (∀ V, FrS F' W6 V → FrS F W5 V ∧ V.cell? ⟨Y, 0, none⟩ = some (.int .i64 kx.1) ∧ V.cell? ⟨Y, 1, none⟩ = some (.int .i64 kx.2.1) ∧ V.cell? ⟨Y, 2, none⟩ = some (.int .i64 kx.2.2.1) ∧ V.cell? ⟨Y, 3, none⟩ = some (.int .i64 kx.2.2.2) ∧ V.cell? ⟨X, 0, none⟩ = some (.int .i64 ky.1) ∧ V.cell? ⟨X, 1, none⟩ = some (.int .i64 ky.2.1) ∧ V.cell? ⟨X, 2, none⟩ = some (.int .i64 ky.2.2.1) ∧ V.cell? ⟨X, 3, none⟩ = some (.int .i64 ky.2.2.2) ∧ V.cell? ⟨g, o + i * 3, none⟩ = some (.int .u8 z.1) ∧ V.cell? ⟨g, o + i * 3 + 1, none⟩ = some (.int .u8 z.2.1) ∧ V.cell? ⟨g, o + i * 3 + 2, none⟩ = some (.int .i64 z.2.2)) := Lib.hid fun V hV => by
          have q := hV.nd b6 HFY.out
          have hv := HH.out.over hV HFF.out
          obtain ⟨t0, t1, t2, t3, -⟩ := HS.out V hv
          obtain ⟨k0, k1, k2⟩ := HZ.out V (HVB.out V hv)
          exact ⟨hv, nd_cell q rfl, nd_cell q rfl, nd_cell q rfl, nd_cell q rfl, t0, t1, t2, t3, k0, k1, k2⟩
        clear hb6 b6 hY hW6 kk
        obtain ⟨-, -, -, -, -, -, -, -, -, k0, -, -⟩ := HQ.out W6 (FrS.refl _ _)
        by_cases h3 : z.1 % 6 = 3
        · go_upto_region 22 with fail
          clear h3
          obtain ⟨hfV, x0, x1, x2, x3, -⟩ := HQ.out W6 (FrS.refl _ _)
          go_wp2_with fail
          go_at_call 14
          refine (use_s kx HKX.out HM6.out.here).mono ?_
          rintro x w7 ⟨rfl, s7⟩
          clear x0 x1 x2 x3 hfV
          have HP9 := Lib.hid (HPd.out.use (x := kx) HM6.out.ok.keys)
          have HS9 : Hid (MSr W5 F w7 M mb root bu _ (i + 2)) := Lib.hid ((MSr.glue HH.out HFF.out s7).mono (by omega))
          clear s7
          go_wp2
          go_roundw
          case rel => exact ⟨i + 1, _, by go_num, by omega, by omega, HP9, HS9⟩
          case measure => simp [intOf]; omega
        · by_cases h4 : z.1 % 6 = 4
          · by_cases hxy : kx = ky
            · have heq : ∀ w, (binOp .eql 34 (.agg #[.int .i64 kx.1, .int .i64 kx.2.1, .int .i64 kx.2.2.1, .int .i64 kx.2.2.2]) (.agg #[.int .i64 ky.1, .int .i64 ky.2.1, .int .i64 ky.2.2.1, .int .i64 ky.2.2.2])).run Try.prog w = .ok (.bool true) w := fun w => by rw [show (true : Bool) = decide (kx = ky) by simp [hxy]]; exact eq_ow w kx ky
              have HXY := Lib.hid hxy
              clear hxy
              go_upto_region 24 with fail
              clear h3 h4
              have hdr : Below W6.heap.size W6 W6.drew := Below.drew (Below.refl _ _)
              have hdf : FrS F' W6 W6.drew := FrS.of hdr
              refine wp_region_held_drew (S := (fun w' => (w'.cell? ⟨Y, 0, none⟩ = some (.int .i64 kx.1) ∧ w'.cell? ⟨Y, 1, none⟩ = some (.int .i64 kx.2.1) ∧ w'.cell? ⟨Y, 2, none⟩ = some (.int .i64 kx.2.2.1) ∧ w'.cell? ⟨Y, 3, none⟩ = some (.int .i64 kx.2.2.2)) ∧ (w'.cell? ⟨X, 0, none⟩ = some (.int .i64 ky.1) ∧ w'.cell? ⟨X, 1, none⟩ = some (.int .i64 ky.2.1) ∧ w'.cell? ⟨X, 2, none⟩ = some (.int .i64 ky.2.2.1) ∧ w'.cell? ⟨X, 3, none⟩ = some (.int .i64 ky.2.2.2)) ∧ w'.cell? ⟨g, o + i * 3 + 2, none⟩ = some (.int .i64 z.2.2))) (by kernel_rfl) ?_ (fun hHeld => ?_)
              · (obtain ⟨-, x0, x1, x2, x3, y0, y1, y2, y3, -, -, z2⟩ := HQ.out _ (hdf); exact ⟨⟨x0, x1, x2, x3⟩, ⟨y0, y1, y2, y3⟩, z2⟩)
              refine wpAnyH_take (i := 0) (oi := { dst := some 110, op := Op.move (Operand.tmp 8), type := 24, pos := "law.go:189", after := #[], guard := none }) (v := ?_) rfl (by kernel_rfl) (by kernel_rfl) (by kernel_rfl) (fun _ _ _ h => h) (Or.inl ⟨by rfl, ?_⟩) (by assumption) ?_
              rotate_left
              · ((intro w hSw; (try dsimp only at hSw); go_simp; (try rw [if_neg (by omega)])); try with_reducible rfl)
              (try simp only [Act.put, List.setIfInBounds_toArray, List.set_cons_zero, List.set_cons_succ])
              refine wpAnyH_take (i := 1) (oi := { dst := some 111, op := Op.load 34 (Operand.tmp 13), type := 34, pos := "law.go:189", after := #[], guard := none }) (v := ?_) rfl (by kernel_rfl) (by kernel_rfl) (by kernel_rfl) (fun _ _ _ h => h) (Or.inl ⟨by rfl, ?_⟩) (by assumption) ?_
              rotate_left
              · ((intro w hSw; (try dsimp only at hSw); go_simp; (try rw [if_neg (by omega)])); try with_reducible rfl)
              (try simp only [Act.put, List.setIfInBounds_toArray, List.set_cons_zero, List.set_cons_succ])
              refine wpAnyH_take (i := 2) (oi := { dst := some 112, op := Op.load 34 (Operand.tmp 13), type := 34, pos := "law.go:189", after := #[], guard := none }) (v := ?_) rfl (by kernel_rfl) (by kernel_rfl) (by kernel_rfl) (fun _ _ _ h => h) (Or.inl ⟨by rfl, ?_⟩) (by assumption) ?_
              rotate_left
              · ((intro w hSw; (try dsimp only at hSw); go_simp; (try rw [if_neg (by omega)])); try with_reducible rfl)
              (try simp only [Act.put, List.setIfInBounds_toArray, List.set_cons_zero, List.set_cons_succ])
              refine wpAnyH_take (i := 3) (oi := { dst := some 113, op := Op.load 34 (Operand.tmp 9), type := 34, pos := "law.go:189", after := #[], guard := none }) (v := ?_) rfl (by kernel_rfl) (by kernel_rfl) (by kernel_rfl) (fun _ _ _ h => h) (Or.inl ⟨by rfl, ?_⟩) (by assumption) ?_
              rotate_left
              · ((intro w hSw; (try dsimp only at hSw); go_simp; (try rw [if_neg (by omega)])); try with_reducible rfl)
              (try simp only [Act.put, List.setIfInBounds_toArray, List.set_cons_zero, List.set_cons_succ])
              refine wpAnyH_take (i := 4) (oi := { dst := some 114, op := Op.binOp BinOp.eql 34 (Operand.tmp 112) (Operand.tmp 113) 34, type := 4, pos := "law.go:189", after := #[{ on := 2, ground := Ground.data }, { on := 3, ground := Ground.data }], guard := none }) (v := ?_) rfl (by kernel_rfl) (by kernel_rfl) (by kernel_rfl) (fun _ _ _ h => h) (Or.inl ⟨by rfl, ?_⟩) (by assumption) ?_
              rotate_left
              · ((intro w hSw; (try dsimp only at hSw); go_simp; (try rw [if_neg (by omega)])); try with_reducible rfl)
              (try simp only [Act.put, List.setIfInBounds_toArray, List.set_cons_zero, List.set_cons_succ])
              refine wpAnyH_take (i := 5) (oi := { dst := some 115, op := Op.move (Operand.tmp 114), type := 4, pos := "law.go:189", after := #[{ on := 4, ground := Ground.data }], guard := none }) (v := ?_) rfl (by kernel_rfl) (by kernel_rfl) (by kernel_rfl) (fun _ _ _ h => h) (Or.inl ⟨by rfl, ?_⟩) (by assumption) ?_
              rotate_left
              · ((intro w hSw; (try dsimp only at hSw); go_simp; (try rw [if_neg (by omega)])); try with_reducible rfl)
              (try simp only [Act.put, List.setIfInBounds_toArray, List.set_cons_zero, List.set_cons_succ])
              refine wpAnyH_take (i := 6) (oi := { dst := some 116, op := Op.move (Operand.tmp 1), type := 22, pos := "law.go:189", after := #[{ on := 5, ground := Ground.guard }], guard := some (5, false) }) (v := undef) rfl (by kernel_rfl) (by kernel_rfl) (by kernel_rfl) (fun _ _ _ h => h) (Or.inr ⟨by rfl, rfl⟩) (by assumption) ?_
              (try simp only [Act.put, List.setIfInBounds_toArray, List.set_cons_zero, List.set_cons_succ])
              refine wpAnyH_take (i := 7) (oi := { dst := some 117, op := Op.move (Operand.tmp 12), type := 3, pos := "law.go:189", after := #[{ on := 5, ground := Ground.guard }], guard := some (5, false) }) (v := undef) rfl (by kernel_rfl) (by kernel_rfl) (by kernel_rfl) (fun _ _ _ h => h) (Or.inr ⟨by rfl, rfl⟩) (by assumption) ?_
              (try simp only [Act.put, List.setIfInBounds_toArray, List.set_cons_zero, List.set_cons_succ])
              refine wpAnyH_take (i := 8) (oi := { dst := some 118, op := Op.indexAddr 22 (Operand.tmp 116) (Operand.tmp 117), type := 0, pos := "law.go:189", after := #[{ on := 6, ground := Ground.data }, { on := 7, ground := Ground.data }, { on := 5, ground := Ground.guard }], guard := some (5, false) }) (v := undef) rfl (by kernel_rfl) (by kernel_rfl) (by kernel_rfl) (fun _ _ _ h => h) (Or.inr ⟨by rfl, rfl⟩) (by assumption) ?_
              (try simp only [Act.put, List.setIfInBounds_toArray, List.set_cons_zero, List.set_cons_succ])
              refine wpAnyH_take (i := 9) (oi := { dst := some 119, op := Op.fieldAddr 37 (Operand.tmp 118) 2, type := 0, pos := "law.go:189", after := #[{ on := 8, ground := Ground.data }, { on := 5, ground := Ground.guard }], guard := some (5, false) }) (v := undef) rfl (by kernel_rfl) (by kernel_rfl) (by kernel_rfl) (fun _ _ _ h => h) (Or.inr ⟨by rfl, rfl⟩) (by assumption) ?_
              (try simp only [Act.put, List.setIfInBounds_toArray, List.set_cons_zero, List.set_cons_succ])
              refine wpAnyH_take (i := 10) (oi := { dst := some 120, op := Op.load 3 (Operand.tmp 119), type := 3, pos := "law.go:189", after := #[{ on := 9, ground := Ground.data }, { on := 5, ground := Ground.guard }], guard := some (5, false) }) (v := undef) rfl (by kernel_rfl) (by kernel_rfl) (by kernel_rfl) (fun _ _ _ h => h) (Or.inr ⟨by rfl, rfl⟩) (by assumption) ?_
              (try simp only [Act.put, List.setIfInBounds_toArray, List.set_cons_zero, List.set_cons_succ])
              refine wpAnyH_take (i := 11) (oi := { dst := some 121, op := Op.binOp BinOp.rem 3 (Operand.tmp 120) (Operand.const (Value.int IntKind.i64 2)) 3, type := 3, pos := "law.go:189", after := #[{ on := 10, ground := Ground.data }, { on := 5, ground := Ground.guard }], guard := some (5, false) }) (v := undef) rfl (by kernel_rfl) (by kernel_rfl) (by kernel_rfl) (fun _ _ _ h => h) (Or.inr ⟨by rfl, rfl⟩) (by assumption) ?_
              (try simp only [Act.put, List.setIfInBounds_toArray, List.set_cons_zero, List.set_cons_succ])
              refine wpAnyH_take (i := 12) (oi := { dst := some 122, op := Op.binOp BinOp.eql 3 (Operand.tmp 121) (Operand.const (Value.int IntKind.i64 0)) 3, type := 4, pos := "law.go:189", after := #[{ on := 11, ground := Ground.data }, { on := 5, ground := Ground.guard }], guard := some (5, false) }) (v := undef) rfl (by kernel_rfl) (by kernel_rfl) (by kernel_rfl) (fun _ _ _ h => h) (Or.inr ⟨by rfl, rfl⟩) (by assumption) ?_
              (try simp only [Act.put, List.setIfInBounds_toArray, List.set_cons_zero, List.set_cons_succ])
              refine wpAnyH_take (i := 13) (oi := { dst := some 123, op := Op.pick (Operand.tmp 115) (Operand.const (Value.bool true)) (Operand.tmp 122), type := 4, pos := "law.go:189", after := #[{ on := 5, ground := Ground.data }, { on := 12, ground := Ground.data }], guard := none }) (v := ?_) rfl (by kernel_rfl) (by kernel_rfl) (by kernel_rfl) (fun _ _ _ h => h) (Or.inl ⟨by rfl, ?_⟩) (by assumption) ?_
              rotate_left
              · ((intro w hSw; (try dsimp only at hSw); go_simp; (try rw [if_neg (by omega)])); try with_reducible rfl)
              (try simp only [Act.put, List.setIfInBounds_toArray, List.set_cons_zero, List.set_cons_succ])
              refine wpAnyH_ready (rs := [14]) (by kernel_rfl) (by simp) ?_
              refine AllReadyH.cons (o := { dst := some 124, op := Op.call { callee := Callee.value (Operand.func 15), args := #[Operand.tmp 110, Operand.tmp 111, Operand.tmp 123], argTypes := #[24, 34, 4] }, type := 40, pos := "law.go:189", after := #[{ on := 0, ground := Ground.data }, { on := 1, ground := Ground.data }, { on := 13, ground := Ground.data }, { on := 5, ground := Ground.chain }], guard := none }) rfl (fun K hK => ?_) ?_
              · (go_simp; go_at_call 15; refine (pin_s kx true HKX.out (HM6.out.below hdr).here).mono ?_; rintro x w7 ⟨rfl, s7⟩; dsimp only)
                refine hK.out _ _ ?_ (fun hHeld => ?_)
                · (obtain ⟨-, x0, x1, x2, x3, y0, y1, y2, y3, -, -, z2⟩ := HQ.out _ (FrS.over hdf s7.1 (fun b hb => .inl hb)); exact ⟨⟨x0, x1, x2, x3⟩, ⟨y0, y1, y2, y3⟩, z2⟩)
                clear hK K
                (try simp only [Act.put, List.setIfInBounds_toArray, List.set_cons_zero, List.set_cons_succ])
                refine wpAnyH_done (by kernel_rfl) ?_ _
                clear heq
                have HP9 := Lib.hid (HPd.out.pin (x := kx) (on := true) (fun e => rfl))
                have HS9 : Hid (MSr W5 F w7 M mb root bu _ (i + 2)) := Lib.hid ((MSr.glue (HH.out.then hdr) HFF.out s7).mono (by omega))
                clear s7 hdr hdf
                go_wp2
                go_roundw
                case rel => exact ⟨i + 1, _, by go_num, by omega, by omega, HP9, HS9⟩
                case measure => simp [intOf]; omega
              exact AllReadyH.nil
            · have heq : ∀ w, (binOp .eql 34 (.agg #[.int .i64 kx.1, .int .i64 kx.2.1, .int .i64 kx.2.2.1, .int .i64 kx.2.2.2]) (.agg #[.int .i64 ky.1, .int .i64 ky.2.1, .int .i64 ky.2.2.1, .int .i64 ky.2.2.2])).run Try.prog w = .ok (.bool false) w := fun w => by rw [show (false : Bool) = decide (kx = ky) by simp [hxy]]; exact eq_ow w kx ky
              have HXY := Lib.hid hxy
              clear hxy
              obtain ⟨on, hon⟩ : ∃ on, decide (z.2.2.tmod 2 = 0) = on := ⟨_, rfl⟩
              have hon2 : (z.2.2.tmod 2 == 0) = on := by rw [← hon]; rfl
              clear hon
              go_upto_region 24 with fail
              clear h3 h4
              have hdr : Below W6.heap.size W6 W6.drew := Below.drew (Below.refl _ _)
              have hdf : FrS F' W6 W6.drew := FrS.of hdr
              refine wp_region_held_drew (S := (fun w' => (w'.cell? ⟨Y, 0, none⟩ = some (.int .i64 kx.1) ∧ w'.cell? ⟨Y, 1, none⟩ = some (.int .i64 kx.2.1) ∧ w'.cell? ⟨Y, 2, none⟩ = some (.int .i64 kx.2.2.1) ∧ w'.cell? ⟨Y, 3, none⟩ = some (.int .i64 kx.2.2.2)) ∧ (w'.cell? ⟨X, 0, none⟩ = some (.int .i64 ky.1) ∧ w'.cell? ⟨X, 1, none⟩ = some (.int .i64 ky.2.1) ∧ w'.cell? ⟨X, 2, none⟩ = some (.int .i64 ky.2.2.1) ∧ w'.cell? ⟨X, 3, none⟩ = some (.int .i64 ky.2.2.2)) ∧ w'.cell? ⟨g, o + i * 3 + 2, none⟩ = some (.int .i64 z.2.2))) (by kernel_rfl) ?_ (fun hHeld => ?_)
              · (obtain ⟨-, x0, x1, x2, x3, y0, y1, y2, y3, -, -, z2⟩ := HQ.out _ (hdf); exact ⟨⟨x0, x1, x2, x3⟩, ⟨y0, y1, y2, y3⟩, z2⟩)
              refine wpAnyH_take (i := 0) (oi := { dst := some 110, op := Op.move (Operand.tmp 8), type := 24, pos := "law.go:189", after := #[], guard := none }) (v := ?_) rfl (by kernel_rfl) (by kernel_rfl) (by kernel_rfl) (fun _ _ _ h => h) (Or.inl ⟨by rfl, ?_⟩) (by assumption) ?_
              rotate_left
              · ((intro w hSw; (try dsimp only at hSw); go_simp; (try rw [if_neg (by omega)])); try with_reducible rfl)
              (try simp only [Act.put, List.setIfInBounds_toArray, List.set_cons_zero, List.set_cons_succ])
              refine wpAnyH_take (i := 1) (oi := { dst := some 111, op := Op.load 34 (Operand.tmp 13), type := 34, pos := "law.go:189", after := #[], guard := none }) (v := ?_) rfl (by kernel_rfl) (by kernel_rfl) (by kernel_rfl) (fun _ _ _ h => h) (Or.inl ⟨by rfl, ?_⟩) (by assumption) ?_
              rotate_left
              · ((intro w hSw; (try dsimp only at hSw); go_simp; (try rw [if_neg (by omega)])); try with_reducible rfl)
              (try simp only [Act.put, List.setIfInBounds_toArray, List.set_cons_zero, List.set_cons_succ])
              refine wpAnyH_take (i := 2) (oi := { dst := some 112, op := Op.load 34 (Operand.tmp 13), type := 34, pos := "law.go:189", after := #[], guard := none }) (v := ?_) rfl (by kernel_rfl) (by kernel_rfl) (by kernel_rfl) (fun _ _ _ h => h) (Or.inl ⟨by rfl, ?_⟩) (by assumption) ?_
              rotate_left
              · ((intro w hSw; (try dsimp only at hSw); go_simp; (try rw [if_neg (by omega)])); try with_reducible rfl)
              (try simp only [Act.put, List.setIfInBounds_toArray, List.set_cons_zero, List.set_cons_succ])
              refine wpAnyH_take (i := 3) (oi := { dst := some 113, op := Op.load 34 (Operand.tmp 9), type := 34, pos := "law.go:189", after := #[], guard := none }) (v := ?_) rfl (by kernel_rfl) (by kernel_rfl) (by kernel_rfl) (fun _ _ _ h => h) (Or.inl ⟨by rfl, ?_⟩) (by assumption) ?_
              rotate_left
              · ((intro w hSw; (try dsimp only at hSw); go_simp; (try rw [if_neg (by omega)])); try with_reducible rfl)
              (try simp only [Act.put, List.setIfInBounds_toArray, List.set_cons_zero, List.set_cons_succ])
              refine wpAnyH_take (i := 4) (oi := { dst := some 114, op := Op.binOp BinOp.eql 34 (Operand.tmp 112) (Operand.tmp 113) 34, type := 4, pos := "law.go:189", after := #[{ on := 2, ground := Ground.data }, { on := 3, ground := Ground.data }], guard := none }) (v := ?_) rfl (by kernel_rfl) (by kernel_rfl) (by kernel_rfl) (fun _ _ _ h => h) (Or.inl ⟨by rfl, ?_⟩) (by assumption) ?_
              rotate_left
              · ((intro w hSw; (try dsimp only at hSw); go_simp; (try rw [if_neg (by omega)])); try with_reducible rfl)
              (try simp only [Act.put, List.setIfInBounds_toArray, List.set_cons_zero, List.set_cons_succ])
              refine wpAnyH_take (i := 5) (oi := { dst := some 115, op := Op.move (Operand.tmp 114), type := 4, pos := "law.go:189", after := #[{ on := 4, ground := Ground.data }], guard := none }) (v := ?_) rfl (by kernel_rfl) (by kernel_rfl) (by kernel_rfl) (fun _ _ _ h => h) (Or.inl ⟨by rfl, ?_⟩) (by assumption) ?_
              rotate_left
              · ((intro w hSw; (try dsimp only at hSw); go_simp; (try rw [if_neg (by omega)])); try with_reducible rfl)
              (try simp only [Act.put, List.setIfInBounds_toArray, List.set_cons_zero, List.set_cons_succ])
              refine wpAnyH_take (i := 6) (oi := { dst := some 116, op := Op.move (Operand.tmp 1), type := 22, pos := "law.go:189", after := #[{ on := 5, ground := Ground.guard }], guard := some (5, false) }) (v := ?_) rfl (by kernel_rfl) (by kernel_rfl) (by kernel_rfl) (fun _ _ _ h => h) (Or.inl ⟨by rfl, ?_⟩) (by assumption) ?_
              rotate_left
              · ((intro w hSw; (try dsimp only at hSw); go_simp; (try rw [if_neg (by omega)])); try with_reducible rfl)
              (try simp only [Act.put, List.setIfInBounds_toArray, List.set_cons_zero, List.set_cons_succ])
              refine wpAnyH_take (i := 7) (oi := { dst := some 117, op := Op.move (Operand.tmp 12), type := 3, pos := "law.go:189", after := #[{ on := 5, ground := Ground.guard }], guard := some (5, false) }) (v := ?_) rfl (by kernel_rfl) (by kernel_rfl) (by kernel_rfl) (fun _ _ _ h => h) (Or.inl ⟨by rfl, ?_⟩) (by assumption) ?_
              rotate_left
              · ((intro w hSw; (try dsimp only at hSw); go_simp; (try rw [if_neg (by omega)])); try with_reducible rfl)
              (try simp only [Act.put, List.setIfInBounds_toArray, List.set_cons_zero, List.set_cons_succ])
              refine wpAnyH_take (i := 8) (oi := { dst := some 118, op := Op.indexAddr 22 (Operand.tmp 116) (Operand.tmp 117), type := 0, pos := "law.go:189", after := #[{ on := 6, ground := Ground.data }, { on := 7, ground := Ground.data }, { on := 5, ground := Ground.guard }], guard := some (5, false) }) (v := ?_) rfl (by kernel_rfl) (by kernel_rfl) (by kernel_rfl) (fun _ _ _ h => h) (Or.inl ⟨by rfl, ?_⟩) (by assumption) ?_
              rotate_left
              · ((intro w hSw; (try dsimp only at hSw); go_simp; (try rw [if_neg (by omega)])); try with_reducible rfl)
              (try simp only [Act.put, List.setIfInBounds_toArray, List.set_cons_zero, List.set_cons_succ])
              refine wpAnyH_take (i := 9) (oi := { dst := some 119, op := Op.fieldAddr 37 (Operand.tmp 118) 2, type := 0, pos := "law.go:189", after := #[{ on := 8, ground := Ground.data }, { on := 5, ground := Ground.guard }], guard := some (5, false) }) (v := ?_) rfl (by kernel_rfl) (by kernel_rfl) (by kernel_rfl) (fun _ _ _ h => h) (Or.inl ⟨by rfl, ?_⟩) (by assumption) ?_
              rotate_left
              · ((intro w hSw; (try dsimp only at hSw); go_simp; (try rw [if_neg (by omega)])); try with_reducible rfl)
              (try simp only [Act.put, List.setIfInBounds_toArray, List.set_cons_zero, List.set_cons_succ])
              refine wpAnyH_take (i := 10) (oi := { dst := some 120, op := Op.load 3 (Operand.tmp 119), type := 3, pos := "law.go:189", after := #[{ on := 9, ground := Ground.data }, { on := 5, ground := Ground.guard }], guard := some (5, false) }) (v := ?_) rfl (by kernel_rfl) (by kernel_rfl) (by kernel_rfl) (fun _ _ _ h => h) (Or.inl ⟨by rfl, ?_⟩) (by assumption) ?_
              rotate_left
              · ((intro w hSw; (try dsimp only at hSw); go_simp; (try rw [if_neg (by omega)])); try with_reducible rfl)
              (try simp only [Act.put, List.setIfInBounds_toArray, List.set_cons_zero, List.set_cons_succ])
              refine wpAnyH_take (i := 11) (oi := { dst := some 121, op := Op.binOp BinOp.rem 3 (Operand.tmp 120) (Operand.const (Value.int IntKind.i64 2)) 3, type := 3, pos := "law.go:189", after := #[{ on := 10, ground := Ground.data }, { on := 5, ground := Ground.guard }], guard := some (5, false) }) (v := ?_) rfl (by kernel_rfl) (by kernel_rfl) (by kernel_rfl) (fun _ _ _ h => h) (Or.inl ⟨by rfl, ?_⟩) (by assumption) ?_
              rotate_left
              · ((intro w hSw; (try dsimp only at hSw); go_simp; (try rw [if_neg (by omega)])); try with_reducible rfl)
              (try simp only [Act.put, List.setIfInBounds_toArray, List.set_cons_zero, List.set_cons_succ])
              refine wpAnyH_take (i := 12) (oi := { dst := some 122, op := Op.binOp BinOp.eql 3 (Operand.tmp 121) (Operand.const (Value.int IntKind.i64 0)) 3, type := 4, pos := "law.go:189", after := #[{ on := 11, ground := Ground.data }, { on := 5, ground := Ground.guard }], guard := some (5, false) }) (v := ?_) rfl (by kernel_rfl) (by kernel_rfl) (by kernel_rfl) (fun _ _ _ h => h) (Or.inl ⟨by rfl, ?_⟩) (by assumption) ?_
              rotate_left
              · ((intro w hSw; (try dsimp only at hSw); go_simp; (try rw [if_neg (by omega)])); try with_reducible rfl)
              (try simp only [Act.put, List.setIfInBounds_toArray, List.set_cons_zero, List.set_cons_succ])
              refine wpAnyH_take (i := 13) (oi := { dst := some 123, op := Op.pick (Operand.tmp 115) (Operand.const (Value.bool true)) (Operand.tmp 122), type := 4, pos := "law.go:189", after := #[{ on := 5, ground := Ground.data }, { on := 12, ground := Ground.data }], guard := none }) (v := ?_) rfl (by kernel_rfl) (by kernel_rfl) (by kernel_rfl) (fun _ _ _ h => h) (Or.inl ⟨by rfl, ?_⟩) (by assumption) ?_
              rotate_left
              · ((intro w hSw; (try dsimp only at hSw); go_simp; (try rw [if_neg (by omega)])); try with_reducible rfl)
              (try simp only [Act.put, List.setIfInBounds_toArray, List.set_cons_zero, List.set_cons_succ])
              refine wpAnyH_ready (rs := [14]) (by kernel_rfl) (by simp) ?_
              refine AllReadyH.cons (o := { dst := some 124, op := Op.call { callee := Callee.value (Operand.func 15), args := #[Operand.tmp 110, Operand.tmp 111, Operand.tmp 123], argTypes := #[24, 34, 4] }, type := 40, pos := "law.go:189", after := #[{ on := 0, ground := Ground.data }, { on := 1, ground := Ground.data }, { on := 13, ground := Ground.data }, { on := 5, ground := Ground.chain }], guard := none }) rfl (fun K hK => ?_) ?_
              · (go_simp; go_at_call 15; refine (pin_s kx on HKX.out (HM6.out.below hdr).here).mono ?_; rintro x w7 ⟨rfl, s7⟩; dsimp only)
                refine hK.out _ _ ?_ (fun hHeld => ?_)
                · (obtain ⟨-, x0, x1, x2, x3, y0, y1, y2, y3, -, -, z2⟩ := HQ.out _ (FrS.over hdf s7.1 (fun b hb => .inl hb)); exact ⟨⟨x0, x1, x2, x3⟩, ⟨y0, y1, y2, y3⟩, z2⟩)
                clear hK K
                (try simp only [Act.put, List.setIfInBounds_toArray, List.set_cons_zero, List.set_cons_succ])
                refine wpAnyH_done (by kernel_rfl) ?_ _
                clear heq
                have HP9 := Lib.hid (HPd.out.pin (x := kx) (on := on) (fun e => absurd e HXY.out))
                have HS9 : Hid (MSr W5 F w7 M mb root bu _ (i + 2)) := Lib.hid ((MSr.glue (HH.out.then hdr) HFF.out s7).mono (by omega))
                clear s7 hdr hdf
                go_wp2
                go_roundw
                case rel => exact ⟨i + 1, _, by go_num, by omega, by omega, HP9, HS9⟩
                case measure => simp [intOf]; omega
              exact AllReadyH.nil
          · by_cases h5 : z.1 % 6 = 5
            · by_cases hxy : kx = ky
              · have HDS : Hid (ME.drop kx P = (P, 51)) := Lib.hid (by rw [hxy]; exact HPd.out.drop_self HM6.out.ok.keys)
                have heq : ∀ w, (binOp .eql 34 (.agg #[.int .i64 kx.1, .int .i64 kx.2.1, .int .i64 kx.2.2.1, .int .i64 kx.2.2.2]) (.agg #[.int .i64 ky.1, .int .i64 ky.2.1, .int .i64 ky.2.2.1, .int .i64 ky.2.2.2])).run Try.prog w = .ok (.bool true) w := fun w => by rw [show (true : Bool) = decide (kx = ky) by simp [hxy]]; exact eq_ow w kx ky
                have HXY := Lib.hid hxy
                clear hxy
                go_upto_region 26 with fail
                clear h3 h4 h5
                obtain ⟨-, x0, x1, x2, x3, -⟩ := HQ.out W6 (FrS.refl _ _)
                go_wp2_with fail
                go_at_call 16
                refine (drop_c kx HKX.out HM6.out.here HDS.out).mono ?_
                rintro x w7 ⟨rfl, s7⟩
                clear x0 x1 x2 x3
                obtain ⟨-, x0, x1, x2, x3, y0, y1, y2, y3, -, -, -⟩ := HQ.out w7 s7.1
                have HP9 := Lib.hid (HPd.out)
                have HS9 : Hid (MSr W5 F w7 M mb root bu _ (i + 2)) := Lib.hid ((MSr.glue HH.out HFF.out s7).mono (by omega))
                clear s7
                go_upto_region 27 with fail
                go_wp2
                go_roundw
                case rel => exact ⟨i + 1, _, by go_num, by omega, by omega, HP9, HS9⟩
                case measure => simp [intOf]; omega
              · have heq : ∀ w, (binOp .eql 34 (.agg #[.int .i64 kx.1, .int .i64 kx.2.1, .int .i64 kx.2.2.1, .int .i64 kx.2.2.2]) (.agg #[.int .i64 ky.1, .int .i64 ky.2.1, .int .i64 ky.2.2.1, .int .i64 ky.2.2.2])).run Try.prog w = .ok (.bool false) w := fun w => by rw [show (false : Bool) = decide (kx = ky) by simp [hxy]]; exact eq_ow w kx ky
                have HXY := Lib.hid hxy
                clear hxy
                go_upto_region 26 with fail
                clear h3 h4 h5
                obtain ⟨-, x0, x1, x2, x3, -⟩ := HQ.out W6 (FrS.refl _ _)
                go_wp2_with fail
                go_at_call 16
                refine (drop_s kx HKX.out HM6.out.here).mono ?_
                rintro x w7 ⟨rfl, s7⟩
                clear x0 x1 x2 x3
                obtain ⟨-, x0, x1, x2, x3, y0, y1, y2, y3, -, -, -⟩ := HQ.out w7 s7.1
                have HP9 := Lib.hid (HPd.out.drop (x := kx) HXY.out)
                have HS9 : Hid (MSr W5 F w7 M mb root bu _ (i + 2)) := Lib.hid ((MSr.glue HH.out HFF.out s7).mono (by omega))
                clear s7
                go_upto_region 27 with fail
                go_wp2
                go_roundw
                case rel => exact ⟨i + 1, _, by go_num, by omega, by omega, HP9, HS9⟩
                case measure => simp [intOf]; omega
            · obtain ⟨PP, hPP⟩ : ∃ PP, ME.put bu kx z.2.2 P = PP := ⟨_, rfl⟩
              have hdr : Below W6.heap.size W6 W6.drew := Below.drew (Below.refl _ _)
              have hdf : FrS F' W6 W6.drew := FrS.of hdr
              have HPU := Lib.hid (put_s kx z.2.2 HKX.out (HM6.out.below hdr).here (by omega))
              have hpd := HPd.out.put (x := kx) (bu := bu) (s := z.2.2) HM6.out.ok.keys
              have hpl := (ME.put_len bu kx z.2.2 P).2
              rw [hPP] at HPU hpd hpl
              have HPN := Lib.hid hpd.1
              have HGO := Lib.hid hpd.2
              obtain ⟨m, hm⟩ : ∃ m, PP.2.1.length = m := ⟨_, rfl⟩
              rw [hm] at HPU hpl
              have hmb : m ≤ 61 := by have := HM6.out.l1; omega
              have HMM := Lib.hid hm
              clear hPP hpd hm hpl
              go_upto_region 14 with fail
              clear h3 h4 h5
              refine wp_region_held_drew (S := (fun w' => (w'.cell? ⟨Y, 0, none⟩ = some (.int .i64 kx.1) ∧ w'.cell? ⟨Y, 1, none⟩ = some (.int .i64 kx.2.1) ∧ w'.cell? ⟨Y, 2, none⟩ = some (.int .i64 kx.2.2.1) ∧ w'.cell? ⟨Y, 3, none⟩ = some (.int .i64 kx.2.2.2)) ∧ (w'.cell? ⟨X, 0, none⟩ = some (.int .i64 ky.1) ∧ w'.cell? ⟨X, 1, none⟩ = some (.int .i64 ky.2.1) ∧ w'.cell? ⟨X, 2, none⟩ = some (.int .i64 ky.2.2.1) ∧ w'.cell? ⟨X, 3, none⟩ = some (.int .i64 ky.2.2.2)) ∧ w'.cell? ⟨g, o + i * 3 + 2, none⟩ = some (.int .i64 z.2.2))) (by kernel_rfl) ?_ (fun hHeld => ?_)
              · (obtain ⟨-, x0, x1, x2, x3, y0, y1, y2, y3, -, -, z2⟩ := HQ.out _ (hdf); exact ⟨⟨x0, x1, x2, x3⟩, ⟨y0, y1, y2, y3⟩, z2⟩)
              refine wpAnyH_take (i := 0) (oi := { dst := some 83, op := Op.move (Operand.tmp 8), type := 24, pos := "law.go:195", after := #[], guard := none }) (v := ?_) rfl (by kernel_rfl) (by kernel_rfl) (by kernel_rfl) (fun _ _ _ h => h) (Or.inl ⟨by rfl, ?_⟩) (by assumption) ?_
              rotate_left
              · ((intro w hSw; (try dsimp only at hSw); go_simp; (try rw [if_neg (by omega)])); try with_reducible rfl)
              (try simp only [Act.put, List.setIfInBounds_toArray, List.set_cons_zero, List.set_cons_succ])
              refine wpAnyH_take (i := 1) (oi := { dst := some 84, op := Op.load 34 (Operand.tmp 13), type := 34, pos := "law.go:195", after := #[], guard := none }) (v := ?_) rfl (by kernel_rfl) (by kernel_rfl) (by kernel_rfl) (fun _ _ _ h => h) (Or.inl ⟨by rfl, ?_⟩) (by assumption) ?_
              rotate_left
              · ((intro w hSw; (try dsimp only at hSw); go_simp; (try rw [if_neg (by omega)])); try with_reducible rfl)
              (try simp only [Act.put, List.setIfInBounds_toArray, List.set_cons_zero, List.set_cons_succ])
              refine wpAnyH_take (i := 2) (oi := { dst := some 85, op := Op.move (Operand.tmp 1), type := 22, pos := "law.go:195", after := #[], guard := none }) (v := ?_) rfl (by kernel_rfl) (by kernel_rfl) (by kernel_rfl) (fun _ _ _ h => h) (Or.inl ⟨by rfl, ?_⟩) (by assumption) ?_
              rotate_left
              · ((intro w hSw; (try dsimp only at hSw); go_simp; (try rw [if_neg (by omega)])); try with_reducible rfl)
              (try simp only [Act.put, List.setIfInBounds_toArray, List.set_cons_zero, List.set_cons_succ])
              refine wpAnyH_take (i := 3) (oi := { dst := some 86, op := Op.move (Operand.tmp 12), type := 3, pos := "law.go:195", after := #[], guard := none }) (v := ?_) rfl (by kernel_rfl) (by kernel_rfl) (by kernel_rfl) (fun _ _ _ h => h) (Or.inl ⟨by rfl, ?_⟩) (by assumption) ?_
              rotate_left
              · ((intro w hSw; (try dsimp only at hSw); go_simp; (try rw [if_neg (by omega)])); try with_reducible rfl)
              (try simp only [Act.put, List.setIfInBounds_toArray, List.set_cons_zero, List.set_cons_succ])
              refine wpAnyH_take (i := 4) (oi := { dst := some 87, op := Op.indexAddr 22 (Operand.tmp 85) (Operand.tmp 86), type := 0, pos := "law.go:195", after := #[{ on := 2, ground := Ground.data }, { on := 3, ground := Ground.data }], guard := none }) (v := ?_) rfl (by kernel_rfl) (by kernel_rfl) (by kernel_rfl) (fun _ _ _ h => h) (Or.inl ⟨by rfl, ?_⟩) (by assumption) ?_
              rotate_left
              · ((intro w hSw; (try dsimp only at hSw); go_simp; (try rw [if_neg (by omega)])); try with_reducible rfl)
              (try simp only [Act.put, List.setIfInBounds_toArray, List.set_cons_zero, List.set_cons_succ])
              refine wpAnyH_take (i := 5) (oi := { dst := some 88, op := Op.fieldAddr 37 (Operand.tmp 87) 2, type := 0, pos := "law.go:195", after := #[{ on := 4, ground := Ground.data }], guard := none }) (v := ?_) rfl (by kernel_rfl) (by kernel_rfl) (by kernel_rfl) (fun _ _ _ h => h) (Or.inl ⟨by rfl, ?_⟩) (by assumption) ?_
              rotate_left
              · ((intro w hSw; (try dsimp only at hSw); go_simp; (try rw [if_neg (by omega)])); try with_reducible rfl)
              (try simp only [Act.put, List.setIfInBounds_toArray, List.set_cons_zero, List.set_cons_succ])
              refine wpAnyH_take (i := 6) (oi := { dst := some 89, op := Op.load 3 (Operand.tmp 88), type := 3, pos := "law.go:195", after := #[{ on := 5, ground := Ground.data }], guard := none }) (v := ?_) rfl (by kernel_rfl) (by kernel_rfl) (by kernel_rfl) (fun _ _ _ h => h) (Or.inl ⟨by rfl, ?_⟩) (by assumption) ?_
              rotate_left
              · ((intro w hSw; (try dsimp only at hSw); go_simp; (try rw [if_neg (by omega)])); try with_reducible rfl)
              (try simp only [Act.put, List.setIfInBounds_toArray, List.set_cons_zero, List.set_cons_succ])
              refine wpAnyH_ready (rs := [7]) (by kernel_rfl) (by simp) ?_
              refine AllReadyH.cons (o := { dst := some 90, op := Op.call { callee := Callee.value (Operand.func 17), args := #[Operand.tmp 83, Operand.tmp 84, Operand.tmp 89], argTypes := #[24, 34, 3] }, type := 44, pos := "law.go:195", after := #[{ on := 0, ground := Ground.data }, { on := 1, ground := Ground.data }, { on := 6, ground := Ground.data }], guard := none }) rfl (fun K hK => ?_) ?_
              · (go_simp; go_at_call 17; refine HPU.out.mono ?_; rintro x w7 ⟨v7, rfl, row7, s7⟩; obtain ⟨ga, gc, rfl⟩ := own_shape row7; dsimp only)
                refine hK.out _ _ ?_ (fun hHeld => ?_)
                · (obtain ⟨-, x0, x1, x2, x3, y0, y1, y2, y3, -, -, z2⟩ := HQ.out _ (FrS.over hdf s7.1 (fun b hb => .inl hb)); exact ⟨⟨x0, x1, x2, x3⟩, ⟨y0, y1, y2, y3⟩, z2⟩)
                clear hK K
                (try simp only [Act.put, List.setIfInBounds_toArray, List.set_cons_zero, List.set_cons_succ])
                refine wpAnyH_take (i := 8) (oi := { dst := some 82, op := Op.move (Operand.tmp 90), type := 44, pos := "law.go:195", after := #[{ on := 7, ground := Ground.data }], guard := none }) (v := ?_) rfl (by kernel_rfl) (by kernel_rfl) (by kernel_rfl) (fun _ _ _ h => h) (Or.inl ⟨by rfl, ?_⟩) (by assumption) ?_
                rotate_left
                · ((intro w hSw; (try dsimp only at hSw); go_simp; (try rw [if_neg (by omega)])); try with_reducible rfl)
                (try simp only [Act.put, List.setIfInBounds_toArray, List.set_cons_zero, List.set_cons_succ])
                refine wpAnyH_take (i := 9) (oi := { dst := some 91, op := Op.extract (Operand.tmp 82) 0, type := 43, pos := "law.go:195", after := #[{ on := 8, ground := Ground.data }], guard := none }) (v := ?_) rfl (by kernel_rfl) (by kernel_rfl) (by kernel_rfl) (fun _ _ _ h => h) (Or.inl ⟨by rfl, ?_⟩) (by assumption) ?_
                rotate_left
                · ((intro w hSw; (try dsimp only at hSw); go_simp; (try rw [if_neg (by omega)])); try with_reducible rfl)
                (try simp only [Act.put, List.setIfInBounds_toArray, List.set_cons_zero, List.set_cons_succ])
                refine wpAnyH_take (i := 10) (oi := { dst := some 92, op := Op.extract (Operand.tmp 82) 1, type := 40, pos := "law.go:195", after := #[{ on := 8, ground := Ground.data }, { on := 11, ground := Ground.gcOnly Departure.lateStores }], guard := none }) (v := ?_) rfl (by kernel_rfl) (by kernel_rfl) (by kernel_rfl) (fun _ _ _ h => h) (Or.inl ⟨by rfl, ?_⟩) (by assumption) ?_
                rotate_left
                · ((intro w hSw; (try dsimp only at hSw); go_simp; (try rw [if_neg (by omega)])); try with_reducible rfl)
                (try simp only [Act.put, List.setIfInBounds_toArray, List.set_cons_zero, List.set_cons_succ])
                refine wpAnyH_take (i := 11) (oi := { dst := some 15, op := Op.assign (Operand.tmp 91), type := 43, pos := "law.go:195", after := #[{ on := 9, ground := Ground.data }, { on := 7, ground := Ground.chain }, { on := 0, ground := Ground.phase }, { on := 1, ground := Ground.phase }, { on := 2, ground := Ground.phase }, { on := 3, ground := Ground.phase }, { on := 4, ground := Ground.phase }, { on := 5, ground := Ground.phase }, { on := 6, ground := Ground.phase }, { on := 7, ground := Ground.phase }, { on := 8, ground := Ground.phase }, { on := 9, ground := Ground.phase }, { on := 10, ground := Ground.textOnly Departure.lateStores }], guard := none }) (v := ?_) rfl (by kernel_rfl) (by kernel_rfl) (by kernel_rfl) (fun _ _ _ h => h) (Or.inl ⟨by rfl, ?_⟩) (by assumption) ?_
                rotate_left
                · ((intro w hSw; (try dsimp only at hSw); go_simp; (try rw [if_neg (by omega)])); try with_reducible rfl)
                (try simp only [Act.put, List.setIfInBounds_toArray, List.set_cons_zero, List.set_cons_succ])
                refine wpAnyH_take (i := 12) (oi := { dst := some 16, op := Op.assign (Operand.tmp 92), type := 40, pos := "law.go:195", after := #[{ on := 10, ground := Ground.data }, { on := 11, ground := Ground.chain }, { on := 0, ground := Ground.phase }, { on := 1, ground := Ground.phase }, { on := 2, ground := Ground.phase }, { on := 3, ground := Ground.phase }, { on := 4, ground := Ground.phase }, { on := 5, ground := Ground.phase }, { on := 6, ground := Ground.phase }, { on := 7, ground := Ground.phase }, { on := 8, ground := Ground.phase }, { on := 9, ground := Ground.phase }, { on := 10, ground := Ground.phase }, { on := 11, ground := Ground.phase }], guard := none }) (v := ?_) rfl (by kernel_rfl) (by kernel_rfl) (by kernel_rfl) (fun _ _ _ h => h) (Or.inl ⟨by rfl, ?_⟩) (by assumption) ?_
                rotate_left
                · ((intro w hSw; (try dsimp only at hSw); go_simp; (try rw [if_neg (by omega)])); try with_reducible rfl)
                (try simp only [Act.put, List.setIfInBounds_toArray, List.set_cons_zero, List.set_cons_succ])
                refine wpAnyH_done (by kernel_rfl) ?_ _
                have HR7 := Lib.hid row7
                have HF7 : Hid (FrS F' W6 w7) := Lib.hid (FrS.over hdf s7.1 (fun b hb => .inl hb))
                have HS7 := Lib.hid (MSr.glue (HH.out.then hdr) HFF.out s7)
                clear row7 s7 hdf hdr HPU
                go_upto_region 16 with fail
                go_loopw [95] (fun v95 wr => ∃ j : Nat, v95 = .int .i64 (j : Int) ∧ j ≤ m ∧ Hid (Below w7.heap.size w7 wr)) (fun v _ => m - (intOf v).toNat)
                case atStart => exact ⟨0, rfl, Nat.zero_le _, Lib.hid (Below.refl _ _)⟩
                case round =>
                  obtain ⟨j, rfl, hj, HJ⟩ := hrel
                  by_cases hjm : j < m
                  · have hjj : (j : Int) < (m : Int) := by omega
                    have hj0 : (0 : Int) ≤ (j : Int) := by omega
                    obtain ⟨y, hy⟩ : ∃ y, PP.2.1[j]? = some y := ⟨PP.2.1[j]'(by rw [HMM.out]; exact hjm), List.getElem?_eq_getElem _⟩
                    have hyk := HGO.out y (List.mem_of_getElem? hy)
                    have heq : ∀ w, (binOp .eql 34 (.agg #[.int .i64 y.1, .int .i64 y.2.1, .int .i64 y.2.2.1, .int .i64 y.2.2.2]) (.agg #[.int .i64 ky.1, .int .i64 ky.2.1, .int .i64 ky.2.2.1, .int .i64 ky.2.2.2])).run Try.prog w = .ok (.bool false) w := fun w => by rw [show (false : Bool) = decide (y = ky) by simp [hyk]]; exact eq_ow w y ky
                    obtain ⟨gg, oo, rfl, q0, q1, q2, q3⟩ := ky_at (own_srcN (own_below HR7.out HJ.out)) hy hjm
                    clear hy hyk
                    go_upto_region 18 with fail
                    clear q0 q1 q2 q3
                    have hb8 := balloc (Below.refl _ wr) (.cells #[.int .i64 y.1, .int .i64 y.2.1, .int .i64 y.2.2.1, .int .i64 y.2.2.2] 34)
                    have b8 := heap_alloc_new wr (.cells #[.int .i64 y.1, .int .i64 y.2.1, .int .i64 y.2.2.1, .int .i64 y.2.2.2] 34)
                    obtain ⟨Y8, hY8⟩ : ∃ Y8, wr.heap.size = Y8 := ⟨_, rfl⟩
                    obtain ⟨W8, hW8⟩ : ∃ W8, wr.alloc (.cells #[.int .i64 y.1, .int .i64 y.2.1, .int .i64 y.2.2.1, .int .i64 y.2.2.2] 34) = W8 := ⟨_, rfl⟩
                    rw [hW8] at hb8 b8
                    rw [hW8]
                    rw [hY8] at b8
                    try rw [hY8]
                    have HJ8 := Lib.hid (bnext HJ.out hb8)
                    obtain ⟨-, -, -, -, -, y0, y1, y2, y3, -, -, -⟩ := HQ.out W8 (HF7.out.then HJ8.out)
                    have p0 : W8.cell? ⟨Y8, 0, none⟩ = some (.int .i64 y.1) := nd_cell b8 rfl
                    have p1 : W8.cell? ⟨Y8, 1, none⟩ = some (.int .i64 y.2.1) := nd_cell b8 rfl
                    have p2 : W8.cell? ⟨Y8, 2, none⟩ = some (.int .i64 y.2.2.1) := nd_cell b8 rfl
                    have p3 : W8.cell? ⟨Y8, 3, none⟩ = some (.int .i64 y.2.2.2) := nd_cell b8 rfl
                    clear hb8 b8 hY8 hW8
                    go_wp2
                    go_roundw
                    case rel => exact ⟨j + 1, by go_num, hjm, HJ8⟩
                    case measure => simp [intOf]; omega
                  · have hjj : ¬ (j : Int) < (m : Int) := by omega
                    clear hjm hj
                    have HP9 := Lib.hid (HPN.out)
                    have HS9 : Hid (MSr W5 F wr M mb root bu _ (i + 2)) := Lib.hid ((HS7.out.below HJ.out).mono (by omega))
                    go_wp2
                    go_roundw
                    case rel => exact ⟨i + 1, _, by go_num, by omega, by omega, HP9, HS9⟩
                    case measure => simp [intOf]; omega
              exact AllReadyH.nil
      · by_cases hin2 : i < n
        · have hii : (i : Int) < (n : Int) := by omega
          have hii6 : ¬ (i : Int) < 60 := by omega
          obtain ⟨Q1, Q2, Q3, Q4, E1, E2, E3, E4⟩ := HPd.out.last HSR.out.ok
          have HE1 := Lib.hid E1
          have HE2 := Lib.hid E2
          have HE3 := Lib.hid E3
          have HE4 := Lib.hid E4
          clear E1 E2 E3 E4
          obtain ⟨t0, t1, t2, t3, -⟩ := HS.out wr HSR.out.1
          go_upto_region 29 with fail
          go_wp2_with fail
          go_at_call 14
          refine (use_c ky HKO.out HSR.out HE1.out).mono ?_
          rintro e wa ⟨rfl, sa⟩
          have SA := Lib.hid sa
          clear sa t0 t1 t2 t3
          obtain ⟨t0, t1, t2, t3, -⟩ := HS.out wa SA.out.1
          go_wp2_with fail
          go_at_call 15
          refine (pin_c ky false HKO.out SA.out HE2.out).mono ?_
          rintro e wb ⟨rfl, sb⟩
          have SB := Lib.hid sb
          clear sb t0 t1 t2 t3
          obtain ⟨t0, t1, t2, t3, -⟩ := HS.out wb SB.out.1
          go_wp2_with fail
          go_at_call 16
          refine (drop_c ky HKO.out SB.out HE3.out).mono ?_
          rintro e wc ⟨rfl, sc⟩
          have SC := Lib.hid sc
          clear sc t0 t1 t2 t3
          obtain ⟨t0, t1, t2, t3, -⟩ := HS.out wc SC.out.1
          go_wp2_with fail
          go_at_call 14
          refine (use_c ky HKO.out SC.out HE4.out).mono ?_
          rintro e wd ⟨rfl, sd⟩
          have HFI := Lib.hid (sd.to_below HBW.out (fun b hb => Nat.le_trans (Nat.le_of_lt HG.out) (HF3.out b hb)))
          clear sd t0 t1 t2 t3
          go_wp2
          go_ret
          exact ⟨rfl, HFI.out⟩
        · have hii : ¬ (i : Int) < (n : Int) := by omega
          obtain ⟨Q1, Q2, Q3, Q4, E1, E2, E3, E4⟩ := HPd.out.last HSR.out.ok
          have HE1 := Lib.hid E1
          have HE2 := Lib.hid E2
          have HE3 := Lib.hid E3
          have HE4 := Lib.hid E4
          clear E1 E2 E3 E4
          obtain ⟨t0, t1, t2, t3, -⟩ := HS.out wr HSR.out.1
          go_upto_region 29 with fail
          go_wp2_with fail
          go_at_call 14
          refine (use_c ky HKO.out HSR.out HE1.out).mono ?_
          rintro e wa ⟨rfl, sa⟩
          have SA := Lib.hid sa
          clear sa t0 t1 t2 t3
          obtain ⟨t0, t1, t2, t3, -⟩ := HS.out wa SA.out.1
          go_wp2_with fail
          go_at_call 15
          refine (pin_c ky false HKO.out SA.out HE2.out).mono ?_
          rintro e wb ⟨rfl, sb⟩
          have SB := Lib.hid sb
          clear sb t0 t1 t2 t3
          obtain ⟨t0, t1, t2, t3, -⟩ := HS.out wb SB.out.1
          go_wp2_with fail
          go_at_call 16
          refine (drop_c ky HKO.out SB.out HE3.out).mono ?_
          rintro e wc ⟨rfl, sc⟩
          have SC := Lib.hid sc
          clear sc t0 t1 t2 t3
          obtain ⟨t0, t1, t2, t3, -⟩ := HS.out wc SC.out.1
          go_wp2_with fail
          go_at_call 14
          refine (use_c ky HKO.out SC.out HE4.out).mono ?_
          rintro e wd ⟨rfl, sd⟩
          have HFI := Lib.hid (sd.to_below HBW.out (fun b hb => Nat.le_trans (Nat.le_of_lt HG.out) (HF3.out b hb)))
          clear sd t0 t1 t2 t3
          go_wp2
          go_ret
          exact ⟨rfl, HFI.out⟩
  · have hpf : bu < sz := by omega
    go_wp2_with fail
    go_at_call 17
    refine (put_c ky sz HKO.out HM5.out.here (by omega) (ME.put_full (P := []) HM5.out.ok hsz0 (by omega) hpf)).mono ?_
    rintro e w6 ⟨v6, rfl, s6⟩
    have S6 := Lib.hid s6
    clear s6 t0 t1 t2 t3 t4
    obtain ⟨t0, t1, t2, t3, -⟩ := HS.out w6 S6.out.1
    go_upto_region 6 with fail
    go_wp2_with fail
    go_at_call 15
    refine (pin_c ky true HKO.out S6.out (ME.pin_no true (fun e h => by cases h))).mono ?_
    rintro e w7 ⟨rfl, s7⟩
    have S7 := Lib.hid s7
    clear s7 t0 t1 t2 t3
    go_wp2_with fail
    go_at_call 18
    refine (list_s S7.out (by omega)).mono ?_
    rintro e w8 ⟨v8, rfl, row8, k8⟩
    obtain ⟨la, lc, rfl⟩ := own_shape row8
    have HFI := Lib.hid ((S7.out.below k8).to_below HBW.out (fun b hb => Nat.le_trans (Nat.le_of_lt HG.out) (HF3.out b hb)))
    clear row8 k8
    go_wp2
    go_ret
    exact ⟨rfl, HFI.out⟩

set_option maxRecDepth 100000 in
theorem lifted (os : Os) (started : os.Started) (H : Type) (enc : TypeId × Value → H) :
    ReturnsInHanded {} Try.checked os 6 .any (Rows.memoryPinnedSpec.pre6 enc Try.prog Try.f6 Rows.memoryPinnedRow.domain false) (Rows.memoryPinnedSpec.post enc Try.prog Try.f6 false true false false) := by
  refine returnsInHanded_of_change (C := Try.checked) own started (by kernel_rfl) Try.func6
    (ChangeSpec.witness6 (enc := enc) (C := Try.checked) false ⟨#[], #[.int .u8 0, .slice none 0 0, .agg #[.int .u8 0, .int .u8 0]], []⟩ 8 (by kernel_rfl) (by kernel_rfl) (by kernel_rfl) (by kernel_rfl)) ?_
  intro W base args ds gs before hval0 hW hcnd _
  have hval : ∀ (j : Nat) t v, Try.f6.params[j]? = some t → args[j]? = some v → Value.okWide Try.prog W .any base t v := hval0
  have hW' := hW
  obtain ⟨p, q, hA0, hV, rfl, hfz, hnd⟩ := hW
  have hA : DataW.TrodAll enc Try.prog W 0 (fun _ => true) true Try.f6.params.toList args.toList ds p := hA0
  rw [Try.params6] at hA hval
  obtain ⟨v0, vs0, d0, ds0, p0, q0, hargs, rfl, rfl, h0, r0⟩ := trodAll_cons hA
  obtain ⟨v1, vs1, d1, ds1, p1, q1, rfl, rfl, rfl, h1, r1⟩ := trodAll_cons r0
  obtain ⟨v2, vs2, d2, ds2, p2, q2, rfl, rfl, rfl, h2, r2⟩ := trodAll_cons r1
  obtain ⟨rfl, rfl, rfl⟩ := trodAll_nil r2
  obtain rfl : args = #[v0, v1, v2] := by cases args; simp_all
  obtain ⟨rfl, rfl⟩ := trodVars_none hV
  have k0 := h0
  have lt0 : ∀ x ∈ p0, x.block < W.heap.size := by obtain ⟨m, hm⟩ := k0; exact DataW.trod_lt m _ _ _ hm
  have k1 := h1
  have lt1 : ∀ x ∈ p1, x.block < W.heap.size := by obtain ⟨m, hm⟩ := k1; exact DataW.trod_lt m _ _ _ hm
  have k2 := h2
  have lt2 : ∀ x ∈ p2, x.block < W.heap.size := by obtain ⟨m, hm⟩ := k2; exact DataW.trod_lt m _ _ _ hm
  obtain ⟨a0, rfl, rfl, rfl, wa0⟩ := open_int Try.underlying5 (hval 0 5 v0 rfl rfl) h0
  obtain ⟨a1, H1⟩ := open_acts (hval 1 22 v1 rfl rfl) h1
  obtain ⟨a2, b2, rfl, wa2, wb2⟩ := open_arr2 Try.underlying49 Try.underlying5 (by kernel_rfl) (by kernel_rfl) (hval 2 49 v2 rfl rfl) h2
  clear hA0 hval0
  refine (walk a0 v1 a1 a2 b2 wa0 wa2 wb2 W H1).mono fun e W' ⟨he, bel⟩ => ?_
  subst he
  exact ⟨_, rfl, _, _, _, [], _, [], hW', trodAll_mk1 (shut_bool Try.underlying4 _), (trodAll_cons_mk (Below.trod laidOut (by kernel_rfl) (of_decide_eq_true (by kernel_rfl)) k0 bel lt0) (trodAll_cons_mk (Below.trod laidOut (by kernel_rfl) (of_decide_eq_true (by kernel_rfl)) k1 bel lt1) (trodAll_cons_mk (Below.trod laidOut (by kernel_rfl) (of_decide_eq_true (by kernel_rfl)) k2 bel lt2) trodAll_mk0))), rfl, bel.frame _, fun h => by cases h⟩

theorem over : Rows.memoryPinnedRow.holds Try.pinned (OpenSpec.ofChange Rows.memoryPinnedSpec) :=
  OpenClaim.holds_of_wide 6 Try.f6 rfl rfl rfl rfl rfl rfl rfl ⟨rfl, rfl, rfl, rfl, rfl⟩ rfl rfl rfl rfl rfl (by kernel_rfl) Try.func6 (by kernel_rfl)
    (of_decide_eq_true (by kernel_rfl)) (by unfold Func.isWrapper; first | (rw [if_pos (by decide +kernel)]; kernel_rfl) | (rw [if_neg (by decide +kernel)]; exact ⟨rfl, rfl⟩))
    (fun os started H enc _ => lifted os started H enc)

end Go.Proofs.Ytmnajongifdajaa.memoryPinned
namespace Go.Proofs.Ytmnajongifdajaa
theorem memoryPinned_proved : Rows.MemoryPinnedSaid := memoryPinned.over
#print axioms memoryPinned_proved
end Go.Proofs.Ytmnajongifdajaa
