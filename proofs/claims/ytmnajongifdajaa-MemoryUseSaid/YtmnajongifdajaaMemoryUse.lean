/- For every budget, all acts and whichever key MemoryUse returns true: using a key makes it the last one, and changes nothing else. No conditions. -/
import Derived.Test.YtmnajongifdajaaMem38
namespace Go.Proofs.Ytmnajongifdajaa.memoryUse
open Go.ChangeShapes Go.WideShapes Go.ChangeAt Go.RowKit Go.Joins Go.Deep ME
set_option linter.unusedVariables false

set_option maxRecDepth 100000 in
set_option maxHeartbeats 8000000 in
theorem walk (a0 : Int) (v1 : Value) (a1 : List Ac) (a2 : Int) (wa0 : (Lit.int .u8 a0).wf = true) (wa2 : (Lit.int .u8 a2).wf = true) (w : World) (H1 : AcArg w v1 a1) :
    Calls Try.prog 8 #[.int .u8 a0, v1, .int .u8 a2] w fun e w' => e = .returned (.bool true) ∧ Below w.heap.size w w' := by
  have HM : Hid (∀ V, Below w.heap.size w V → AcArg V v1 a1) := Lib.hid fun V hV => H1.keep hV
  clear H1
  have h8 := bd8 wa0
  have hre : a0.tmod 64 = a0 % 64 := Int.tmod_eq_emod_of_nonneg h8.1
  obtain ⟨bu, hbu⟩ : ∃ bu, a0 % 64 = bu := ⟨_, rfl⟩
  have hbu0 : 0 ≤ bu := by omega
  have hbu1 : bu < 64 := by omega
  rw [hbu] at hre
  have h82 := bd8 wa2
  clear hbu
  obtain ⟨i0, hi0', hz0, hz1, hz2⟩ := info_parts info_ow
  go_enter Try.func8, Try.ntmps8
  go_wp2_with fail
  refine (sanity_any _).mono ?_
  rintro e w2 ⟨rfl, k2⟩
  have HB2 := Lib.hid k2
  clear k2
  go_wp2_with fail
  go_at_call 11
  refine (filled_yes w2 bu v1 a1 hbu0 (by omega) (HM.out _ HB2.out)).mono ?_
  rintro e w3 ⟨M, mb, root, r, H, rfl, hps, hH, k3⟩
  obtain ⟨F, hms, hFH⟩ := hps.ms
  obtain ⟨G, hrr⟩ := hps.ref
  obtain ⟨P, hP⟩ : ∃ P, ME.acts bu (a1.take 60) [] = P := ⟨_, rfl⟩
  rw [hP] at hms hrr
  have HMS := Lib.hid hms
  have HOK := Lib.hid hms.ok
  have HF3 : Hid (∀ b, F b → w2.heap.size ≤ b) := Lib.hid fun b hb => hH b (hFH b hb)
  have HB3 := Lib.hid (bnext HB2.out k3)
  have hl1 := hms.l1
  obtain ⟨⟨v, hr3, hrow, -⟩, -, -⟩ := hrr
  obtain ⟨va, vc, rfl⟩ := own_shape hrow
  obtain ⟨n, hn⟩ : ∃ n, P.length = n := ⟨_, rfl⟩
  rw [hn] at hr3 hrow hl1
  have HN := Lib.hid hn
  have HROW := Lib.hid hrow
  have HR3 := Lib.hid hr3
  obtain ⟨-, -, c2⟩ := rmem_cells hr3
  clear hps hms hP hH hFH k3 hn hrow hr3
  by_cases hn0 : n = 0
  · subst hn0
    have HFI := Lib.hid HB3.out
    go_wp2
    go_ret
    exact ⟨rfl, HFI.out⟩
  · have hnz : ((n : Int) == 0) = false := by simp; omega
    have hnp : (0 : Int) < (n : Int) := by omega
    obtain ⟨k, hk, hkn⟩ : ∃ k : Nat, a2.tmod (n : Int) = (k : Int) ∧ k < n := by
      refine ⟨(a2 % (n : Int)).toNat, ?_, ?_⟩
      · rw [Int.tmod_eq_emod_of_nonneg h82.1, Int.toNat_of_nonneg (Int.emod_nonneg _ (by omega))]
      · have := Int.emod_lt_of_pos a2 hnp
        have := Int.emod_nonneg a2 (show (n : Int) ≠ 0 by omega)
        omega
    have hkk : (k : Int) < (n : Int) := by omega
    have hk0 : (0 : Int) ≤ (k : Int) := by omega
    obtain ⟨x, hx⟩ : ∃ x, P[k]? = some x := ⟨P[k]'(by rw [HN.out]; exact hkn), List.getElem?_eq_getElem _⟩
    obtain ⟨g, rfl, -, k0, k1, k2, k3, k4, k5⟩ := kept_at HROW.out hx hkn
    have HX := Lib.hid hx
    clear hx
    go_upto_region 7 with fail
    clear k0 k1 k2 k3 k4 k5 c2
    have hb5 := balloc (Below.refl _ w3) (.cells #[.int .i64 x.f, .int .i64 x.k, .int .i64 x.n, .int .i64 x.r, .int .i64 x.size, .bool x.pin] 55)
    have b5 := heap_alloc_new w3 (.cells #[.int .i64 x.f, .int .i64 x.k, .int .i64 x.n, .int .i64 x.r, .int .i64 x.size, .bool x.pin] 55)
    obtain ⟨X, hX⟩ : ∃ X, w3.heap.size = X := ⟨_, rfl⟩
    obtain ⟨W5, hW5⟩ : ∃ W5, w3.alloc (.cells #[.int .i64 x.f, .int .i64 x.k, .int .i64 x.n, .int .i64 x.r, .int .i64 x.size, .bool x.pin] 55) = W5 := ⟨_, rfl⟩
    rw [hW5] at hb5 b5
    rw [hW5]
    rw [hX] at b5
    rw [hX]
    have HM5 := Lib.hid (HMS.out.below hb5)
    have HB5 := Lib.hid (bnext HB3.out hb5)
    have HX5 := Lib.hid b5
    have HFX : Hid (∀ b, F b → b < X) := Lib.hid fun b hb => by have := HMS.out.lt b hb; omega
    clear hb5 b5 hW5 hX
    go_upto_region 8 with fail
    go_wp2_with fail
    go_at_call 18
    refine (list_s HM5.out.here (by omega)).mono ?_
    rintro e w6 ⟨v6, rfl, row6, k6⟩
    rw [List.length_map, HN.out] at row6
    obtain ⟨la, lc, rfl⟩ := own_shape row6
    have HR6 := Lib.hid row6
    have HK6 := Lib.hid k6
    clear row6 k6
    go_upto_region 9 with fail
    go_loopw [13, 67] (fun v13 v67 wr => ∃ i c : Nat, v67 = .int .i64 (i : Int) ∧ i ≤ n ∧ c ≤ i ∧ wr.ownsRow w6.heap.size 34 4 v13 c (ME.kc (ME.wk P k i)) ∧ Hid (Below w6.heap.size w6 wr)) (fun _ v _ => n - (intOf v).toNat)
    case atStart => exact ⟨0, 0, rfl, Nat.zero_le _, Nat.le_refl _, World.ownsRow_nil _ _ _ _, Lib.hid (Below.refl _ _)⟩
    case round =>
      obtain ⟨i, c, rfl, hi, hci, hown, HB⟩ := hrel
      obtain ⟨oa, oc, rfl⟩ := own_shape hown
      have HOW := Lib.hid hown
      clear hown
      by_cases hin : i < n
      · have hii : (i : Int) < (n : Int) := by omega
        have hj0 : (0 : Int) ≤ (i : Int) := by omega
        obtain ⟨y, hy⟩ : ∃ y, P[i]? = some y := ⟨P[i]'(by rw [HN.out]; exact hin), List.getElem?_eq_getElem _⟩
        have HY := Lib.hid hy
        obtain ⟨yk, hyk⟩ : ∃ yk, y.key = yk := ⟨_, rfl⟩
        have HYK := Lib.hid hyk
        obtain ⟨gg, oo, rfl, q0, q1, q2, q3⟩ := ky_at (own_srcN (own_below HR6.out HB.out)) (i := i) (k := yk) (by rw [List.getElem?_map, hy]; simp [hyk]) hin
        clear hy hyk
        go_upto_region 11 with fail
        clear q0 q1 q2 q3
        have hb7 := balloc (Below.refl _ wr) (.cells #[.int .i64 yk.1, .int .i64 yk.2.1, .int .i64 yk.2.2.1, .int .i64 yk.2.2.2] 34)
        have b7 := heap_alloc_new wr (.cells #[.int .i64 yk.1, .int .i64 yk.2.1, .int .i64 yk.2.2.1, .int .i64 yk.2.2.2] 34)
        obtain ⟨Y, hY⟩ : ∃ Y, wr.heap.size = Y := ⟨_, rfl⟩
        obtain ⟨W7, hW7⟩ : ∃ W7, wr.alloc (.cells #[.int .i64 yk.1, .int .i64 yk.2.1, .int .i64 yk.2.2.1, .int .i64 yk.2.2.2] 34) = W7 := ⟨_, rfl⟩
        rw [hW7] at hb7 b7
        rw [hW7]
        rw [hY] at b7
        try rw [hY]
        have HB7 := Lib.hid (bnext HB.out hb7)
        have HO7 := Lib.hid (own_below HOW.out hb7)
        have p0 : W7.cell? ⟨Y, 0, none⟩ = some (.int .i64 yk.1) := nd_cell b7 rfl
        have p1 : W7.cell? ⟨Y, 1, none⟩ = some (.int .i64 yk.2.1) := nd_cell b7 rfl
        have p2 : W7.cell? ⟨Y, 2, none⟩ = some (.int .i64 yk.2.2.1) := nd_cell b7 rfl
        have p3 : W7.cell? ⟨Y, 3, none⟩ = some (.int .i64 yk.2.2.2) := nd_cell b7 rfl
        clear hb7 b7 hY hW7
        by_cases hik : i = k
        · have hne : ((i : Int) != (k : Int)) = false := by simp; omega
          have HWK : Hid (ME.wk P k (i + 1) = ME.wk P k i) := Lib.hid (by subst hik; exact ME.wk_self HY.out)
          clear hik
          go_wp2
          go_roundw
          case rel => exact ⟨i + 1, c, by go_num, hin, by omega, by rw [HWK.out]; exact HO7.out, HB7⟩
          case measure => simp [intOf]; omega
        · have hne : ((i : Int) != (k : Int)) = true := by simp; omega
          have HWK : Hid (ME.kc (ME.wk P k (i + 1)) = ME.kc (ME.wk P k i) ++ ME.kyL yk) := Lib.hid (by rw [ME.wk_next HY.out hik, HYK.out]; simp [ME.kc])
          obtain ⟨U, hU⟩ : ∃ U, ME.kc (ME.wk P k i) = U := ⟨_, rfl⟩
          rw [hU] at HO7 HWK
          clear hik hU HOW
          go_wp2_with (at_builtin; refine wpList_appN _ rfl _ _ 43 rfl w6.heap.size 34 i0 _ 4 32 Try.underlying43 hi0' hz0 hz1 hz2 rfl (by decide) (.slice oa c oc) c U rfl (own_below HO7.out (balloc (Below.refl _ _) _)) (.slice (some ⟨W7.heap.size, 0, none⟩) 1 1) 1 (ME.kyL yk) rfl (srcN_new W7 (ME.kyL yk) 34 4 1 1 rfl) (by simp [ME.kyL, Value.oneCell']) (by unfold maxLen; omega) (by omega) (by have := HB7.out.size; simp; omega) ?_; intro v' w8 hown' hgrow _)
          have hb8 : Below w6.heap.size w6 w8 := (balloc HB7.out _).grown hgrow (by have := HB7.out.size; simp; omega) (fun q e => (HO7.out.lt q e).1)
          obtain ⟨oa', oc', rfl⟩ := own_shape hown'
          have HO8 := Lib.hid hown'
          have HB8 := Lib.hid hb8
          clear hown' hgrow hb8
          go_wp2
          go_roundw
          case rel => exact ⟨i + 1, c + 1, by go_num, hin, by omega, by rw [HWK.out]; exact HO8.out, HB8⟩
          case measure => simp [intOf]; omega
      · obtain rfl : n = i := by omega
        have hii : ¬ (n : Int) < (n : Int) := by omega
        have HC : Hid ((ME.wk P k n).length = c) := Lib.hid (by have := HOW.out.1; rw [kc_len] at this; omega)
        have HWA : Hid (ME.wk P k n = (P.eraseIdx k).map En.key) := Lib.hid (by have := ME.wk_all (P := P) (k := k); rw [HN.out] at this; exact this)
        have HBR := Lib.hid (bnext HK6.out HB.out)
        have HMW := Lib.hid (HM5.out.below HBR.out)
        have HXW := Lib.hid ((HBR.out.block X (Array.getElem?_eq_some_iff.1 HX5.out).1).trans HX5.out)
        have HKO : Hid (K4ok (x.f, x.k, x.n, x.r)) := Lib.hid (HOK.out.ok x (List.mem_of_getElem? HX.out))
        have HE1 : Hid (ME.use (x.f, x.k, x.n, x.r) P = (P.eraseIdx k ++ [x], true)) := Lib.hid (ME.use_at HOK.out HX.out)
        have HE2 : Hid (ME.put bu (x.f, x.k, x.n, x.r) x.size (P.eraseIdx k ++ [x]) = (P.eraseIdx k ++ [x], [], 0)) := Lib.hid (ME.put_again HOK.out HX.out)
        have HS : Hid (∀ V, FrS F wr V → (V.cell? ⟨X, 0, none⟩ = some (.int .i64 x.f) ∧ V.cell? ⟨X, 1, none⟩ = some (.int .i64 x.k) ∧ V.cell? ⟨X, 2, none⟩ = some (.int .i64 x.n) ∧ V.cell? ⟨X, 3, none⟩ = some (.int .i64 x.r)) ∧ V.cell? ⟨X, 4, none⟩ = some (.int .i64 x.size) ∧ SrcN 4 V (.slice oa c oc) c (ME.kc (ME.wk P k n))) := Lib.hid fun V hV => by
          have q := hV.nd HXW.out (fun h => by have := HFX.out X h; omega)
          exact ⟨⟨nd_cell q rfl, nd_cell q rfl, nd_cell q rfl, nd_cell q rfl⟩, nd_cell q rfl, own_srcN (row_keepF HOW.out hV (fun b hb => by have := HFX.out b hb; have := (Array.getElem?_eq_some_iff.1 HX5.out).1; have := HK6.out.size; omega))⟩
        have HVB : Hid (∀ V, FrS F wr V → Below w.heap.size w V) := Lib.hid fun V hV => hV.below w (bnext HB5.out HBR.out) (fun b hb => Nat.le_trans HB2.out.size (HF3.out b hb))
        have HSM : Hid (ME.sm (P.eraseIdx k ++ [x]) = ME.sm P) := Lib.hid (ME.sm_at HX.out)
        obtain ⟨us, hus⟩ : ∃ us, ME.sm P = us := ⟨_, rfl⟩
        rw [hus] at HSM
        have HUS := Lib.hid (used_s HMW.out.here)
        rw [hus] at HUS
        clear hus
        go_upto_region 14 with fail
        go_wp2_with fail
        go_at_call 19
        refine HUS.out.mono ?_
        rintro e wb ⟨rfl, he⟩
        have he' := he.symm
        subst he'
        obtain ⟨⟨t0, t1, t2, t3⟩, t4, -⟩ := HS.out wr (FrS.refl _ _)
        go_upto_region 15 with fail
        go_wp2_with fail
        go_at_call 14
        refine (use_c (x.f, x.k, x.n, x.r) HKO.out HMW.out.here HE1.out).mono ?_
        rintro e we ⟨rfl, sc⟩
        have SC := Lib.hid sc
        clear sc t0 t1 t2 t3 t4
        go_upto_region 16 with fail
        have mixed : Try.prog.follows .mixedOrders = true := by kernel_rfl
        have HNC : Hid (c + 1 = n) := Lib.hid (by
          have h1 := HC.out
          rw [HWA.out, List.length_map, List.length_eraseIdx_of_lt (by rw [HN.out]; exact hkn), HN.out] at h1
          omega)
        have HLR : Hid (((P.eraseIdx k ++ [x]).map En.key).length = n) := Lib.hid (by
          rw [List.length_map, List.length_append, List.length_eraseIdx_of_lt (by rw [HN.out]; exact hkn), HN.out]
          simp
          omega)
        have HKR : Hid (ME.kc ((P.eraseIdx k ++ [x]).map En.key) = ME.kc (ME.wk P k n) ++ ME.kyL (x.f, x.k, x.n, x.r)) := Lib.hid (by
          rw [HWA.out, List.map_append]
          simp [ME.kc, En.key])
        go_cut [18] from 86 to 101 (fun s18 wx => s18 = .bool true ∧ Hid (Below we.heap.size we wx))
        case first =>
          have HWD0 := Below.drew (Below.refl we.heap.size we)
          obtain ⟨W0, hW0⟩ : ∃ W0, we.drew = W0 := ⟨_, rfl⟩
          rw [hW0] at HWD0
          have HWD := Lib.hid HWD0
          have HW0 := Lib.hid hW0
          clear HWD0 hW0
          have bz0 : Below W0.heap.size W0 W0 := Below.refl _ _
          have HFW : Hid (FrS F wr W0) := Lib.hid (SC.out.1.then HWD.out)
          have HL : Hid (∀ V, Below W0.heap.size W0 V → Calls Try.prog 18 #[ptr M] V fun x' w' => ∃ v, x' = .returned v ∧ w'.ownsRow V.heap.size 34 4 v n (ME.kc ((P.eraseIdx k ++ [x]).map En.key)) ∧ Below V.heap.size V w') := Lib.hid fun V hV => by
            have h := list_s ((SC.out.below HWD.out).below hV) (by omega)
            rw [HLR.out] at h
            exact h
          have HU : Hid (∀ V, Below W0.heap.size W0 V → Calls Try.prog 19 #[ptr M] V fun x' w' => x' = .returned (.int .i64 us) ∧ w' = V) := Lib.hid fun V hV => by
            have h := used_s ((SC.out.below HWD.out).below hV)
            rw [HSM.out] at h
            exact h
          refine wp_region_held_drew (S := (fun w' => w'.cell? ⟨X, 0, none⟩ = some (.int .i64 x.f) ∧ w'.cell? ⟨X, 1, none⟩ = some (.int .i64 x.k) ∧ w'.cell? ⟨X, 2, none⟩ = some (.int .i64 x.n) ∧ w'.cell? ⟨X, 3, none⟩ = some (.int .i64 x.r))) (by kernel_rfl) ?_ (fun hHeld => ?_)
          · (rw [HW0.out]; exact (HS.out _ (HFW.out.then bz0)).1)
          rw [HW0.out] at hHeld ⊢
          refine wpAnyH_take (i := 0) (oi := { dst := some 86, op := Op.move (Operand.tmp 8), type := 24, pos := "law.go:250", after := #[], guard := none }) (v := ?_) rfl (by kernel_rfl) (by kernel_rfl) (by kernel_rfl) (fun _ _ _ h => h) (Or.inl ⟨by rfl, ?_⟩) (by assumption) ?_
          rotate_left
          · ((intro w hSw; (try dsimp only at hSw); go_simp; (try rw [if_neg (by omega)])); try with_reducible rfl)
          (try simp only [Act.put, List.setIfInBounds_toArray, List.set_cons_zero, List.set_cons_succ])
          refine wpAnyH_take (i := 3) (oi := { dst := some 89, op := Op.move (Operand.tmp 13), type := 43, pos := "law.go:250", after := #[], guard := none }) (v := ?_) rfl (by kernel_rfl) (by kernel_rfl) (by kernel_rfl) (fun _ _ _ h => h) (Or.inl ⟨by rfl, ?_⟩) (by assumption) ?_
          rotate_left
          · ((intro w hSw; (try dsimp only at hSw); go_simp; (try rw [if_neg (by omega)])); try with_reducible rfl)
          (try simp only [Act.put, List.setIfInBounds_toArray, List.set_cons_zero, List.set_cons_succ])
          refine wpAnyH_take (i := 5) (oi := { dst := some 91, op := Op.fieldAddr 55 (Operand.tmp 12) 0, type := 0, pos := "law.go:250", after := #[], guard := none }) (v := ?_) rfl (by kernel_rfl) (by kernel_rfl) (by kernel_rfl) (fun _ _ _ h => h) (Or.inl ⟨by rfl, ?_⟩) (by assumption) ?_
          rotate_left
          · ((intro w hSw; (try dsimp only at hSw); go_simp; (try rw [if_neg (by omega)])); try with_reducible rfl)
          (try simp only [Act.put, List.setIfInBounds_toArray, List.set_cons_zero, List.set_cons_succ])
          refine wpAnyH_take (i := 6) (oi := { dst := some 92, op := Op.load 34 (Operand.tmp 91), type := 34, pos := "law.go:250", after := #[{ on := 5, ground := Ground.data }], guard := none }) (v := ?_) rfl (by kernel_rfl) (by kernel_rfl) (by kernel_rfl) (fun _ _ _ h => h) (Or.inl ⟨by rfl, ?_⟩) (by assumption) ?_
          rotate_left
          · ((intro w hSw; (try dsimp only at hSw); go_simp; (try rw [if_neg (by omega)])); try with_reducible rfl)
          (try simp only [Act.put, List.setIfInBounds_toArray, List.set_cons_zero, List.set_cons_succ])
          refine wpAnyH_ready (rs := [1, 2, 7]) (by kernel_rfl) (by simp) ?_
          refine AllReadyH.cons (o := { dst := some 87, op := Op.call { callee := Callee.value (Operand.func 18), args := #[Operand.tmp 86], argTypes := #[24] }, type := 43, pos := "law.go:250", after := #[{ on := 0, ground := Ground.data }], guard := none }) rfl (fun K hK => ?_) ?_
          · (go_simp; go_at_call 18; refine (HL.out W0 bz0).mono ?_; rintro u wz1 ⟨v1, rfl, row1, dz1⟩; obtain ⟨ra, rc, rfl⟩ := own_shape row1; have n1 : ∀ q, (Value.slice ra n rc).ownBlock = some q → W0.heap.size ≤ q ∧ q < wz1.heap.size := row1.lt; have bz1 := bnext bz0 dz1; have sz1 := dz1.size; dsimp only)
            refine hK.out _ _ ?_ (fun hHeld => ?_)
            · exact (HS.out _ (HFW.out.then bz1)).1
            clear hK K
            (try simp only [Act.put, List.setIfInBounds_toArray, List.set_cons_zero, List.set_cons_succ])
            refine wpAnyH_ready (rs := [2, 7]) (by kernel_rfl) (by simp) ?_
            refine AllReadyH.cons (o := { dst := some 88, op := Op.buildSlice 43 0 #[], type := 43, pos := "law.go:250", after := #[], guard := none }) rfl (fun K hK => ?_) ?_
            · (go_simp; have rowE := own_empty wz1 34 4 wz1.heap.size (Nat.le_refl _); have dz2 := balloc (Below.refl _ wz1) (.cells #[] 34); obtain ⟨wz2, hq⟩ : ∃ w', wz1.alloc (.cells #[] 34) = w' := ⟨_, rfl⟩; rw [hq] at rowE dz2; rw [hq]; clear hq; have nE : ∀ q, (Value.slice (some ⟨wz1.heap.size, 0, none⟩) 0 0).ownBlock = some q → wz1.heap.size ≤ q ∧ q < wz2.heap.size := rowE.lt; have bz2 := bnext bz1 dz2; have sz2 := dz2.size; have row1 := own_below row1 dz2)
              refine hK.out _ _ ?_ (fun hHeld => ?_)
              · exact (HS.out _ (HFW.out.then bz2)).1
              clear hK K
              (try simp only [Act.put, List.setIfInBounds_toArray, List.set_cons_zero, List.set_cons_succ])
              refine wpAnyH_ready (rs := [4, 7]) (by kernel_rfl) (by simp) ?_
              refine AllReadyH.cons (o := { dst := some 90, op := Op.call { callee := Callee.builtin Builtin.append, args := #[Operand.tmp 88, Operand.tmp 89], argTypes := #[43, 43] }, type := 43, pos := "law.go:250", after := #[{ on := 2, ground := Ground.data }, { on := 3, ground := Ground.data }, { on := 1, ground := Ground.chain }], guard := none }) rfl (fun K hK => ?_) ?_
              · (refine step_appN (by rfl) _ _ _ (by rfl) _ 34 i0 _ 4 32 Try.underlying43 hi0' hz0 hz1 hz2 rfl (by decide) _ 0 [] (by rfl) rowE _ c (ME.kc (ME.wk P k n)) (by rfl) ((HS.out _ (HFW.out.then bz2)).2.2) (kc_cells _) (by unfold maxLen; omega) (by omega) (by omega) ?_; intro v2 wz3 row2 hgr hob; rw [Nat.zero_add, List.nil_append] at row2; obtain ⟨sa2, sc2, rfl⟩ := own_shape row2; have bz3 := bz2.grown hgr bz2.size (fun q e => by have h := nE q e; have h0 := bz2.size; omega); have sz3 := hgr.size; have n2 : ∀ q, (Value.slice sa2 _ sc2).ownBlock = some q → _ := fun q e2 => Or.elim hob (fun h => Or.inl (nE q (h.symm.trans e2))) (fun h => Or.inr (Option.some.inj (e2.symm.trans h))); have row1 := own_of_grown row1 hgr (fun q e e2 => by have h1 := n1 q e; have h2 := nE q e2; omega); clear hgr hob)
                refine hK.out _ _ ?_ (fun hHeld => ?_)
                · exact (HS.out _ (HFW.out.then bz3)).1
                clear hK K
                (try simp only [Act.put, List.setIfInBounds_toArray, List.set_cons_zero, List.set_cons_succ])
                refine wpAnyH_ready (rs := [7]) (by kernel_rfl) (by simp) ?_
                refine AllReadyH.cons (o := { dst := some 93, op := Op.buildSlice 43 1 #[(0, Operand.tmp 92)], type := 43, pos := "law.go:250", after := #[{ on := 6, ground := Ground.data }], guard := none }) rfl (fun K hK => ?_) ?_
                · (go_simp; have rowD := own_one wz3 (ME.kyL (x.f, x.k, x.n, x.r)) 34 rfl; have dz4 := balloc (Below.refl _ wz3) (.cells #[.int .i64 x.f, .int .i64 x.k, .int .i64 x.n, .int .i64 x.r] 34); change (wz3.alloc (.cells #[.int .i64 x.f, .int .i64 x.k, .int .i64 x.n, .int .i64 x.r] 34)).ownsRow _ _ _ _ _ _ at rowD; obtain ⟨wz4, hq⟩ : ∃ w', wz3.alloc (.cells #[.int .i64 x.f, .int .i64 x.k, .int .i64 x.n, .int .i64 x.r] 34) = w' := ⟨_, rfl⟩; rw [hq] at rowD dz4; rw [hq]; clear hq; have nD : ∀ q, (Value.slice (some ⟨wz3.heap.size, 0, none⟩) 1 1).ownBlock = some q → wz3.heap.size ≤ q ∧ q < wz4.heap.size := rowD.lt; have bz4 := bnext bz3 dz4; have sz4 := dz4.size; have row1 := own_below row1 dz4; have row2 := own_below row2 dz4)
                  refine hK.out _ _ ?_ (fun hHeld => ?_)
                  · exact (HS.out _ (HFW.out.then bz4)).1
                  clear hK K
                  (try simp only [Act.put, List.setIfInBounds_toArray, List.set_cons_zero, List.set_cons_succ])
                  refine wpAnyH_ready (rs := [8]) (by kernel_rfl) (by simp) ?_
                  refine AllReadyH.cons (o := { dst := some 94, op := Op.call { callee := Callee.builtin Builtin.append, args := #[Operand.tmp 90, Operand.tmp 93], argTypes := #[43, 43] }, type := 43, pos := "law.go:250", after := #[{ on := 4, ground := Ground.data }, { on := 7, ground := Ground.data }, { on := 4, ground := Ground.chain }], guard := none }) rfl (fun K hK => ?_) ?_
                  · (refine step_appN (by rfl) _ _ _ (by rfl) _ 34 i0 _ 4 32 Try.underlying43 hi0' hz0 hz1 hz2 rfl (by decide) _ c _ (by rfl) row2 _ 1 _ (by rfl) (own_srcN rowD) (by intro u hu; simp only [ME.kyL, List.mem_cons, List.not_mem_nil, or_false] at hu; rcases hu with rfl | rfl | rfl | rfl <;> rfl) (by unfold maxLen; omega) (by omega) (by omega) ?_; intro v3 wz5 row3 hgr hob; obtain ⟨sa3, sc3, rfl⟩ := own_shape row3; have bz5 := bz4.grown hgr bz4.size (fun q e => by have h := n2 q e; have h0 := bz4.size; omega); have sz5 := hgr.size; have row1 := own_of_grown row1 hgr (fun q e e2 => by have h1 := n1 q e; have h2 := n2 q e2; omega); clear hgr hob)
                    refine hK.out _ _ ?_ (fun hHeld => ?_)
                    · exact (HS.out _ (HFW.out.then bz5)).1
                    clear hK K
                    (try simp only [Act.put, List.setIfInBounds_toArray, List.set_cons_zero, List.set_cons_succ])
                    refine wpAnyH_ready (rs := [9]) (by kernel_rfl) (by simp) ?_
                    refine AllReadyH.cons (o := { dst := some 95, op := Op.call { callee := Callee.value (Operand.func 20), args := #[Operand.tmp 87, Operand.tmp 94], argTypes := #[43, 43] }, type := 4, pos := "law.go:250", after := #[{ on := 1, ground := Ground.data }, { on := 8, ground := Ground.data }, { on := 8, ground := Ground.chain }], guard := none }) rfl (fun K hK => ?_) ?_
                    · (go_simp; go_at_call 20; refine (same_any wz5 (.slice ra n rc) (.slice sa3 (c + 1) sc3) ((P.eraseIdx k ++ [x]).map En.key) ((P.eraseIdx k ++ [x]).map En.key) (by rw [HLR.out]; exact own_srcN row1) (by rw [HLR.out, ← HNC.out, HKR.out]; exact own_srcN row3) (by rw [HLR.out]; omega) (by rw [HLR.out]; omega)).mono ?_; rintro u wz6 ⟨rfl, nq, hw⟩; rw [decide_eq_true rfl]; have bz6 : Below W0.heap.size W0 wz6 := (by rw [hw]; exact bnext bz5 ⟨rfl, rfl, rfl, Nat.le_refl _, fun _ _ => rfl⟩); clear hw; dsimp only)
                      refine hK.out _ _ ?_ (fun hHeld => ?_)
                      · exact (HS.out _ (HFW.out.then bz6)).1
                      clear hK K
                      (try simp only [Act.put, List.setIfInBounds_toArray, List.set_cons_zero, List.set_cons_succ])
                      refine wpAnyH_take (i := 10) (oi := { dst := some 96, op := Op.move (Operand.tmp 95), type := 4, pos := "law.go:250", after := #[{ on := 9, ground := Ground.data }, { on := 9, ground := Ground.chain }], guard := none }) (v := ?_) rfl (by kernel_rfl) (by kernel_rfl) (by kernel_rfl) (fun _ _ _ h => h) (Or.inl ⟨by rfl, ?_⟩) (by assumption) ?_
                      rotate_left
                      · ((intro w hSw; (try dsimp only at hSw); go_simp; (try rw [if_neg (by omega)])); try with_reducible rfl)
                      (try simp only [Act.put, List.setIfInBounds_toArray, List.set_cons_zero, List.set_cons_succ])
                      refine wpAnyH_take (i := 11) (oi := { dst := some 97, op := Op.move (Operand.tmp 8), type := 24, pos := "law.go:250", after := #[{ on := 10, ground := Ground.guard }], guard := some (10, true) }) (v := ?_) rfl (by kernel_rfl) (by kernel_rfl) (by kernel_rfl) (fun _ _ _ h => h) (Or.inl ⟨by rfl, ?_⟩) (by assumption) ?_
                      rotate_left
                      · ((intro w hSw; (try dsimp only at hSw); go_simp; (try rw [if_neg (by omega)])); try with_reducible rfl)
                      (try simp only [Act.put, List.setIfInBounds_toArray, List.set_cons_zero, List.set_cons_succ])
                      refine wpAnyH_take (i := 13) (oi := { dst := some 99, op := Op.move (Operand.tmp 16), type := 3, pos := "law.go:250", after := #[{ on := 10, ground := Ground.guard }], guard := some (10, true) }) (v := ?_) rfl (by kernel_rfl) (by kernel_rfl) (by kernel_rfl) (fun _ _ _ h => h) (Or.inl ⟨by rfl, ?_⟩) (by assumption) ?_
                      rotate_left
                      · ((intro w hSw; (try dsimp only at hSw); go_simp; (try rw [if_neg (by omega)])); try with_reducible rfl)
                      (try simp only [Act.put, List.setIfInBounds_toArray, List.set_cons_zero, List.set_cons_succ])
                      refine wpAnyH_ready (rs := [12]) (by kernel_rfl) (by simp) ?_
                      refine AllReadyH.cons (o := { dst := some 98, op := Op.call { callee := Callee.value (Operand.func 19), args := #[Operand.tmp 97], argTypes := #[24] }, type := 3, pos := "law.go:250", after := #[{ on := 11, ground := Ground.data }, { on := 10, ground := Ground.chain }, { on := 10, ground := Ground.guard }], guard := some (10, true) }) rfl (fun K hK => ?_) ?_
                      · (go_simp; go_at_call 19; refine (HU.out _ bz6).mono ?_; rintro u wz7 ⟨rfl, he⟩; have bz7 : Below W0.heap.size W0 wz7 := (by rw [he]; exact bz6); have sz7 : wz6.heap.size ≤ wz7.heap.size := (by rw [he]; exact Nat.le_refl _); clear he; dsimp only)
                        refine hK.out _ _ ?_ (fun hHeld => ?_)
                        · exact (HS.out _ (HFW.out.then bz7)).1
                        clear hK K
                        (try simp only [Act.put, List.setIfInBounds_toArray, List.set_cons_zero, List.set_cons_succ])
                        refine wpAnyH_take (i := 14) (oi := { dst := some 100, op := Op.binOp BinOp.eql 3 (Operand.tmp 98) (Operand.tmp 99) 3, type := 4, pos := "law.go:250", after := #[{ on := 12, ground := Ground.data }, { on := 13, ground := Ground.data }, { on := 10, ground := Ground.guard }], guard := some (10, true) }) (v := ?_) rfl (by kernel_rfl) (by kernel_rfl) (by kernel_rfl) (fun _ _ _ h => h) (Or.inl ⟨by rfl, ?_⟩) (by assumption) ?_
                        rotate_left
                        · ((intro w hSw; (try dsimp only at hSw); go_simp; (try rw [if_neg (by omega)])); try with_reducible rfl)
                        (try simp only [Act.put, List.setIfInBounds_toArray, List.set_cons_zero, List.set_cons_succ])
                        refine wpAnyH_take (i := 15) (oi := { dst := some 101, op := Op.pick (Operand.tmp 96) (Operand.tmp 100) (Operand.const (Value.bool false)), type := 4, pos := "law.go:250", after := #[{ on := 10, ground := Ground.data }, { on := 14, ground := Ground.data }], guard := none }) (v := ?_) rfl (by kernel_rfl) (by kernel_rfl) (by kernel_rfl) (fun _ _ _ h => h) (Or.inl ⟨by rfl, ?_⟩) (by assumption) ?_
                        rotate_left
                        · ((intro w hSw; (try dsimp only at hSw); go_simp; (try rw [if_neg (by omega)])); try with_reducible rfl)
                        (try simp only [Act.put, List.setIfInBounds_toArray, List.set_cons_zero, List.set_cons_succ])
                        refine wpAnyH_take (i := 16) (oi := { dst := some 18, op := Op.assign (Operand.tmp 101), type := 4, pos := "law.go:250", after := #[{ on := 15, ground := Ground.data }, { on := 12, ground := Ground.chain }, { on := 0, ground := Ground.phase }, { on := 1, ground := Ground.phase }, { on := 2, ground := Ground.phase }, { on := 3, ground := Ground.phase }, { on := 4, ground := Ground.phase }, { on := 5, ground := Ground.phase }, { on := 6, ground := Ground.phase }, { on := 7, ground := Ground.phase }, { on := 8, ground := Ground.phase }, { on := 9, ground := Ground.phase }, { on := 10, ground := Ground.phase }, { on := 11, ground := Ground.phase }, { on := 12, ground := Ground.phase }, { on := 13, ground := Ground.phase }, { on := 14, ground := Ground.phase }, { on := 15, ground := Ground.phase }], guard := none }) (v := ?_) rfl (by kernel_rfl) (by kernel_rfl) (by kernel_rfl) (fun _ _ _ h => h) (Or.inl ⟨by rfl, ?_⟩) (by assumption) ?_
                        rotate_left
                        · ((intro w hSw; (try dsimp only at hSw); go_simp; (try rw [if_neg (by omega)])); try with_reducible rfl)
                        (try simp only [Act.put, List.setIfInBounds_toArray, List.set_cons_zero, List.set_cons_succ])
                        refine wpAnyH_done (by kernel_rfl) ?_ _
                        have HCU := Lib.hid (bnext HWD.out bz7)
                        go_wp2_with fail
                        go_meet
                        exact ⟨by simp, HCU⟩
                      exact AllReadyH.nil
                    exact AllReadyH.nil
                  exact AllReadyH.nil
                exact AllReadyH.nil
              refine AllReadyH.cons (o := { dst := some 93, op := Op.buildSlice 43 1 #[(0, Operand.tmp 92)], type := 43, pos := "law.go:250", after := #[{ on := 6, ground := Ground.data }], guard := none }) rfl (fun K hK => ?_) ?_
              · (go_simp; have rowD := own_one wz2 (ME.kyL (x.f, x.k, x.n, x.r)) 34 rfl; have dz3 := balloc (Below.refl _ wz2) (.cells #[.int .i64 x.f, .int .i64 x.k, .int .i64 x.n, .int .i64 x.r] 34); change (wz2.alloc (.cells #[.int .i64 x.f, .int .i64 x.k, .int .i64 x.n, .int .i64 x.r] 34)).ownsRow _ _ _ _ _ _ at rowD; obtain ⟨wz3, hq⟩ : ∃ w', wz2.alloc (.cells #[.int .i64 x.f, .int .i64 x.k, .int .i64 x.n, .int .i64 x.r] 34) = w' := ⟨_, rfl⟩; rw [hq] at rowD dz3; rw [hq]; clear hq; have nD : ∀ q, (Value.slice (some ⟨wz2.heap.size, 0, none⟩) 1 1).ownBlock = some q → wz2.heap.size ≤ q ∧ q < wz3.heap.size := rowD.lt; have bz3 := bnext bz2 dz3; have sz3 := dz3.size; have row1 := own_below row1 dz3; have rowE := own_below rowE dz3)
                refine hK.out _ _ ?_ (fun hHeld => ?_)
                · exact (HS.out _ (HFW.out.then bz3)).1
                clear hK K
                (try simp only [Act.put, List.setIfInBounds_toArray, List.set_cons_zero, List.set_cons_succ])
                refine wpAnyH_ready (rs := [4]) (by kernel_rfl) (by simp) ?_
                refine AllReadyH.cons (o := { dst := some 90, op := Op.call { callee := Callee.builtin Builtin.append, args := #[Operand.tmp 88, Operand.tmp 89], argTypes := #[43, 43] }, type := 43, pos := "law.go:250", after := #[{ on := 2, ground := Ground.data }, { on := 3, ground := Ground.data }, { on := 1, ground := Ground.chain }], guard := none }) rfl (fun K hK => ?_) ?_
                · (refine step_appN (by rfl) _ _ _ (by rfl) _ 34 i0 _ 4 32 Try.underlying43 hi0' hz0 hz1 hz2 rfl (by decide) _ 0 [] (by rfl) rowE _ c (ME.kc (ME.wk P k n)) (by rfl) ((HS.out _ (HFW.out.then bz3)).2.2) (kc_cells _) (by unfold maxLen; omega) (by omega) (by omega) ?_; intro v2 wz4 row2 hgr hob; rw [Nat.zero_add, List.nil_append] at row2; obtain ⟨sa2, sc2, rfl⟩ := own_shape row2; have bz4 := bz3.grown hgr bz3.size (fun q e => by have h := nE q e; have h0 := bz3.size; omega); have sz4 := hgr.size; have n2 : ∀ q, (Value.slice sa2 _ sc2).ownBlock = some q → _ := fun q e2 => Or.elim hob (fun h => Or.inl (nE q (h.symm.trans e2))) (fun h => Or.inr (Option.some.inj (e2.symm.trans h))); have row1 := own_of_grown row1 hgr (fun q e e2 => by have h1 := n1 q e; have h2 := nE q e2; omega); have rowD := own_of_grown rowD hgr (fun q e e2 => by have h1 := nD q e; have h2 := nE q e2; omega); clear hgr hob)
                  refine hK.out _ _ ?_ (fun hHeld => ?_)
                  · exact (HS.out _ (HFW.out.then bz4)).1
                  clear hK K
                  (try simp only [Act.put, List.setIfInBounds_toArray, List.set_cons_zero, List.set_cons_succ])
                  refine wpAnyH_ready (rs := [8]) (by kernel_rfl) (by simp) ?_
                  refine AllReadyH.cons (o := { dst := some 94, op := Op.call { callee := Callee.builtin Builtin.append, args := #[Operand.tmp 90, Operand.tmp 93], argTypes := #[43, 43] }, type := 43, pos := "law.go:250", after := #[{ on := 4, ground := Ground.data }, { on := 7, ground := Ground.data }, { on := 4, ground := Ground.chain }], guard := none }) rfl (fun K hK => ?_) ?_
                  · (refine step_appN (by rfl) _ _ _ (by rfl) _ 34 i0 _ 4 32 Try.underlying43 hi0' hz0 hz1 hz2 rfl (by decide) _ c _ (by rfl) row2 _ 1 _ (by rfl) (own_srcN rowD) (by intro u hu; simp only [ME.kyL, List.mem_cons, List.not_mem_nil, or_false] at hu; rcases hu with rfl | rfl | rfl | rfl <;> rfl) (by unfold maxLen; omega) (by omega) (by omega) ?_; intro v3 wz5 row3 hgr hob; obtain ⟨sa3, sc3, rfl⟩ := own_shape row3; have bz5 := bz4.grown hgr bz4.size (fun q e => by have h := n2 q e; have h0 := bz4.size; omega); have sz5 := hgr.size; have row1 := own_of_grown row1 hgr (fun q e e2 => by have h1 := n1 q e; have h2 := n2 q e2; omega); clear hgr hob)
                    refine hK.out _ _ ?_ (fun hHeld => ?_)
                    · exact (HS.out _ (HFW.out.then bz5)).1
                    clear hK K
                    (try simp only [Act.put, List.setIfInBounds_toArray, List.set_cons_zero, List.set_cons_succ])
                    refine wpAnyH_ready (rs := [9]) (by kernel_rfl) (by simp) ?_
                    refine AllReadyH.cons (o := { dst := some 95, op := Op.call { callee := Callee.value (Operand.func 20), args := #[Operand.tmp 87, Operand.tmp 94], argTypes := #[43, 43] }, type := 4, pos := "law.go:250", after := #[{ on := 1, ground := Ground.data }, { on := 8, ground := Ground.data }, { on := 8, ground := Ground.chain }], guard := none }) rfl (fun K hK => ?_) ?_
                    · (go_simp; go_at_call 20; refine (same_any wz5 (.slice ra n rc) (.slice sa3 (c + 1) sc3) ((P.eraseIdx k ++ [x]).map En.key) ((P.eraseIdx k ++ [x]).map En.key) (by rw [HLR.out]; exact own_srcN row1) (by rw [HLR.out, ← HNC.out, HKR.out]; exact own_srcN row3) (by rw [HLR.out]; omega) (by rw [HLR.out]; omega)).mono ?_; rintro u wz6 ⟨rfl, nq, hw⟩; rw [decide_eq_true rfl]; have bz6 : Below W0.heap.size W0 wz6 := (by rw [hw]; exact bnext bz5 ⟨rfl, rfl, rfl, Nat.le_refl _, fun _ _ => rfl⟩); clear hw; dsimp only)
                      refine hK.out _ _ ?_ (fun hHeld => ?_)
                      · exact (HS.out _ (HFW.out.then bz6)).1
                      clear hK K
                      (try simp only [Act.put, List.setIfInBounds_toArray, List.set_cons_zero, List.set_cons_succ])
                      refine wpAnyH_take (i := 10) (oi := { dst := some 96, op := Op.move (Operand.tmp 95), type := 4, pos := "law.go:250", after := #[{ on := 9, ground := Ground.data }, { on := 9, ground := Ground.chain }], guard := none }) (v := ?_) rfl (by kernel_rfl) (by kernel_rfl) (by kernel_rfl) (fun _ _ _ h => h) (Or.inl ⟨by rfl, ?_⟩) (by assumption) ?_
                      rotate_left
                      · ((intro w hSw; (try dsimp only at hSw); go_simp; (try rw [if_neg (by omega)])); try with_reducible rfl)
                      (try simp only [Act.put, List.setIfInBounds_toArray, List.set_cons_zero, List.set_cons_succ])
                      refine wpAnyH_take (i := 11) (oi := { dst := some 97, op := Op.move (Operand.tmp 8), type := 24, pos := "law.go:250", after := #[{ on := 10, ground := Ground.guard }], guard := some (10, true) }) (v := ?_) rfl (by kernel_rfl) (by kernel_rfl) (by kernel_rfl) (fun _ _ _ h => h) (Or.inl ⟨by rfl, ?_⟩) (by assumption) ?_
                      rotate_left
                      · ((intro w hSw; (try dsimp only at hSw); go_simp; (try rw [if_neg (by omega)])); try with_reducible rfl)
                      (try simp only [Act.put, List.setIfInBounds_toArray, List.set_cons_zero, List.set_cons_succ])
                      refine wpAnyH_take (i := 13) (oi := { dst := some 99, op := Op.move (Operand.tmp 16), type := 3, pos := "law.go:250", after := #[{ on := 10, ground := Ground.guard }], guard := some (10, true) }) (v := ?_) rfl (by kernel_rfl) (by kernel_rfl) (by kernel_rfl) (fun _ _ _ h => h) (Or.inl ⟨by rfl, ?_⟩) (by assumption) ?_
                      rotate_left
                      · ((intro w hSw; (try dsimp only at hSw); go_simp; (try rw [if_neg (by omega)])); try with_reducible rfl)
                      (try simp only [Act.put, List.setIfInBounds_toArray, List.set_cons_zero, List.set_cons_succ])
                      refine wpAnyH_ready (rs := [12]) (by kernel_rfl) (by simp) ?_
                      refine AllReadyH.cons (o := { dst := some 98, op := Op.call { callee := Callee.value (Operand.func 19), args := #[Operand.tmp 97], argTypes := #[24] }, type := 3, pos := "law.go:250", after := #[{ on := 11, ground := Ground.data }, { on := 10, ground := Ground.chain }, { on := 10, ground := Ground.guard }], guard := some (10, true) }) rfl (fun K hK => ?_) ?_
                      · (go_simp; go_at_call 19; refine (HU.out _ bz6).mono ?_; rintro u wz7 ⟨rfl, he⟩; have bz7 : Below W0.heap.size W0 wz7 := (by rw [he]; exact bz6); have sz7 : wz6.heap.size ≤ wz7.heap.size := (by rw [he]; exact Nat.le_refl _); clear he; dsimp only)
                        refine hK.out _ _ ?_ (fun hHeld => ?_)
                        · exact (HS.out _ (HFW.out.then bz7)).1
                        clear hK K
                        (try simp only [Act.put, List.setIfInBounds_toArray, List.set_cons_zero, List.set_cons_succ])
                        refine wpAnyH_take (i := 14) (oi := { dst := some 100, op := Op.binOp BinOp.eql 3 (Operand.tmp 98) (Operand.tmp 99) 3, type := 4, pos := "law.go:250", after := #[{ on := 12, ground := Ground.data }, { on := 13, ground := Ground.data }, { on := 10, ground := Ground.guard }], guard := some (10, true) }) (v := ?_) rfl (by kernel_rfl) (by kernel_rfl) (by kernel_rfl) (fun _ _ _ h => h) (Or.inl ⟨by rfl, ?_⟩) (by assumption) ?_
                        rotate_left
                        · ((intro w hSw; (try dsimp only at hSw); go_simp; (try rw [if_neg (by omega)])); try with_reducible rfl)
                        (try simp only [Act.put, List.setIfInBounds_toArray, List.set_cons_zero, List.set_cons_succ])
                        refine wpAnyH_take (i := 15) (oi := { dst := some 101, op := Op.pick (Operand.tmp 96) (Operand.tmp 100) (Operand.const (Value.bool false)), type := 4, pos := "law.go:250", after := #[{ on := 10, ground := Ground.data }, { on := 14, ground := Ground.data }], guard := none }) (v := ?_) rfl (by kernel_rfl) (by kernel_rfl) (by kernel_rfl) (fun _ _ _ h => h) (Or.inl ⟨by rfl, ?_⟩) (by assumption) ?_
                        rotate_left
                        · ((intro w hSw; (try dsimp only at hSw); go_simp; (try rw [if_neg (by omega)])); try with_reducible rfl)
                        (try simp only [Act.put, List.setIfInBounds_toArray, List.set_cons_zero, List.set_cons_succ])
                        refine wpAnyH_take (i := 16) (oi := { dst := some 18, op := Op.assign (Operand.tmp 101), type := 4, pos := "law.go:250", after := #[{ on := 15, ground := Ground.data }, { on := 12, ground := Ground.chain }, { on := 0, ground := Ground.phase }, { on := 1, ground := Ground.phase }, { on := 2, ground := Ground.phase }, { on := 3, ground := Ground.phase }, { on := 4, ground := Ground.phase }, { on := 5, ground := Ground.phase }, { on := 6, ground := Ground.phase }, { on := 7, ground := Ground.phase }, { on := 8, ground := Ground.phase }, { on := 9, ground := Ground.phase }, { on := 10, ground := Ground.phase }, { on := 11, ground := Ground.phase }, { on := 12, ground := Ground.phase }, { on := 13, ground := Ground.phase }, { on := 14, ground := Ground.phase }, { on := 15, ground := Ground.phase }], guard := none }) (v := ?_) rfl (by kernel_rfl) (by kernel_rfl) (by kernel_rfl) (fun _ _ _ h => h) (Or.inl ⟨by rfl, ?_⟩) (by assumption) ?_
                        rotate_left
                        · ((intro w hSw; (try dsimp only at hSw); go_simp; (try rw [if_neg (by omega)])); try with_reducible rfl)
                        (try simp only [Act.put, List.setIfInBounds_toArray, List.set_cons_zero, List.set_cons_succ])
                        refine wpAnyH_done (by kernel_rfl) ?_ _
                        have HCU := Lib.hid (bnext HWD.out bz7)
                        go_wp2_with fail
                        go_meet
                        exact ⟨by simp, HCU⟩
                      exact AllReadyH.nil
                    exact AllReadyH.nil
                  exact AllReadyH.nil
                exact AllReadyH.nil
              exact AllReadyH.nil
            refine AllReadyH.cons (o := { dst := some 93, op := Op.buildSlice 43 1 #[(0, Operand.tmp 92)], type := 43, pos := "law.go:250", after := #[{ on := 6, ground := Ground.data }], guard := none }) rfl (fun K hK => ?_) ?_
            · (go_simp; have rowD := own_one wz1 (ME.kyL (x.f, x.k, x.n, x.r)) 34 rfl; have dz2 := balloc (Below.refl _ wz1) (.cells #[.int .i64 x.f, .int .i64 x.k, .int .i64 x.n, .int .i64 x.r] 34); change (wz1.alloc (.cells #[.int .i64 x.f, .int .i64 x.k, .int .i64 x.n, .int .i64 x.r] 34)).ownsRow _ _ _ _ _ _ at rowD; obtain ⟨wz2, hq⟩ : ∃ w', wz1.alloc (.cells #[.int .i64 x.f, .int .i64 x.k, .int .i64 x.n, .int .i64 x.r] 34) = w' := ⟨_, rfl⟩; rw [hq] at rowD dz2; rw [hq]; clear hq; have nD : ∀ q, (Value.slice (some ⟨wz1.heap.size, 0, none⟩) 1 1).ownBlock = some q → wz1.heap.size ≤ q ∧ q < wz2.heap.size := rowD.lt; have bz2 := bnext bz1 dz2; have sz2 := dz2.size; have row1 := own_below row1 dz2)
              refine hK.out _ _ ?_ (fun hHeld => ?_)
              · exact (HS.out _ (HFW.out.then bz2)).1
              clear hK K
              (try simp only [Act.put, List.setIfInBounds_toArray, List.set_cons_zero, List.set_cons_succ])
              refine wpAnyH_ready (rs := [2]) (by kernel_rfl) (by simp) ?_
              refine AllReadyH.cons (o := { dst := some 88, op := Op.buildSlice 43 0 #[], type := 43, pos := "law.go:250", after := #[], guard := none }) rfl (fun K hK => ?_) ?_
              · (go_simp; have rowE := own_empty wz2 34 4 wz2.heap.size (Nat.le_refl _); have dz3 := balloc (Below.refl _ wz2) (.cells #[] 34); obtain ⟨wz3, hq⟩ : ∃ w', wz2.alloc (.cells #[] 34) = w' := ⟨_, rfl⟩; rw [hq] at rowE dz3; rw [hq]; clear hq; have nE : ∀ q, (Value.slice (some ⟨wz2.heap.size, 0, none⟩) 0 0).ownBlock = some q → wz2.heap.size ≤ q ∧ q < wz3.heap.size := rowE.lt; have bz3 := bnext bz2 dz3; have sz3 := dz3.size; have row1 := own_below row1 dz3; have rowD := own_below rowD dz3)
                refine hK.out _ _ ?_ (fun hHeld => ?_)
                · exact (HS.out _ (HFW.out.then bz3)).1
                clear hK K
                (try simp only [Act.put, List.setIfInBounds_toArray, List.set_cons_zero, List.set_cons_succ])
                refine wpAnyH_ready (rs := [4]) (by kernel_rfl) (by simp) ?_
                refine AllReadyH.cons (o := { dst := some 90, op := Op.call { callee := Callee.builtin Builtin.append, args := #[Operand.tmp 88, Operand.tmp 89], argTypes := #[43, 43] }, type := 43, pos := "law.go:250", after := #[{ on := 2, ground := Ground.data }, { on := 3, ground := Ground.data }, { on := 1, ground := Ground.chain }], guard := none }) rfl (fun K hK => ?_) ?_
                · (refine step_appN (by rfl) _ _ _ (by rfl) _ 34 i0 _ 4 32 Try.underlying43 hi0' hz0 hz1 hz2 rfl (by decide) _ 0 [] (by rfl) rowE _ c (ME.kc (ME.wk P k n)) (by rfl) ((HS.out _ (HFW.out.then bz3)).2.2) (kc_cells _) (by unfold maxLen; omega) (by omega) (by omega) ?_; intro v2 wz4 row2 hgr hob; rw [Nat.zero_add, List.nil_append] at row2; obtain ⟨sa2, sc2, rfl⟩ := own_shape row2; have bz4 := bz3.grown hgr bz3.size (fun q e => by have h := nE q e; have h0 := bz3.size; omega); have sz4 := hgr.size; have n2 : ∀ q, (Value.slice sa2 _ sc2).ownBlock = some q → _ := fun q e2 => Or.elim hob (fun h => Or.inl (nE q (h.symm.trans e2))) (fun h => Or.inr (Option.some.inj (e2.symm.trans h))); have row1 := own_of_grown row1 hgr (fun q e e2 => by have h1 := n1 q e; have h2 := nE q e2; omega); have rowD := own_of_grown rowD hgr (fun q e e2 => by have h1 := nD q e; have h2 := nE q e2; omega); clear hgr hob)
                  refine hK.out _ _ ?_ (fun hHeld => ?_)
                  · exact (HS.out _ (HFW.out.then bz4)).1
                  clear hK K
                  (try simp only [Act.put, List.setIfInBounds_toArray, List.set_cons_zero, List.set_cons_succ])
                  refine wpAnyH_ready (rs := [8]) (by kernel_rfl) (by simp) ?_
                  refine AllReadyH.cons (o := { dst := some 94, op := Op.call { callee := Callee.builtin Builtin.append, args := #[Operand.tmp 90, Operand.tmp 93], argTypes := #[43, 43] }, type := 43, pos := "law.go:250", after := #[{ on := 4, ground := Ground.data }, { on := 7, ground := Ground.data }, { on := 4, ground := Ground.chain }], guard := none }) rfl (fun K hK => ?_) ?_
                  · (refine step_appN (by rfl) _ _ _ (by rfl) _ 34 i0 _ 4 32 Try.underlying43 hi0' hz0 hz1 hz2 rfl (by decide) _ c _ (by rfl) row2 _ 1 _ (by rfl) (own_srcN rowD) (by intro u hu; simp only [ME.kyL, List.mem_cons, List.not_mem_nil, or_false] at hu; rcases hu with rfl | rfl | rfl | rfl <;> rfl) (by unfold maxLen; omega) (by omega) (by omega) ?_; intro v3 wz5 row3 hgr hob; obtain ⟨sa3, sc3, rfl⟩ := own_shape row3; have bz5 := bz4.grown hgr bz4.size (fun q e => by have h := n2 q e; have h0 := bz4.size; omega); have sz5 := hgr.size; have row1 := own_of_grown row1 hgr (fun q e e2 => by have h1 := n1 q e; have h2 := n2 q e2; omega); clear hgr hob)
                    refine hK.out _ _ ?_ (fun hHeld => ?_)
                    · exact (HS.out _ (HFW.out.then bz5)).1
                    clear hK K
                    (try simp only [Act.put, List.setIfInBounds_toArray, List.set_cons_zero, List.set_cons_succ])
                    refine wpAnyH_ready (rs := [9]) (by kernel_rfl) (by simp) ?_
                    refine AllReadyH.cons (o := { dst := some 95, op := Op.call { callee := Callee.value (Operand.func 20), args := #[Operand.tmp 87, Operand.tmp 94], argTypes := #[43, 43] }, type := 4, pos := "law.go:250", after := #[{ on := 1, ground := Ground.data }, { on := 8, ground := Ground.data }, { on := 8, ground := Ground.chain }], guard := none }) rfl (fun K hK => ?_) ?_
                    · (go_simp; go_at_call 20; refine (same_any wz5 (.slice ra n rc) (.slice sa3 (c + 1) sc3) ((P.eraseIdx k ++ [x]).map En.key) ((P.eraseIdx k ++ [x]).map En.key) (by rw [HLR.out]; exact own_srcN row1) (by rw [HLR.out, ← HNC.out, HKR.out]; exact own_srcN row3) (by rw [HLR.out]; omega) (by rw [HLR.out]; omega)).mono ?_; rintro u wz6 ⟨rfl, nq, hw⟩; rw [decide_eq_true rfl]; have bz6 : Below W0.heap.size W0 wz6 := (by rw [hw]; exact bnext bz5 ⟨rfl, rfl, rfl, Nat.le_refl _, fun _ _ => rfl⟩); clear hw; dsimp only)
                      refine hK.out _ _ ?_ (fun hHeld => ?_)
                      · exact (HS.out _ (HFW.out.then bz6)).1
                      clear hK K
                      (try simp only [Act.put, List.setIfInBounds_toArray, List.set_cons_zero, List.set_cons_succ])
                      refine wpAnyH_take (i := 10) (oi := { dst := some 96, op := Op.move (Operand.tmp 95), type := 4, pos := "law.go:250", after := #[{ on := 9, ground := Ground.data }, { on := 9, ground := Ground.chain }], guard := none }) (v := ?_) rfl (by kernel_rfl) (by kernel_rfl) (by kernel_rfl) (fun _ _ _ h => h) (Or.inl ⟨by rfl, ?_⟩) (by assumption) ?_
                      rotate_left
                      · ((intro w hSw; (try dsimp only at hSw); go_simp; (try rw [if_neg (by omega)])); try with_reducible rfl)
                      (try simp only [Act.put, List.setIfInBounds_toArray, List.set_cons_zero, List.set_cons_succ])
                      refine wpAnyH_take (i := 11) (oi := { dst := some 97, op := Op.move (Operand.tmp 8), type := 24, pos := "law.go:250", after := #[{ on := 10, ground := Ground.guard }], guard := some (10, true) }) (v := ?_) rfl (by kernel_rfl) (by kernel_rfl) (by kernel_rfl) (fun _ _ _ h => h) (Or.inl ⟨by rfl, ?_⟩) (by assumption) ?_
                      rotate_left
                      · ((intro w hSw; (try dsimp only at hSw); go_simp; (try rw [if_neg (by omega)])); try with_reducible rfl)
                      (try simp only [Act.put, List.setIfInBounds_toArray, List.set_cons_zero, List.set_cons_succ])
                      refine wpAnyH_take (i := 13) (oi := { dst := some 99, op := Op.move (Operand.tmp 16), type := 3, pos := "law.go:250", after := #[{ on := 10, ground := Ground.guard }], guard := some (10, true) }) (v := ?_) rfl (by kernel_rfl) (by kernel_rfl) (by kernel_rfl) (fun _ _ _ h => h) (Or.inl ⟨by rfl, ?_⟩) (by assumption) ?_
                      rotate_left
                      · ((intro w hSw; (try dsimp only at hSw); go_simp; (try rw [if_neg (by omega)])); try with_reducible rfl)
                      (try simp only [Act.put, List.setIfInBounds_toArray, List.set_cons_zero, List.set_cons_succ])
                      refine wpAnyH_ready (rs := [12]) (by kernel_rfl) (by simp) ?_
                      refine AllReadyH.cons (o := { dst := some 98, op := Op.call { callee := Callee.value (Operand.func 19), args := #[Operand.tmp 97], argTypes := #[24] }, type := 3, pos := "law.go:250", after := #[{ on := 11, ground := Ground.data }, { on := 10, ground := Ground.chain }, { on := 10, ground := Ground.guard }], guard := some (10, true) }) rfl (fun K hK => ?_) ?_
                      · (go_simp; go_at_call 19; refine (HU.out _ bz6).mono ?_; rintro u wz7 ⟨rfl, he⟩; have bz7 : Below W0.heap.size W0 wz7 := (by rw [he]; exact bz6); have sz7 : wz6.heap.size ≤ wz7.heap.size := (by rw [he]; exact Nat.le_refl _); clear he; dsimp only)
                        refine hK.out _ _ ?_ (fun hHeld => ?_)
                        · exact (HS.out _ (HFW.out.then bz7)).1
                        clear hK K
                        (try simp only [Act.put, List.setIfInBounds_toArray, List.set_cons_zero, List.set_cons_succ])
                        refine wpAnyH_take (i := 14) (oi := { dst := some 100, op := Op.binOp BinOp.eql 3 (Operand.tmp 98) (Operand.tmp 99) 3, type := 4, pos := "law.go:250", after := #[{ on := 12, ground := Ground.data }, { on := 13, ground := Ground.data }, { on := 10, ground := Ground.guard }], guard := some (10, true) }) (v := ?_) rfl (by kernel_rfl) (by kernel_rfl) (by kernel_rfl) (fun _ _ _ h => h) (Or.inl ⟨by rfl, ?_⟩) (by assumption) ?_
                        rotate_left
                        · ((intro w hSw; (try dsimp only at hSw); go_simp; (try rw [if_neg (by omega)])); try with_reducible rfl)
                        (try simp only [Act.put, List.setIfInBounds_toArray, List.set_cons_zero, List.set_cons_succ])
                        refine wpAnyH_take (i := 15) (oi := { dst := some 101, op := Op.pick (Operand.tmp 96) (Operand.tmp 100) (Operand.const (Value.bool false)), type := 4, pos := "law.go:250", after := #[{ on := 10, ground := Ground.data }, { on := 14, ground := Ground.data }], guard := none }) (v := ?_) rfl (by kernel_rfl) (by kernel_rfl) (by kernel_rfl) (fun _ _ _ h => h) (Or.inl ⟨by rfl, ?_⟩) (by assumption) ?_
                        rotate_left
                        · ((intro w hSw; (try dsimp only at hSw); go_simp; (try rw [if_neg (by omega)])); try with_reducible rfl)
                        (try simp only [Act.put, List.setIfInBounds_toArray, List.set_cons_zero, List.set_cons_succ])
                        refine wpAnyH_take (i := 16) (oi := { dst := some 18, op := Op.assign (Operand.tmp 101), type := 4, pos := "law.go:250", after := #[{ on := 15, ground := Ground.data }, { on := 12, ground := Ground.chain }, { on := 0, ground := Ground.phase }, { on := 1, ground := Ground.phase }, { on := 2, ground := Ground.phase }, { on := 3, ground := Ground.phase }, { on := 4, ground := Ground.phase }, { on := 5, ground := Ground.phase }, { on := 6, ground := Ground.phase }, { on := 7, ground := Ground.phase }, { on := 8, ground := Ground.phase }, { on := 9, ground := Ground.phase }, { on := 10, ground := Ground.phase }, { on := 11, ground := Ground.phase }, { on := 12, ground := Ground.phase }, { on := 13, ground := Ground.phase }, { on := 14, ground := Ground.phase }, { on := 15, ground := Ground.phase }], guard := none }) (v := ?_) rfl (by kernel_rfl) (by kernel_rfl) (by kernel_rfl) (fun _ _ _ h => h) (Or.inl ⟨by rfl, ?_⟩) (by assumption) ?_
                        rotate_left
                        · ((intro w hSw; (try dsimp only at hSw); go_simp; (try rw [if_neg (by omega)])); try with_reducible rfl)
                        (try simp only [Act.put, List.setIfInBounds_toArray, List.set_cons_zero, List.set_cons_succ])
                        refine wpAnyH_done (by kernel_rfl) ?_ _
                        have HCU := Lib.hid (bnext HWD.out bz7)
                        go_wp2_with fail
                        go_meet
                        exact ⟨by simp, HCU⟩
                      exact AllReadyH.nil
                    exact AllReadyH.nil
                  exact AllReadyH.nil
                exact AllReadyH.nil
              exact AllReadyH.nil
            exact AllReadyH.nil
          refine AllReadyH.cons (o := { dst := some 88, op := Op.buildSlice 43 0 #[], type := 43, pos := "law.go:250", after := #[], guard := none }) rfl (fun K hK => ?_) ?_
          · (go_simp; have rowE := own_empty W0 34 4 W0.heap.size (Nat.le_refl _); have dz1 := balloc (Below.refl _ W0) (.cells #[] 34); obtain ⟨wz1, hq⟩ : ∃ w', W0.alloc (.cells #[] 34) = w' := ⟨_, rfl⟩; rw [hq] at rowE dz1; rw [hq]; clear hq; have nE : ∀ q, (Value.slice (some ⟨W0.heap.size, 0, none⟩) 0 0).ownBlock = some q → W0.heap.size ≤ q ∧ q < wz1.heap.size := rowE.lt; have bz1 := bnext bz0 dz1; have sz1 := dz1.size)
            refine hK.out _ _ ?_ (fun hHeld => ?_)
            · exact (HS.out _ (HFW.out.then bz1)).1
            clear hK K
            (try simp only [Act.put, List.setIfInBounds_toArray, List.set_cons_zero, List.set_cons_succ])
            refine wpAnyH_ready (rs := [1, 7]) (by kernel_rfl) (by simp) ?_
            refine AllReadyH.cons (o := { dst := some 87, op := Op.call { callee := Callee.value (Operand.func 18), args := #[Operand.tmp 86], argTypes := #[24] }, type := 43, pos := "law.go:250", after := #[{ on := 0, ground := Ground.data }], guard := none }) rfl (fun K hK => ?_) ?_
            · (go_simp; go_at_call 18; refine (HL.out wz1 bz1).mono ?_; rintro u wz2 ⟨v1, rfl, row1, dz2⟩; obtain ⟨ra, rc, rfl⟩ := own_shape row1; have n1 : ∀ q, (Value.slice ra n rc).ownBlock = some q → wz1.heap.size ≤ q ∧ q < wz2.heap.size := row1.lt; have bz2 := bnext bz1 dz2; have sz2 := dz2.size; have rowE := own_below rowE dz2; dsimp only)
              refine hK.out _ _ ?_ (fun hHeld => ?_)
              · exact (HS.out _ (HFW.out.then bz2)).1
              clear hK K
              (try simp only [Act.put, List.setIfInBounds_toArray, List.set_cons_zero, List.set_cons_succ])
              refine wpAnyH_ready (rs := [4, 7]) (by kernel_rfl) (by simp) ?_
              refine AllReadyH.cons (o := { dst := some 90, op := Op.call { callee := Callee.builtin Builtin.append, args := #[Operand.tmp 88, Operand.tmp 89], argTypes := #[43, 43] }, type := 43, pos := "law.go:250", after := #[{ on := 2, ground := Ground.data }, { on := 3, ground := Ground.data }, { on := 1, ground := Ground.chain }], guard := none }) rfl (fun K hK => ?_) ?_
              · (refine step_appN (by rfl) _ _ _ (by rfl) _ 34 i0 _ 4 32 Try.underlying43 hi0' hz0 hz1 hz2 rfl (by decide) _ 0 [] (by rfl) rowE _ c (ME.kc (ME.wk P k n)) (by rfl) ((HS.out _ (HFW.out.then bz2)).2.2) (kc_cells _) (by unfold maxLen; omega) (by omega) (by omega) ?_; intro v2 wz3 row2 hgr hob; rw [Nat.zero_add, List.nil_append] at row2; obtain ⟨sa2, sc2, rfl⟩ := own_shape row2; have bz3 := bz2.grown hgr bz2.size (fun q e => by have h := nE q e; have h0 := bz2.size; omega); have sz3 := hgr.size; have n2 : ∀ q, (Value.slice sa2 _ sc2).ownBlock = some q → _ := fun q e2 => Or.elim hob (fun h => Or.inl (nE q (h.symm.trans e2))) (fun h => Or.inr (Option.some.inj (e2.symm.trans h))); have row1 := own_of_grown row1 hgr (fun q e e2 => by have h1 := n1 q e; have h2 := nE q e2; omega); clear hgr hob)
                refine hK.out _ _ ?_ (fun hHeld => ?_)
                · exact (HS.out _ (HFW.out.then bz3)).1
                clear hK K
                (try simp only [Act.put, List.setIfInBounds_toArray, List.set_cons_zero, List.set_cons_succ])
                refine wpAnyH_ready (rs := [7]) (by kernel_rfl) (by simp) ?_
                refine AllReadyH.cons (o := { dst := some 93, op := Op.buildSlice 43 1 #[(0, Operand.tmp 92)], type := 43, pos := "law.go:250", after := #[{ on := 6, ground := Ground.data }], guard := none }) rfl (fun K hK => ?_) ?_
                · (go_simp; have rowD := own_one wz3 (ME.kyL (x.f, x.k, x.n, x.r)) 34 rfl; have dz4 := balloc (Below.refl _ wz3) (.cells #[.int .i64 x.f, .int .i64 x.k, .int .i64 x.n, .int .i64 x.r] 34); change (wz3.alloc (.cells #[.int .i64 x.f, .int .i64 x.k, .int .i64 x.n, .int .i64 x.r] 34)).ownsRow _ _ _ _ _ _ at rowD; obtain ⟨wz4, hq⟩ : ∃ w', wz3.alloc (.cells #[.int .i64 x.f, .int .i64 x.k, .int .i64 x.n, .int .i64 x.r] 34) = w' := ⟨_, rfl⟩; rw [hq] at rowD dz4; rw [hq]; clear hq; have nD : ∀ q, (Value.slice (some ⟨wz3.heap.size, 0, none⟩) 1 1).ownBlock = some q → wz3.heap.size ≤ q ∧ q < wz4.heap.size := rowD.lt; have bz4 := bnext bz3 dz4; have sz4 := dz4.size; have row1 := own_below row1 dz4; have row2 := own_below row2 dz4)
                  refine hK.out _ _ ?_ (fun hHeld => ?_)
                  · exact (HS.out _ (HFW.out.then bz4)).1
                  clear hK K
                  (try simp only [Act.put, List.setIfInBounds_toArray, List.set_cons_zero, List.set_cons_succ])
                  refine wpAnyH_ready (rs := [8]) (by kernel_rfl) (by simp) ?_
                  refine AllReadyH.cons (o := { dst := some 94, op := Op.call { callee := Callee.builtin Builtin.append, args := #[Operand.tmp 90, Operand.tmp 93], argTypes := #[43, 43] }, type := 43, pos := "law.go:250", after := #[{ on := 4, ground := Ground.data }, { on := 7, ground := Ground.data }, { on := 4, ground := Ground.chain }], guard := none }) rfl (fun K hK => ?_) ?_
                  · (refine step_appN (by rfl) _ _ _ (by rfl) _ 34 i0 _ 4 32 Try.underlying43 hi0' hz0 hz1 hz2 rfl (by decide) _ c _ (by rfl) row2 _ 1 _ (by rfl) (own_srcN rowD) (by intro u hu; simp only [ME.kyL, List.mem_cons, List.not_mem_nil, or_false] at hu; rcases hu with rfl | rfl | rfl | rfl <;> rfl) (by unfold maxLen; omega) (by omega) (by omega) ?_; intro v3 wz5 row3 hgr hob; obtain ⟨sa3, sc3, rfl⟩ := own_shape row3; have bz5 := bz4.grown hgr bz4.size (fun q e => by have h := n2 q e; have h0 := bz4.size; omega); have sz5 := hgr.size; have row1 := own_of_grown row1 hgr (fun q e e2 => by have h1 := n1 q e; have h2 := n2 q e2; omega); clear hgr hob)
                    refine hK.out _ _ ?_ (fun hHeld => ?_)
                    · exact (HS.out _ (HFW.out.then bz5)).1
                    clear hK K
                    (try simp only [Act.put, List.setIfInBounds_toArray, List.set_cons_zero, List.set_cons_succ])
                    refine wpAnyH_ready (rs := [9]) (by kernel_rfl) (by simp) ?_
                    refine AllReadyH.cons (o := { dst := some 95, op := Op.call { callee := Callee.value (Operand.func 20), args := #[Operand.tmp 87, Operand.tmp 94], argTypes := #[43, 43] }, type := 4, pos := "law.go:250", after := #[{ on := 1, ground := Ground.data }, { on := 8, ground := Ground.data }, { on := 8, ground := Ground.chain }], guard := none }) rfl (fun K hK => ?_) ?_
                    · (go_simp; go_at_call 20; refine (same_any wz5 (.slice ra n rc) (.slice sa3 (c + 1) sc3) ((P.eraseIdx k ++ [x]).map En.key) ((P.eraseIdx k ++ [x]).map En.key) (by rw [HLR.out]; exact own_srcN row1) (by rw [HLR.out, ← HNC.out, HKR.out]; exact own_srcN row3) (by rw [HLR.out]; omega) (by rw [HLR.out]; omega)).mono ?_; rintro u wz6 ⟨rfl, nq, hw⟩; rw [decide_eq_true rfl]; have bz6 : Below W0.heap.size W0 wz6 := (by rw [hw]; exact bnext bz5 ⟨rfl, rfl, rfl, Nat.le_refl _, fun _ _ => rfl⟩); clear hw; dsimp only)
                      refine hK.out _ _ ?_ (fun hHeld => ?_)
                      · exact (HS.out _ (HFW.out.then bz6)).1
                      clear hK K
                      (try simp only [Act.put, List.setIfInBounds_toArray, List.set_cons_zero, List.set_cons_succ])
                      refine wpAnyH_take (i := 10) (oi := { dst := some 96, op := Op.move (Operand.tmp 95), type := 4, pos := "law.go:250", after := #[{ on := 9, ground := Ground.data }, { on := 9, ground := Ground.chain }], guard := none }) (v := ?_) rfl (by kernel_rfl) (by kernel_rfl) (by kernel_rfl) (fun _ _ _ h => h) (Or.inl ⟨by rfl, ?_⟩) (by assumption) ?_
                      rotate_left
                      · ((intro w hSw; (try dsimp only at hSw); go_simp; (try rw [if_neg (by omega)])); try with_reducible rfl)
                      (try simp only [Act.put, List.setIfInBounds_toArray, List.set_cons_zero, List.set_cons_succ])
                      refine wpAnyH_take (i := 11) (oi := { dst := some 97, op := Op.move (Operand.tmp 8), type := 24, pos := "law.go:250", after := #[{ on := 10, ground := Ground.guard }], guard := some (10, true) }) (v := ?_) rfl (by kernel_rfl) (by kernel_rfl) (by kernel_rfl) (fun _ _ _ h => h) (Or.inl ⟨by rfl, ?_⟩) (by assumption) ?_
                      rotate_left
                      · ((intro w hSw; (try dsimp only at hSw); go_simp; (try rw [if_neg (by omega)])); try with_reducible rfl)
                      (try simp only [Act.put, List.setIfInBounds_toArray, List.set_cons_zero, List.set_cons_succ])
                      refine wpAnyH_take (i := 13) (oi := { dst := some 99, op := Op.move (Operand.tmp 16), type := 3, pos := "law.go:250", after := #[{ on := 10, ground := Ground.guard }], guard := some (10, true) }) (v := ?_) rfl (by kernel_rfl) (by kernel_rfl) (by kernel_rfl) (fun _ _ _ h => h) (Or.inl ⟨by rfl, ?_⟩) (by assumption) ?_
                      rotate_left
                      · ((intro w hSw; (try dsimp only at hSw); go_simp; (try rw [if_neg (by omega)])); try with_reducible rfl)
                      (try simp only [Act.put, List.setIfInBounds_toArray, List.set_cons_zero, List.set_cons_succ])
                      refine wpAnyH_ready (rs := [12]) (by kernel_rfl) (by simp) ?_
                      refine AllReadyH.cons (o := { dst := some 98, op := Op.call { callee := Callee.value (Operand.func 19), args := #[Operand.tmp 97], argTypes := #[24] }, type := 3, pos := "law.go:250", after := #[{ on := 11, ground := Ground.data }, { on := 10, ground := Ground.chain }, { on := 10, ground := Ground.guard }], guard := some (10, true) }) rfl (fun K hK => ?_) ?_
                      · (go_simp; go_at_call 19; refine (HU.out _ bz6).mono ?_; rintro u wz7 ⟨rfl, he⟩; have bz7 : Below W0.heap.size W0 wz7 := (by rw [he]; exact bz6); have sz7 : wz6.heap.size ≤ wz7.heap.size := (by rw [he]; exact Nat.le_refl _); clear he; dsimp only)
                        refine hK.out _ _ ?_ (fun hHeld => ?_)
                        · exact (HS.out _ (HFW.out.then bz7)).1
                        clear hK K
                        (try simp only [Act.put, List.setIfInBounds_toArray, List.set_cons_zero, List.set_cons_succ])
                        refine wpAnyH_take (i := 14) (oi := { dst := some 100, op := Op.binOp BinOp.eql 3 (Operand.tmp 98) (Operand.tmp 99) 3, type := 4, pos := "law.go:250", after := #[{ on := 12, ground := Ground.data }, { on := 13, ground := Ground.data }, { on := 10, ground := Ground.guard }], guard := some (10, true) }) (v := ?_) rfl (by kernel_rfl) (by kernel_rfl) (by kernel_rfl) (fun _ _ _ h => h) (Or.inl ⟨by rfl, ?_⟩) (by assumption) ?_
                        rotate_left
                        · ((intro w hSw; (try dsimp only at hSw); go_simp; (try rw [if_neg (by omega)])); try with_reducible rfl)
                        (try simp only [Act.put, List.setIfInBounds_toArray, List.set_cons_zero, List.set_cons_succ])
                        refine wpAnyH_take (i := 15) (oi := { dst := some 101, op := Op.pick (Operand.tmp 96) (Operand.tmp 100) (Operand.const (Value.bool false)), type := 4, pos := "law.go:250", after := #[{ on := 10, ground := Ground.data }, { on := 14, ground := Ground.data }], guard := none }) (v := ?_) rfl (by kernel_rfl) (by kernel_rfl) (by kernel_rfl) (fun _ _ _ h => h) (Or.inl ⟨by rfl, ?_⟩) (by assumption) ?_
                        rotate_left
                        · ((intro w hSw; (try dsimp only at hSw); go_simp; (try rw [if_neg (by omega)])); try with_reducible rfl)
                        (try simp only [Act.put, List.setIfInBounds_toArray, List.set_cons_zero, List.set_cons_succ])
                        refine wpAnyH_take (i := 16) (oi := { dst := some 18, op := Op.assign (Operand.tmp 101), type := 4, pos := "law.go:250", after := #[{ on := 15, ground := Ground.data }, { on := 12, ground := Ground.chain }, { on := 0, ground := Ground.phase }, { on := 1, ground := Ground.phase }, { on := 2, ground := Ground.phase }, { on := 3, ground := Ground.phase }, { on := 4, ground := Ground.phase }, { on := 5, ground := Ground.phase }, { on := 6, ground := Ground.phase }, { on := 7, ground := Ground.phase }, { on := 8, ground := Ground.phase }, { on := 9, ground := Ground.phase }, { on := 10, ground := Ground.phase }, { on := 11, ground := Ground.phase }, { on := 12, ground := Ground.phase }, { on := 13, ground := Ground.phase }, { on := 14, ground := Ground.phase }, { on := 15, ground := Ground.phase }], guard := none }) (v := ?_) rfl (by kernel_rfl) (by kernel_rfl) (by kernel_rfl) (fun _ _ _ h => h) (Or.inl ⟨by rfl, ?_⟩) (by assumption) ?_
                        rotate_left
                        · ((intro w hSw; (try dsimp only at hSw); go_simp; (try rw [if_neg (by omega)])); try with_reducible rfl)
                        (try simp only [Act.put, List.setIfInBounds_toArray, List.set_cons_zero, List.set_cons_succ])
                        refine wpAnyH_done (by kernel_rfl) ?_ _
                        have HCU := Lib.hid (bnext HWD.out bz7)
                        go_wp2_with fail
                        go_meet
                        exact ⟨by simp, HCU⟩
                      exact AllReadyH.nil
                    exact AllReadyH.nil
                  exact AllReadyH.nil
                exact AllReadyH.nil
              refine AllReadyH.cons (o := { dst := some 93, op := Op.buildSlice 43 1 #[(0, Operand.tmp 92)], type := 43, pos := "law.go:250", after := #[{ on := 6, ground := Ground.data }], guard := none }) rfl (fun K hK => ?_) ?_
              · (go_simp; have rowD := own_one wz2 (ME.kyL (x.f, x.k, x.n, x.r)) 34 rfl; have dz3 := balloc (Below.refl _ wz2) (.cells #[.int .i64 x.f, .int .i64 x.k, .int .i64 x.n, .int .i64 x.r] 34); change (wz2.alloc (.cells #[.int .i64 x.f, .int .i64 x.k, .int .i64 x.n, .int .i64 x.r] 34)).ownsRow _ _ _ _ _ _ at rowD; obtain ⟨wz3, hq⟩ : ∃ w', wz2.alloc (.cells #[.int .i64 x.f, .int .i64 x.k, .int .i64 x.n, .int .i64 x.r] 34) = w' := ⟨_, rfl⟩; rw [hq] at rowD dz3; rw [hq]; clear hq; have nD : ∀ q, (Value.slice (some ⟨wz2.heap.size, 0, none⟩) 1 1).ownBlock = some q → wz2.heap.size ≤ q ∧ q < wz3.heap.size := rowD.lt; have bz3 := bnext bz2 dz3; have sz3 := dz3.size; have row1 := own_below row1 dz3; have rowE := own_below rowE dz3)
                refine hK.out _ _ ?_ (fun hHeld => ?_)
                · exact (HS.out _ (HFW.out.then bz3)).1
                clear hK K
                (try simp only [Act.put, List.setIfInBounds_toArray, List.set_cons_zero, List.set_cons_succ])
                refine wpAnyH_ready (rs := [4]) (by kernel_rfl) (by simp) ?_
                refine AllReadyH.cons (o := { dst := some 90, op := Op.call { callee := Callee.builtin Builtin.append, args := #[Operand.tmp 88, Operand.tmp 89], argTypes := #[43, 43] }, type := 43, pos := "law.go:250", after := #[{ on := 2, ground := Ground.data }, { on := 3, ground := Ground.data }, { on := 1, ground := Ground.chain }], guard := none }) rfl (fun K hK => ?_) ?_
                · (refine step_appN (by rfl) _ _ _ (by rfl) _ 34 i0 _ 4 32 Try.underlying43 hi0' hz0 hz1 hz2 rfl (by decide) _ 0 [] (by rfl) rowE _ c (ME.kc (ME.wk P k n)) (by rfl) ((HS.out _ (HFW.out.then bz3)).2.2) (kc_cells _) (by unfold maxLen; omega) (by omega) (by omega) ?_; intro v2 wz4 row2 hgr hob; rw [Nat.zero_add, List.nil_append] at row2; obtain ⟨sa2, sc2, rfl⟩ := own_shape row2; have bz4 := bz3.grown hgr bz3.size (fun q e => by have h := nE q e; have h0 := bz3.size; omega); have sz4 := hgr.size; have n2 : ∀ q, (Value.slice sa2 _ sc2).ownBlock = some q → _ := fun q e2 => Or.elim hob (fun h => Or.inl (nE q (h.symm.trans e2))) (fun h => Or.inr (Option.some.inj (e2.symm.trans h))); have row1 := own_of_grown row1 hgr (fun q e e2 => by have h1 := n1 q e; have h2 := nE q e2; omega); have rowD := own_of_grown rowD hgr (fun q e e2 => by have h1 := nD q e; have h2 := nE q e2; omega); clear hgr hob)
                  refine hK.out _ _ ?_ (fun hHeld => ?_)
                  · exact (HS.out _ (HFW.out.then bz4)).1
                  clear hK K
                  (try simp only [Act.put, List.setIfInBounds_toArray, List.set_cons_zero, List.set_cons_succ])
                  refine wpAnyH_ready (rs := [8]) (by kernel_rfl) (by simp) ?_
                  refine AllReadyH.cons (o := { dst := some 94, op := Op.call { callee := Callee.builtin Builtin.append, args := #[Operand.tmp 90, Operand.tmp 93], argTypes := #[43, 43] }, type := 43, pos := "law.go:250", after := #[{ on := 4, ground := Ground.data }, { on := 7, ground := Ground.data }, { on := 4, ground := Ground.chain }], guard := none }) rfl (fun K hK => ?_) ?_
                  · (refine step_appN (by rfl) _ _ _ (by rfl) _ 34 i0 _ 4 32 Try.underlying43 hi0' hz0 hz1 hz2 rfl (by decide) _ c _ (by rfl) row2 _ 1 _ (by rfl) (own_srcN rowD) (by intro u hu; simp only [ME.kyL, List.mem_cons, List.not_mem_nil, or_false] at hu; rcases hu with rfl | rfl | rfl | rfl <;> rfl) (by unfold maxLen; omega) (by omega) (by omega) ?_; intro v3 wz5 row3 hgr hob; obtain ⟨sa3, sc3, rfl⟩ := own_shape row3; have bz5 := bz4.grown hgr bz4.size (fun q e => by have h := n2 q e; have h0 := bz4.size; omega); have sz5 := hgr.size; have row1 := own_of_grown row1 hgr (fun q e e2 => by have h1 := n1 q e; have h2 := n2 q e2; omega); clear hgr hob)
                    refine hK.out _ _ ?_ (fun hHeld => ?_)
                    · exact (HS.out _ (HFW.out.then bz5)).1
                    clear hK K
                    (try simp only [Act.put, List.setIfInBounds_toArray, List.set_cons_zero, List.set_cons_succ])
                    refine wpAnyH_ready (rs := [9]) (by kernel_rfl) (by simp) ?_
                    refine AllReadyH.cons (o := { dst := some 95, op := Op.call { callee := Callee.value (Operand.func 20), args := #[Operand.tmp 87, Operand.tmp 94], argTypes := #[43, 43] }, type := 4, pos := "law.go:250", after := #[{ on := 1, ground := Ground.data }, { on := 8, ground := Ground.data }, { on := 8, ground := Ground.chain }], guard := none }) rfl (fun K hK => ?_) ?_
                    · (go_simp; go_at_call 20; refine (same_any wz5 (.slice ra n rc) (.slice sa3 (c + 1) sc3) ((P.eraseIdx k ++ [x]).map En.key) ((P.eraseIdx k ++ [x]).map En.key) (by rw [HLR.out]; exact own_srcN row1) (by rw [HLR.out, ← HNC.out, HKR.out]; exact own_srcN row3) (by rw [HLR.out]; omega) (by rw [HLR.out]; omega)).mono ?_; rintro u wz6 ⟨rfl, nq, hw⟩; rw [decide_eq_true rfl]; have bz6 : Below W0.heap.size W0 wz6 := (by rw [hw]; exact bnext bz5 ⟨rfl, rfl, rfl, Nat.le_refl _, fun _ _ => rfl⟩); clear hw; dsimp only)
                      refine hK.out _ _ ?_ (fun hHeld => ?_)
                      · exact (HS.out _ (HFW.out.then bz6)).1
                      clear hK K
                      (try simp only [Act.put, List.setIfInBounds_toArray, List.set_cons_zero, List.set_cons_succ])
                      refine wpAnyH_take (i := 10) (oi := { dst := some 96, op := Op.move (Operand.tmp 95), type := 4, pos := "law.go:250", after := #[{ on := 9, ground := Ground.data }, { on := 9, ground := Ground.chain }], guard := none }) (v := ?_) rfl (by kernel_rfl) (by kernel_rfl) (by kernel_rfl) (fun _ _ _ h => h) (Or.inl ⟨by rfl, ?_⟩) (by assumption) ?_
                      rotate_left
                      · ((intro w hSw; (try dsimp only at hSw); go_simp; (try rw [if_neg (by omega)])); try with_reducible rfl)
                      (try simp only [Act.put, List.setIfInBounds_toArray, List.set_cons_zero, List.set_cons_succ])
                      refine wpAnyH_take (i := 11) (oi := { dst := some 97, op := Op.move (Operand.tmp 8), type := 24, pos := "law.go:250", after := #[{ on := 10, ground := Ground.guard }], guard := some (10, true) }) (v := ?_) rfl (by kernel_rfl) (by kernel_rfl) (by kernel_rfl) (fun _ _ _ h => h) (Or.inl ⟨by rfl, ?_⟩) (by assumption) ?_
                      rotate_left
                      · ((intro w hSw; (try dsimp only at hSw); go_simp; (try rw [if_neg (by omega)])); try with_reducible rfl)
                      (try simp only [Act.put, List.setIfInBounds_toArray, List.set_cons_zero, List.set_cons_succ])
                      refine wpAnyH_take (i := 13) (oi := { dst := some 99, op := Op.move (Operand.tmp 16), type := 3, pos := "law.go:250", after := #[{ on := 10, ground := Ground.guard }], guard := some (10, true) }) (v := ?_) rfl (by kernel_rfl) (by kernel_rfl) (by kernel_rfl) (fun _ _ _ h => h) (Or.inl ⟨by rfl, ?_⟩) (by assumption) ?_
                      rotate_left
                      · ((intro w hSw; (try dsimp only at hSw); go_simp; (try rw [if_neg (by omega)])); try with_reducible rfl)
                      (try simp only [Act.put, List.setIfInBounds_toArray, List.set_cons_zero, List.set_cons_succ])
                      refine wpAnyH_ready (rs := [12]) (by kernel_rfl) (by simp) ?_
                      refine AllReadyH.cons (o := { dst := some 98, op := Op.call { callee := Callee.value (Operand.func 19), args := #[Operand.tmp 97], argTypes := #[24] }, type := 3, pos := "law.go:250", after := #[{ on := 11, ground := Ground.data }, { on := 10, ground := Ground.chain }, { on := 10, ground := Ground.guard }], guard := some (10, true) }) rfl (fun K hK => ?_) ?_
                      · (go_simp; go_at_call 19; refine (HU.out _ bz6).mono ?_; rintro u wz7 ⟨rfl, he⟩; have bz7 : Below W0.heap.size W0 wz7 := (by rw [he]; exact bz6); have sz7 : wz6.heap.size ≤ wz7.heap.size := (by rw [he]; exact Nat.le_refl _); clear he; dsimp only)
                        refine hK.out _ _ ?_ (fun hHeld => ?_)
                        · exact (HS.out _ (HFW.out.then bz7)).1
                        clear hK K
                        (try simp only [Act.put, List.setIfInBounds_toArray, List.set_cons_zero, List.set_cons_succ])
                        refine wpAnyH_take (i := 14) (oi := { dst := some 100, op := Op.binOp BinOp.eql 3 (Operand.tmp 98) (Operand.tmp 99) 3, type := 4, pos := "law.go:250", after := #[{ on := 12, ground := Ground.data }, { on := 13, ground := Ground.data }, { on := 10, ground := Ground.guard }], guard := some (10, true) }) (v := ?_) rfl (by kernel_rfl) (by kernel_rfl) (by kernel_rfl) (fun _ _ _ h => h) (Or.inl ⟨by rfl, ?_⟩) (by assumption) ?_
                        rotate_left
                        · ((intro w hSw; (try dsimp only at hSw); go_simp; (try rw [if_neg (by omega)])); try with_reducible rfl)
                        (try simp only [Act.put, List.setIfInBounds_toArray, List.set_cons_zero, List.set_cons_succ])
                        refine wpAnyH_take (i := 15) (oi := { dst := some 101, op := Op.pick (Operand.tmp 96) (Operand.tmp 100) (Operand.const (Value.bool false)), type := 4, pos := "law.go:250", after := #[{ on := 10, ground := Ground.data }, { on := 14, ground := Ground.data }], guard := none }) (v := ?_) rfl (by kernel_rfl) (by kernel_rfl) (by kernel_rfl) (fun _ _ _ h => h) (Or.inl ⟨by rfl, ?_⟩) (by assumption) ?_
                        rotate_left
                        · ((intro w hSw; (try dsimp only at hSw); go_simp; (try rw [if_neg (by omega)])); try with_reducible rfl)
                        (try simp only [Act.put, List.setIfInBounds_toArray, List.set_cons_zero, List.set_cons_succ])
                        refine wpAnyH_take (i := 16) (oi := { dst := some 18, op := Op.assign (Operand.tmp 101), type := 4, pos := "law.go:250", after := #[{ on := 15, ground := Ground.data }, { on := 12, ground := Ground.chain }, { on := 0, ground := Ground.phase }, { on := 1, ground := Ground.phase }, { on := 2, ground := Ground.phase }, { on := 3, ground := Ground.phase }, { on := 4, ground := Ground.phase }, { on := 5, ground := Ground.phase }, { on := 6, ground := Ground.phase }, { on := 7, ground := Ground.phase }, { on := 8, ground := Ground.phase }, { on := 9, ground := Ground.phase }, { on := 10, ground := Ground.phase }, { on := 11, ground := Ground.phase }, { on := 12, ground := Ground.phase }, { on := 13, ground := Ground.phase }, { on := 14, ground := Ground.phase }, { on := 15, ground := Ground.phase }], guard := none }) (v := ?_) rfl (by kernel_rfl) (by kernel_rfl) (by kernel_rfl) (fun _ _ _ h => h) (Or.inl ⟨by rfl, ?_⟩) (by assumption) ?_
                        rotate_left
                        · ((intro w hSw; (try dsimp only at hSw); go_simp; (try rw [if_neg (by omega)])); try with_reducible rfl)
                        (try simp only [Act.put, List.setIfInBounds_toArray, List.set_cons_zero, List.set_cons_succ])
                        refine wpAnyH_done (by kernel_rfl) ?_ _
                        have HCU := Lib.hid (bnext HWD.out bz7)
                        go_wp2_with fail
                        go_meet
                        exact ⟨by simp, HCU⟩
                      exact AllReadyH.nil
                    exact AllReadyH.nil
                  exact AllReadyH.nil
                exact AllReadyH.nil
              exact AllReadyH.nil
            refine AllReadyH.cons (o := { dst := some 93, op := Op.buildSlice 43 1 #[(0, Operand.tmp 92)], type := 43, pos := "law.go:250", after := #[{ on := 6, ground := Ground.data }], guard := none }) rfl (fun K hK => ?_) ?_
            · (go_simp; have rowD := own_one wz1 (ME.kyL (x.f, x.k, x.n, x.r)) 34 rfl; have dz2 := balloc (Below.refl _ wz1) (.cells #[.int .i64 x.f, .int .i64 x.k, .int .i64 x.n, .int .i64 x.r] 34); change (wz1.alloc (.cells #[.int .i64 x.f, .int .i64 x.k, .int .i64 x.n, .int .i64 x.r] 34)).ownsRow _ _ _ _ _ _ at rowD; obtain ⟨wz2, hq⟩ : ∃ w', wz1.alloc (.cells #[.int .i64 x.f, .int .i64 x.k, .int .i64 x.n, .int .i64 x.r] 34) = w' := ⟨_, rfl⟩; rw [hq] at rowD dz2; rw [hq]; clear hq; have nD : ∀ q, (Value.slice (some ⟨wz1.heap.size, 0, none⟩) 1 1).ownBlock = some q → wz1.heap.size ≤ q ∧ q < wz2.heap.size := rowD.lt; have bz2 := bnext bz1 dz2; have sz2 := dz2.size; have rowE := own_below rowE dz2)
              refine hK.out _ _ ?_ (fun hHeld => ?_)
              · exact (HS.out _ (HFW.out.then bz2)).1
              clear hK K
              (try simp only [Act.put, List.setIfInBounds_toArray, List.set_cons_zero, List.set_cons_succ])
              refine wpAnyH_ready (rs := [1]) (by kernel_rfl) (by simp) ?_
              refine AllReadyH.cons (o := { dst := some 87, op := Op.call { callee := Callee.value (Operand.func 18), args := #[Operand.tmp 86], argTypes := #[24] }, type := 43, pos := "law.go:250", after := #[{ on := 0, ground := Ground.data }], guard := none }) rfl (fun K hK => ?_) ?_
              · (go_simp; go_at_call 18; refine (HL.out wz2 bz2).mono ?_; rintro u wz3 ⟨v1, rfl, row1, dz3⟩; obtain ⟨ra, rc, rfl⟩ := own_shape row1; have n1 : ∀ q, (Value.slice ra n rc).ownBlock = some q → wz2.heap.size ≤ q ∧ q < wz3.heap.size := row1.lt; have bz3 := bnext bz2 dz3; have sz3 := dz3.size; have rowD := own_below rowD dz3; have rowE := own_below rowE dz3; dsimp only)
                refine hK.out _ _ ?_ (fun hHeld => ?_)
                · exact (HS.out _ (HFW.out.then bz3)).1
                clear hK K
                (try simp only [Act.put, List.setIfInBounds_toArray, List.set_cons_zero, List.set_cons_succ])
                refine wpAnyH_ready (rs := [4]) (by kernel_rfl) (by simp) ?_
                refine AllReadyH.cons (o := { dst := some 90, op := Op.call { callee := Callee.builtin Builtin.append, args := #[Operand.tmp 88, Operand.tmp 89], argTypes := #[43, 43] }, type := 43, pos := "law.go:250", after := #[{ on := 2, ground := Ground.data }, { on := 3, ground := Ground.data }, { on := 1, ground := Ground.chain }], guard := none }) rfl (fun K hK => ?_) ?_
                · (refine step_appN (by rfl) _ _ _ (by rfl) _ 34 i0 _ 4 32 Try.underlying43 hi0' hz0 hz1 hz2 rfl (by decide) _ 0 [] (by rfl) rowE _ c (ME.kc (ME.wk P k n)) (by rfl) ((HS.out _ (HFW.out.then bz3)).2.2) (kc_cells _) (by unfold maxLen; omega) (by omega) (by omega) ?_; intro v2 wz4 row2 hgr hob; rw [Nat.zero_add, List.nil_append] at row2; obtain ⟨sa2, sc2, rfl⟩ := own_shape row2; have bz4 := bz3.grown hgr bz3.size (fun q e => by have h := nE q e; have h0 := bz3.size; omega); have sz4 := hgr.size; have n2 : ∀ q, (Value.slice sa2 _ sc2).ownBlock = some q → _ := fun q e2 => Or.elim hob (fun h => Or.inl (nE q (h.symm.trans e2))) (fun h => Or.inr (Option.some.inj (e2.symm.trans h))); have row1 := own_of_grown row1 hgr (fun q e e2 => by have h1 := n1 q e; have h2 := nE q e2; omega); have rowD := own_of_grown rowD hgr (fun q e e2 => by have h1 := nD q e; have h2 := nE q e2; omega); clear hgr hob)
                  refine hK.out _ _ ?_ (fun hHeld => ?_)
                  · exact (HS.out _ (HFW.out.then bz4)).1
                  clear hK K
                  (try simp only [Act.put, List.setIfInBounds_toArray, List.set_cons_zero, List.set_cons_succ])
                  refine wpAnyH_ready (rs := [8]) (by kernel_rfl) (by simp) ?_
                  refine AllReadyH.cons (o := { dst := some 94, op := Op.call { callee := Callee.builtin Builtin.append, args := #[Operand.tmp 90, Operand.tmp 93], argTypes := #[43, 43] }, type := 43, pos := "law.go:250", after := #[{ on := 4, ground := Ground.data }, { on := 7, ground := Ground.data }, { on := 4, ground := Ground.chain }], guard := none }) rfl (fun K hK => ?_) ?_
                  · (refine step_appN (by rfl) _ _ _ (by rfl) _ 34 i0 _ 4 32 Try.underlying43 hi0' hz0 hz1 hz2 rfl (by decide) _ c _ (by rfl) row2 _ 1 _ (by rfl) (own_srcN rowD) (by intro u hu; simp only [ME.kyL, List.mem_cons, List.not_mem_nil, or_false] at hu; rcases hu with rfl | rfl | rfl | rfl <;> rfl) (by unfold maxLen; omega) (by omega) (by omega) ?_; intro v3 wz5 row3 hgr hob; obtain ⟨sa3, sc3, rfl⟩ := own_shape row3; have bz5 := bz4.grown hgr bz4.size (fun q e => by have h := n2 q e; have h0 := bz4.size; omega); have sz5 := hgr.size; have row1 := own_of_grown row1 hgr (fun q e e2 => by have h1 := n1 q e; have h2 := n2 q e2; omega); clear hgr hob)
                    refine hK.out _ _ ?_ (fun hHeld => ?_)
                    · exact (HS.out _ (HFW.out.then bz5)).1
                    clear hK K
                    (try simp only [Act.put, List.setIfInBounds_toArray, List.set_cons_zero, List.set_cons_succ])
                    refine wpAnyH_ready (rs := [9]) (by kernel_rfl) (by simp) ?_
                    refine AllReadyH.cons (o := { dst := some 95, op := Op.call { callee := Callee.value (Operand.func 20), args := #[Operand.tmp 87, Operand.tmp 94], argTypes := #[43, 43] }, type := 4, pos := "law.go:250", after := #[{ on := 1, ground := Ground.data }, { on := 8, ground := Ground.data }, { on := 8, ground := Ground.chain }], guard := none }) rfl (fun K hK => ?_) ?_
                    · (go_simp; go_at_call 20; refine (same_any wz5 (.slice ra n rc) (.slice sa3 (c + 1) sc3) ((P.eraseIdx k ++ [x]).map En.key) ((P.eraseIdx k ++ [x]).map En.key) (by rw [HLR.out]; exact own_srcN row1) (by rw [HLR.out, ← HNC.out, HKR.out]; exact own_srcN row3) (by rw [HLR.out]; omega) (by rw [HLR.out]; omega)).mono ?_; rintro u wz6 ⟨rfl, nq, hw⟩; rw [decide_eq_true rfl]; have bz6 : Below W0.heap.size W0 wz6 := (by rw [hw]; exact bnext bz5 ⟨rfl, rfl, rfl, Nat.le_refl _, fun _ _ => rfl⟩); clear hw; dsimp only)
                      refine hK.out _ _ ?_ (fun hHeld => ?_)
                      · exact (HS.out _ (HFW.out.then bz6)).1
                      clear hK K
                      (try simp only [Act.put, List.setIfInBounds_toArray, List.set_cons_zero, List.set_cons_succ])
                      refine wpAnyH_take (i := 10) (oi := { dst := some 96, op := Op.move (Operand.tmp 95), type := 4, pos := "law.go:250", after := #[{ on := 9, ground := Ground.data }, { on := 9, ground := Ground.chain }], guard := none }) (v := ?_) rfl (by kernel_rfl) (by kernel_rfl) (by kernel_rfl) (fun _ _ _ h => h) (Or.inl ⟨by rfl, ?_⟩) (by assumption) ?_
                      rotate_left
                      · ((intro w hSw; (try dsimp only at hSw); go_simp; (try rw [if_neg (by omega)])); try with_reducible rfl)
                      (try simp only [Act.put, List.setIfInBounds_toArray, List.set_cons_zero, List.set_cons_succ])
                      refine wpAnyH_take (i := 11) (oi := { dst := some 97, op := Op.move (Operand.tmp 8), type := 24, pos := "law.go:250", after := #[{ on := 10, ground := Ground.guard }], guard := some (10, true) }) (v := ?_) rfl (by kernel_rfl) (by kernel_rfl) (by kernel_rfl) (fun _ _ _ h => h) (Or.inl ⟨by rfl, ?_⟩) (by assumption) ?_
                      rotate_left
                      · ((intro w hSw; (try dsimp only at hSw); go_simp; (try rw [if_neg (by omega)])); try with_reducible rfl)
                      (try simp only [Act.put, List.setIfInBounds_toArray, List.set_cons_zero, List.set_cons_succ])
                      refine wpAnyH_take (i := 13) (oi := { dst := some 99, op := Op.move (Operand.tmp 16), type := 3, pos := "law.go:250", after := #[{ on := 10, ground := Ground.guard }], guard := some (10, true) }) (v := ?_) rfl (by kernel_rfl) (by kernel_rfl) (by kernel_rfl) (fun _ _ _ h => h) (Or.inl ⟨by rfl, ?_⟩) (by assumption) ?_
                      rotate_left
                      · ((intro w hSw; (try dsimp only at hSw); go_simp; (try rw [if_neg (by omega)])); try with_reducible rfl)
                      (try simp only [Act.put, List.setIfInBounds_toArray, List.set_cons_zero, List.set_cons_succ])
                      refine wpAnyH_ready (rs := [12]) (by kernel_rfl) (by simp) ?_
                      refine AllReadyH.cons (o := { dst := some 98, op := Op.call { callee := Callee.value (Operand.func 19), args := #[Operand.tmp 97], argTypes := #[24] }, type := 3, pos := "law.go:250", after := #[{ on := 11, ground := Ground.data }, { on := 10, ground := Ground.chain }, { on := 10, ground := Ground.guard }], guard := some (10, true) }) rfl (fun K hK => ?_) ?_
                      · (go_simp; go_at_call 19; refine (HU.out _ bz6).mono ?_; rintro u wz7 ⟨rfl, he⟩; have bz7 : Below W0.heap.size W0 wz7 := (by rw [he]; exact bz6); have sz7 : wz6.heap.size ≤ wz7.heap.size := (by rw [he]; exact Nat.le_refl _); clear he; dsimp only)
                        refine hK.out _ _ ?_ (fun hHeld => ?_)
                        · exact (HS.out _ (HFW.out.then bz7)).1
                        clear hK K
                        (try simp only [Act.put, List.setIfInBounds_toArray, List.set_cons_zero, List.set_cons_succ])
                        refine wpAnyH_take (i := 14) (oi := { dst := some 100, op := Op.binOp BinOp.eql 3 (Operand.tmp 98) (Operand.tmp 99) 3, type := 4, pos := "law.go:250", after := #[{ on := 12, ground := Ground.data }, { on := 13, ground := Ground.data }, { on := 10, ground := Ground.guard }], guard := some (10, true) }) (v := ?_) rfl (by kernel_rfl) (by kernel_rfl) (by kernel_rfl) (fun _ _ _ h => h) (Or.inl ⟨by rfl, ?_⟩) (by assumption) ?_
                        rotate_left
                        · ((intro w hSw; (try dsimp only at hSw); go_simp; (try rw [if_neg (by omega)])); try with_reducible rfl)
                        (try simp only [Act.put, List.setIfInBounds_toArray, List.set_cons_zero, List.set_cons_succ])
                        refine wpAnyH_take (i := 15) (oi := { dst := some 101, op := Op.pick (Operand.tmp 96) (Operand.tmp 100) (Operand.const (Value.bool false)), type := 4, pos := "law.go:250", after := #[{ on := 10, ground := Ground.data }, { on := 14, ground := Ground.data }], guard := none }) (v := ?_) rfl (by kernel_rfl) (by kernel_rfl) (by kernel_rfl) (fun _ _ _ h => h) (Or.inl ⟨by rfl, ?_⟩) (by assumption) ?_
                        rotate_left
                        · ((intro w hSw; (try dsimp only at hSw); go_simp; (try rw [if_neg (by omega)])); try with_reducible rfl)
                        (try simp only [Act.put, List.setIfInBounds_toArray, List.set_cons_zero, List.set_cons_succ])
                        refine wpAnyH_take (i := 16) (oi := { dst := some 18, op := Op.assign (Operand.tmp 101), type := 4, pos := "law.go:250", after := #[{ on := 15, ground := Ground.data }, { on := 12, ground := Ground.chain }, { on := 0, ground := Ground.phase }, { on := 1, ground := Ground.phase }, { on := 2, ground := Ground.phase }, { on := 3, ground := Ground.phase }, { on := 4, ground := Ground.phase }, { on := 5, ground := Ground.phase }, { on := 6, ground := Ground.phase }, { on := 7, ground := Ground.phase }, { on := 8, ground := Ground.phase }, { on := 9, ground := Ground.phase }, { on := 10, ground := Ground.phase }, { on := 11, ground := Ground.phase }, { on := 12, ground := Ground.phase }, { on := 13, ground := Ground.phase }, { on := 14, ground := Ground.phase }, { on := 15, ground := Ground.phase }], guard := none }) (v := ?_) rfl (by kernel_rfl) (by kernel_rfl) (by kernel_rfl) (fun _ _ _ h => h) (Or.inl ⟨by rfl, ?_⟩) (by assumption) ?_
                        rotate_left
                        · ((intro w hSw; (try dsimp only at hSw); go_simp; (try rw [if_neg (by omega)])); try with_reducible rfl)
                        (try simp only [Act.put, List.setIfInBounds_toArray, List.set_cons_zero, List.set_cons_succ])
                        refine wpAnyH_done (by kernel_rfl) ?_ _
                        have HCU := Lib.hid (bnext HWD.out bz7)
                        go_wp2_with fail
                        go_meet
                        exact ⟨by simp, HCU⟩
                      exact AllReadyH.nil
                    exact AllReadyH.nil
                  exact AllReadyH.nil
                exact AllReadyH.nil
              exact AllReadyH.nil
            exact AllReadyH.nil
          refine AllReadyH.cons (o := { dst := some 93, op := Op.buildSlice 43 1 #[(0, Operand.tmp 92)], type := 43, pos := "law.go:250", after := #[{ on := 6, ground := Ground.data }], guard := none }) rfl (fun K hK => ?_) ?_
          · (go_simp; have rowD := own_one W0 (ME.kyL (x.f, x.k, x.n, x.r)) 34 rfl; have dz1 := balloc (Below.refl _ W0) (.cells #[.int .i64 x.f, .int .i64 x.k, .int .i64 x.n, .int .i64 x.r] 34); change (W0.alloc (.cells #[.int .i64 x.f, .int .i64 x.k, .int .i64 x.n, .int .i64 x.r] 34)).ownsRow _ _ _ _ _ _ at rowD; obtain ⟨wz1, hq⟩ : ∃ w', W0.alloc (.cells #[.int .i64 x.f, .int .i64 x.k, .int .i64 x.n, .int .i64 x.r] 34) = w' := ⟨_, rfl⟩; rw [hq] at rowD dz1; rw [hq]; clear hq; have nD : ∀ q, (Value.slice (some ⟨W0.heap.size, 0, none⟩) 1 1).ownBlock = some q → W0.heap.size ≤ q ∧ q < wz1.heap.size := rowD.lt; have bz1 := bnext bz0 dz1; have sz1 := dz1.size)
            refine hK.out _ _ ?_ (fun hHeld => ?_)
            · exact (HS.out _ (HFW.out.then bz1)).1
            clear hK K
            (try simp only [Act.put, List.setIfInBounds_toArray, List.set_cons_zero, List.set_cons_succ])
            refine wpAnyH_ready (rs := [1, 2]) (by kernel_rfl) (by simp) ?_
            refine AllReadyH.cons (o := { dst := some 87, op := Op.call { callee := Callee.value (Operand.func 18), args := #[Operand.tmp 86], argTypes := #[24] }, type := 43, pos := "law.go:250", after := #[{ on := 0, ground := Ground.data }], guard := none }) rfl (fun K hK => ?_) ?_
            · (go_simp; go_at_call 18; refine (HL.out wz1 bz1).mono ?_; rintro u wz2 ⟨v1, rfl, row1, dz2⟩; obtain ⟨ra, rc, rfl⟩ := own_shape row1; have n1 : ∀ q, (Value.slice ra n rc).ownBlock = some q → wz1.heap.size ≤ q ∧ q < wz2.heap.size := row1.lt; have bz2 := bnext bz1 dz2; have sz2 := dz2.size; have rowD := own_below rowD dz2; dsimp only)
              refine hK.out _ _ ?_ (fun hHeld => ?_)
              · exact (HS.out _ (HFW.out.then bz2)).1
              clear hK K
              (try simp only [Act.put, List.setIfInBounds_toArray, List.set_cons_zero, List.set_cons_succ])
              refine wpAnyH_ready (rs := [2]) (by kernel_rfl) (by simp) ?_
              refine AllReadyH.cons (o := { dst := some 88, op := Op.buildSlice 43 0 #[], type := 43, pos := "law.go:250", after := #[], guard := none }) rfl (fun K hK => ?_) ?_
              · (go_simp; have rowE := own_empty wz2 34 4 wz2.heap.size (Nat.le_refl _); have dz3 := balloc (Below.refl _ wz2) (.cells #[] 34); obtain ⟨wz3, hq⟩ : ∃ w', wz2.alloc (.cells #[] 34) = w' := ⟨_, rfl⟩; rw [hq] at rowE dz3; rw [hq]; clear hq; have nE : ∀ q, (Value.slice (some ⟨wz2.heap.size, 0, none⟩) 0 0).ownBlock = some q → wz2.heap.size ≤ q ∧ q < wz3.heap.size := rowE.lt; have bz3 := bnext bz2 dz3; have sz3 := dz3.size; have row1 := own_below row1 dz3; have rowD := own_below rowD dz3)
                refine hK.out _ _ ?_ (fun hHeld => ?_)
                · exact (HS.out _ (HFW.out.then bz3)).1
                clear hK K
                (try simp only [Act.put, List.setIfInBounds_toArray, List.set_cons_zero, List.set_cons_succ])
                refine wpAnyH_ready (rs := [4]) (by kernel_rfl) (by simp) ?_
                refine AllReadyH.cons (o := { dst := some 90, op := Op.call { callee := Callee.builtin Builtin.append, args := #[Operand.tmp 88, Operand.tmp 89], argTypes := #[43, 43] }, type := 43, pos := "law.go:250", after := #[{ on := 2, ground := Ground.data }, { on := 3, ground := Ground.data }, { on := 1, ground := Ground.chain }], guard := none }) rfl (fun K hK => ?_) ?_
                · (refine step_appN (by rfl) _ _ _ (by rfl) _ 34 i0 _ 4 32 Try.underlying43 hi0' hz0 hz1 hz2 rfl (by decide) _ 0 [] (by rfl) rowE _ c (ME.kc (ME.wk P k n)) (by rfl) ((HS.out _ (HFW.out.then bz3)).2.2) (kc_cells _) (by unfold maxLen; omega) (by omega) (by omega) ?_; intro v2 wz4 row2 hgr hob; rw [Nat.zero_add, List.nil_append] at row2; obtain ⟨sa2, sc2, rfl⟩ := own_shape row2; have bz4 := bz3.grown hgr bz3.size (fun q e => by have h := nE q e; have h0 := bz3.size; omega); have sz4 := hgr.size; have n2 : ∀ q, (Value.slice sa2 _ sc2).ownBlock = some q → _ := fun q e2 => Or.elim hob (fun h => Or.inl (nE q (h.symm.trans e2))) (fun h => Or.inr (Option.some.inj (e2.symm.trans h))); have row1 := own_of_grown row1 hgr (fun q e e2 => by have h1 := n1 q e; have h2 := nE q e2; omega); have rowD := own_of_grown rowD hgr (fun q e e2 => by have h1 := nD q e; have h2 := nE q e2; omega); clear hgr hob)
                  refine hK.out _ _ ?_ (fun hHeld => ?_)
                  · exact (HS.out _ (HFW.out.then bz4)).1
                  clear hK K
                  (try simp only [Act.put, List.setIfInBounds_toArray, List.set_cons_zero, List.set_cons_succ])
                  refine wpAnyH_ready (rs := [8]) (by kernel_rfl) (by simp) ?_
                  refine AllReadyH.cons (o := { dst := some 94, op := Op.call { callee := Callee.builtin Builtin.append, args := #[Operand.tmp 90, Operand.tmp 93], argTypes := #[43, 43] }, type := 43, pos := "law.go:250", after := #[{ on := 4, ground := Ground.data }, { on := 7, ground := Ground.data }, { on := 4, ground := Ground.chain }], guard := none }) rfl (fun K hK => ?_) ?_
                  · (refine step_appN (by rfl) _ _ _ (by rfl) _ 34 i0 _ 4 32 Try.underlying43 hi0' hz0 hz1 hz2 rfl (by decide) _ c _ (by rfl) row2 _ 1 _ (by rfl) (own_srcN rowD) (by intro u hu; simp only [ME.kyL, List.mem_cons, List.not_mem_nil, or_false] at hu; rcases hu with rfl | rfl | rfl | rfl <;> rfl) (by unfold maxLen; omega) (by omega) (by omega) ?_; intro v3 wz5 row3 hgr hob; obtain ⟨sa3, sc3, rfl⟩ := own_shape row3; have bz5 := bz4.grown hgr bz4.size (fun q e => by have h := n2 q e; have h0 := bz4.size; omega); have sz5 := hgr.size; have row1 := own_of_grown row1 hgr (fun q e e2 => by have h1 := n1 q e; have h2 := n2 q e2; omega); clear hgr hob)
                    refine hK.out _ _ ?_ (fun hHeld => ?_)
                    · exact (HS.out _ (HFW.out.then bz5)).1
                    clear hK K
                    (try simp only [Act.put, List.setIfInBounds_toArray, List.set_cons_zero, List.set_cons_succ])
                    refine wpAnyH_ready (rs := [9]) (by kernel_rfl) (by simp) ?_
                    refine AllReadyH.cons (o := { dst := some 95, op := Op.call { callee := Callee.value (Operand.func 20), args := #[Operand.tmp 87, Operand.tmp 94], argTypes := #[43, 43] }, type := 4, pos := "law.go:250", after := #[{ on := 1, ground := Ground.data }, { on := 8, ground := Ground.data }, { on := 8, ground := Ground.chain }], guard := none }) rfl (fun K hK => ?_) ?_
                    · (go_simp; go_at_call 20; refine (same_any wz5 (.slice ra n rc) (.slice sa3 (c + 1) sc3) ((P.eraseIdx k ++ [x]).map En.key) ((P.eraseIdx k ++ [x]).map En.key) (by rw [HLR.out]; exact own_srcN row1) (by rw [HLR.out, ← HNC.out, HKR.out]; exact own_srcN row3) (by rw [HLR.out]; omega) (by rw [HLR.out]; omega)).mono ?_; rintro u wz6 ⟨rfl, nq, hw⟩; rw [decide_eq_true rfl]; have bz6 : Below W0.heap.size W0 wz6 := (by rw [hw]; exact bnext bz5 ⟨rfl, rfl, rfl, Nat.le_refl _, fun _ _ => rfl⟩); clear hw; dsimp only)
                      refine hK.out _ _ ?_ (fun hHeld => ?_)
                      · exact (HS.out _ (HFW.out.then bz6)).1
                      clear hK K
                      (try simp only [Act.put, List.setIfInBounds_toArray, List.set_cons_zero, List.set_cons_succ])
                      refine wpAnyH_take (i := 10) (oi := { dst := some 96, op := Op.move (Operand.tmp 95), type := 4, pos := "law.go:250", after := #[{ on := 9, ground := Ground.data }, { on := 9, ground := Ground.chain }], guard := none }) (v := ?_) rfl (by kernel_rfl) (by kernel_rfl) (by kernel_rfl) (fun _ _ _ h => h) (Or.inl ⟨by rfl, ?_⟩) (by assumption) ?_
                      rotate_left
                      · ((intro w hSw; (try dsimp only at hSw); go_simp; (try rw [if_neg (by omega)])); try with_reducible rfl)
                      (try simp only [Act.put, List.setIfInBounds_toArray, List.set_cons_zero, List.set_cons_succ])
                      refine wpAnyH_take (i := 11) (oi := { dst := some 97, op := Op.move (Operand.tmp 8), type := 24, pos := "law.go:250", after := #[{ on := 10, ground := Ground.guard }], guard := some (10, true) }) (v := ?_) rfl (by kernel_rfl) (by kernel_rfl) (by kernel_rfl) (fun _ _ _ h => h) (Or.inl ⟨by rfl, ?_⟩) (by assumption) ?_
                      rotate_left
                      · ((intro w hSw; (try dsimp only at hSw); go_simp; (try rw [if_neg (by omega)])); try with_reducible rfl)
                      (try simp only [Act.put, List.setIfInBounds_toArray, List.set_cons_zero, List.set_cons_succ])
                      refine wpAnyH_take (i := 13) (oi := { dst := some 99, op := Op.move (Operand.tmp 16), type := 3, pos := "law.go:250", after := #[{ on := 10, ground := Ground.guard }], guard := some (10, true) }) (v := ?_) rfl (by kernel_rfl) (by kernel_rfl) (by kernel_rfl) (fun _ _ _ h => h) (Or.inl ⟨by rfl, ?_⟩) (by assumption) ?_
                      rotate_left
                      · ((intro w hSw; (try dsimp only at hSw); go_simp; (try rw [if_neg (by omega)])); try with_reducible rfl)
                      (try simp only [Act.put, List.setIfInBounds_toArray, List.set_cons_zero, List.set_cons_succ])
                      refine wpAnyH_ready (rs := [12]) (by kernel_rfl) (by simp) ?_
                      refine AllReadyH.cons (o := { dst := some 98, op := Op.call { callee := Callee.value (Operand.func 19), args := #[Operand.tmp 97], argTypes := #[24] }, type := 3, pos := "law.go:250", after := #[{ on := 11, ground := Ground.data }, { on := 10, ground := Ground.chain }, { on := 10, ground := Ground.guard }], guard := some (10, true) }) rfl (fun K hK => ?_) ?_
                      · (go_simp; go_at_call 19; refine (HU.out _ bz6).mono ?_; rintro u wz7 ⟨rfl, he⟩; have bz7 : Below W0.heap.size W0 wz7 := (by rw [he]; exact bz6); have sz7 : wz6.heap.size ≤ wz7.heap.size := (by rw [he]; exact Nat.le_refl _); clear he; dsimp only)
                        refine hK.out _ _ ?_ (fun hHeld => ?_)
                        · exact (HS.out _ (HFW.out.then bz7)).1
                        clear hK K
                        (try simp only [Act.put, List.setIfInBounds_toArray, List.set_cons_zero, List.set_cons_succ])
                        refine wpAnyH_take (i := 14) (oi := { dst := some 100, op := Op.binOp BinOp.eql 3 (Operand.tmp 98) (Operand.tmp 99) 3, type := 4, pos := "law.go:250", after := #[{ on := 12, ground := Ground.data }, { on := 13, ground := Ground.data }, { on := 10, ground := Ground.guard }], guard := some (10, true) }) (v := ?_) rfl (by kernel_rfl) (by kernel_rfl) (by kernel_rfl) (fun _ _ _ h => h) (Or.inl ⟨by rfl, ?_⟩) (by assumption) ?_
                        rotate_left
                        · ((intro w hSw; (try dsimp only at hSw); go_simp; (try rw [if_neg (by omega)])); try with_reducible rfl)
                        (try simp only [Act.put, List.setIfInBounds_toArray, List.set_cons_zero, List.set_cons_succ])
                        refine wpAnyH_take (i := 15) (oi := { dst := some 101, op := Op.pick (Operand.tmp 96) (Operand.tmp 100) (Operand.const (Value.bool false)), type := 4, pos := "law.go:250", after := #[{ on := 10, ground := Ground.data }, { on := 14, ground := Ground.data }], guard := none }) (v := ?_) rfl (by kernel_rfl) (by kernel_rfl) (by kernel_rfl) (fun _ _ _ h => h) (Or.inl ⟨by rfl, ?_⟩) (by assumption) ?_
                        rotate_left
                        · ((intro w hSw; (try dsimp only at hSw); go_simp; (try rw [if_neg (by omega)])); try with_reducible rfl)
                        (try simp only [Act.put, List.setIfInBounds_toArray, List.set_cons_zero, List.set_cons_succ])
                        refine wpAnyH_take (i := 16) (oi := { dst := some 18, op := Op.assign (Operand.tmp 101), type := 4, pos := "law.go:250", after := #[{ on := 15, ground := Ground.data }, { on := 12, ground := Ground.chain }, { on := 0, ground := Ground.phase }, { on := 1, ground := Ground.phase }, { on := 2, ground := Ground.phase }, { on := 3, ground := Ground.phase }, { on := 4, ground := Ground.phase }, { on := 5, ground := Ground.phase }, { on := 6, ground := Ground.phase }, { on := 7, ground := Ground.phase }, { on := 8, ground := Ground.phase }, { on := 9, ground := Ground.phase }, { on := 10, ground := Ground.phase }, { on := 11, ground := Ground.phase }, { on := 12, ground := Ground.phase }, { on := 13, ground := Ground.phase }, { on := 14, ground := Ground.phase }, { on := 15, ground := Ground.phase }], guard := none }) (v := ?_) rfl (by kernel_rfl) (by kernel_rfl) (by kernel_rfl) (fun _ _ _ h => h) (Or.inl ⟨by rfl, ?_⟩) (by assumption) ?_
                        rotate_left
                        · ((intro w hSw; (try dsimp only at hSw); go_simp; (try rw [if_neg (by omega)])); try with_reducible rfl)
                        (try simp only [Act.put, List.setIfInBounds_toArray, List.set_cons_zero, List.set_cons_succ])
                        refine wpAnyH_done (by kernel_rfl) ?_ _
                        have HCU := Lib.hid (bnext HWD.out bz7)
                        go_wp2_with fail
                        go_meet
                        exact ⟨by simp, HCU⟩
                      exact AllReadyH.nil
                    exact AllReadyH.nil
                  exact AllReadyH.nil
                exact AllReadyH.nil
              exact AllReadyH.nil
            refine AllReadyH.cons (o := { dst := some 88, op := Op.buildSlice 43 0 #[], type := 43, pos := "law.go:250", after := #[], guard := none }) rfl (fun K hK => ?_) ?_
            · (go_simp; have rowE := own_empty wz1 34 4 wz1.heap.size (Nat.le_refl _); have dz2 := balloc (Below.refl _ wz1) (.cells #[] 34); obtain ⟨wz2, hq⟩ : ∃ w', wz1.alloc (.cells #[] 34) = w' := ⟨_, rfl⟩; rw [hq] at rowE dz2; rw [hq]; clear hq; have nE : ∀ q, (Value.slice (some ⟨wz1.heap.size, 0, none⟩) 0 0).ownBlock = some q → wz1.heap.size ≤ q ∧ q < wz2.heap.size := rowE.lt; have bz2 := bnext bz1 dz2; have sz2 := dz2.size; have rowD := own_below rowD dz2)
              refine hK.out _ _ ?_ (fun hHeld => ?_)
              · exact (HS.out _ (HFW.out.then bz2)).1
              clear hK K
              (try simp only [Act.put, List.setIfInBounds_toArray, List.set_cons_zero, List.set_cons_succ])
              refine wpAnyH_ready (rs := [1]) (by kernel_rfl) (by simp) ?_
              refine AllReadyH.cons (o := { dst := some 87, op := Op.call { callee := Callee.value (Operand.func 18), args := #[Operand.tmp 86], argTypes := #[24] }, type := 43, pos := "law.go:250", after := #[{ on := 0, ground := Ground.data }], guard := none }) rfl (fun K hK => ?_) ?_
              · (go_simp; go_at_call 18; refine (HL.out wz2 bz2).mono ?_; rintro u wz3 ⟨v1, rfl, row1, dz3⟩; obtain ⟨ra, rc, rfl⟩ := own_shape row1; have n1 : ∀ q, (Value.slice ra n rc).ownBlock = some q → wz2.heap.size ≤ q ∧ q < wz3.heap.size := row1.lt; have bz3 := bnext bz2 dz3; have sz3 := dz3.size; have rowD := own_below rowD dz3; have rowE := own_below rowE dz3; dsimp only)
                refine hK.out _ _ ?_ (fun hHeld => ?_)
                · exact (HS.out _ (HFW.out.then bz3)).1
                clear hK K
                (try simp only [Act.put, List.setIfInBounds_toArray, List.set_cons_zero, List.set_cons_succ])
                refine wpAnyH_ready (rs := [4]) (by kernel_rfl) (by simp) ?_
                refine AllReadyH.cons (o := { dst := some 90, op := Op.call { callee := Callee.builtin Builtin.append, args := #[Operand.tmp 88, Operand.tmp 89], argTypes := #[43, 43] }, type := 43, pos := "law.go:250", after := #[{ on := 2, ground := Ground.data }, { on := 3, ground := Ground.data }, { on := 1, ground := Ground.chain }], guard := none }) rfl (fun K hK => ?_) ?_
                · (refine step_appN (by rfl) _ _ _ (by rfl) _ 34 i0 _ 4 32 Try.underlying43 hi0' hz0 hz1 hz2 rfl (by decide) _ 0 [] (by rfl) rowE _ c (ME.kc (ME.wk P k n)) (by rfl) ((HS.out _ (HFW.out.then bz3)).2.2) (kc_cells _) (by unfold maxLen; omega) (by omega) (by omega) ?_; intro v2 wz4 row2 hgr hob; rw [Nat.zero_add, List.nil_append] at row2; obtain ⟨sa2, sc2, rfl⟩ := own_shape row2; have bz4 := bz3.grown hgr bz3.size (fun q e => by have h := nE q e; have h0 := bz3.size; omega); have sz4 := hgr.size; have n2 : ∀ q, (Value.slice sa2 _ sc2).ownBlock = some q → _ := fun q e2 => Or.elim hob (fun h => Or.inl (nE q (h.symm.trans e2))) (fun h => Or.inr (Option.some.inj (e2.symm.trans h))); have row1 := own_of_grown row1 hgr (fun q e e2 => by have h1 := n1 q e; have h2 := nE q e2; omega); have rowD := own_of_grown rowD hgr (fun q e e2 => by have h1 := nD q e; have h2 := nE q e2; omega); clear hgr hob)
                  refine hK.out _ _ ?_ (fun hHeld => ?_)
                  · exact (HS.out _ (HFW.out.then bz4)).1
                  clear hK K
                  (try simp only [Act.put, List.setIfInBounds_toArray, List.set_cons_zero, List.set_cons_succ])
                  refine wpAnyH_ready (rs := [8]) (by kernel_rfl) (by simp) ?_
                  refine AllReadyH.cons (o := { dst := some 94, op := Op.call { callee := Callee.builtin Builtin.append, args := #[Operand.tmp 90, Operand.tmp 93], argTypes := #[43, 43] }, type := 43, pos := "law.go:250", after := #[{ on := 4, ground := Ground.data }, { on := 7, ground := Ground.data }, { on := 4, ground := Ground.chain }], guard := none }) rfl (fun K hK => ?_) ?_
                  · (refine step_appN (by rfl) _ _ _ (by rfl) _ 34 i0 _ 4 32 Try.underlying43 hi0' hz0 hz1 hz2 rfl (by decide) _ c _ (by rfl) row2 _ 1 _ (by rfl) (own_srcN rowD) (by intro u hu; simp only [ME.kyL, List.mem_cons, List.not_mem_nil, or_false] at hu; rcases hu with rfl | rfl | rfl | rfl <;> rfl) (by unfold maxLen; omega) (by omega) (by omega) ?_; intro v3 wz5 row3 hgr hob; obtain ⟨sa3, sc3, rfl⟩ := own_shape row3; have bz5 := bz4.grown hgr bz4.size (fun q e => by have h := n2 q e; have h0 := bz4.size; omega); have sz5 := hgr.size; have row1 := own_of_grown row1 hgr (fun q e e2 => by have h1 := n1 q e; have h2 := n2 q e2; omega); clear hgr hob)
                    refine hK.out _ _ ?_ (fun hHeld => ?_)
                    · exact (HS.out _ (HFW.out.then bz5)).1
                    clear hK K
                    (try simp only [Act.put, List.setIfInBounds_toArray, List.set_cons_zero, List.set_cons_succ])
                    refine wpAnyH_ready (rs := [9]) (by kernel_rfl) (by simp) ?_
                    refine AllReadyH.cons (o := { dst := some 95, op := Op.call { callee := Callee.value (Operand.func 20), args := #[Operand.tmp 87, Operand.tmp 94], argTypes := #[43, 43] }, type := 4, pos := "law.go:250", after := #[{ on := 1, ground := Ground.data }, { on := 8, ground := Ground.data }, { on := 8, ground := Ground.chain }], guard := none }) rfl (fun K hK => ?_) ?_
                    · (go_simp; go_at_call 20; refine (same_any wz5 (.slice ra n rc) (.slice sa3 (c + 1) sc3) ((P.eraseIdx k ++ [x]).map En.key) ((P.eraseIdx k ++ [x]).map En.key) (by rw [HLR.out]; exact own_srcN row1) (by rw [HLR.out, ← HNC.out, HKR.out]; exact own_srcN row3) (by rw [HLR.out]; omega) (by rw [HLR.out]; omega)).mono ?_; rintro u wz6 ⟨rfl, nq, hw⟩; rw [decide_eq_true rfl]; have bz6 : Below W0.heap.size W0 wz6 := (by rw [hw]; exact bnext bz5 ⟨rfl, rfl, rfl, Nat.le_refl _, fun _ _ => rfl⟩); clear hw; dsimp only)
                      refine hK.out _ _ ?_ (fun hHeld => ?_)
                      · exact (HS.out _ (HFW.out.then bz6)).1
                      clear hK K
                      (try simp only [Act.put, List.setIfInBounds_toArray, List.set_cons_zero, List.set_cons_succ])
                      refine wpAnyH_take (i := 10) (oi := { dst := some 96, op := Op.move (Operand.tmp 95), type := 4, pos := "law.go:250", after := #[{ on := 9, ground := Ground.data }, { on := 9, ground := Ground.chain }], guard := none }) (v := ?_) rfl (by kernel_rfl) (by kernel_rfl) (by kernel_rfl) (fun _ _ _ h => h) (Or.inl ⟨by rfl, ?_⟩) (by assumption) ?_
                      rotate_left
                      · ((intro w hSw; (try dsimp only at hSw); go_simp; (try rw [if_neg (by omega)])); try with_reducible rfl)
                      (try simp only [Act.put, List.setIfInBounds_toArray, List.set_cons_zero, List.set_cons_succ])
                      refine wpAnyH_take (i := 11) (oi := { dst := some 97, op := Op.move (Operand.tmp 8), type := 24, pos := "law.go:250", after := #[{ on := 10, ground := Ground.guard }], guard := some (10, true) }) (v := ?_) rfl (by kernel_rfl) (by kernel_rfl) (by kernel_rfl) (fun _ _ _ h => h) (Or.inl ⟨by rfl, ?_⟩) (by assumption) ?_
                      rotate_left
                      · ((intro w hSw; (try dsimp only at hSw); go_simp; (try rw [if_neg (by omega)])); try with_reducible rfl)
                      (try simp only [Act.put, List.setIfInBounds_toArray, List.set_cons_zero, List.set_cons_succ])
                      refine wpAnyH_take (i := 13) (oi := { dst := some 99, op := Op.move (Operand.tmp 16), type := 3, pos := "law.go:250", after := #[{ on := 10, ground := Ground.guard }], guard := some (10, true) }) (v := ?_) rfl (by kernel_rfl) (by kernel_rfl) (by kernel_rfl) (fun _ _ _ h => h) (Or.inl ⟨by rfl, ?_⟩) (by assumption) ?_
                      rotate_left
                      · ((intro w hSw; (try dsimp only at hSw); go_simp; (try rw [if_neg (by omega)])); try with_reducible rfl)
                      (try simp only [Act.put, List.setIfInBounds_toArray, List.set_cons_zero, List.set_cons_succ])
                      refine wpAnyH_ready (rs := [12]) (by kernel_rfl) (by simp) ?_
                      refine AllReadyH.cons (o := { dst := some 98, op := Op.call { callee := Callee.value (Operand.func 19), args := #[Operand.tmp 97], argTypes := #[24] }, type := 3, pos := "law.go:250", after := #[{ on := 11, ground := Ground.data }, { on := 10, ground := Ground.chain }, { on := 10, ground := Ground.guard }], guard := some (10, true) }) rfl (fun K hK => ?_) ?_
                      · (go_simp; go_at_call 19; refine (HU.out _ bz6).mono ?_; rintro u wz7 ⟨rfl, he⟩; have bz7 : Below W0.heap.size W0 wz7 := (by rw [he]; exact bz6); have sz7 : wz6.heap.size ≤ wz7.heap.size := (by rw [he]; exact Nat.le_refl _); clear he; dsimp only)
                        refine hK.out _ _ ?_ (fun hHeld => ?_)
                        · exact (HS.out _ (HFW.out.then bz7)).1
                        clear hK K
                        (try simp only [Act.put, List.setIfInBounds_toArray, List.set_cons_zero, List.set_cons_succ])
                        refine wpAnyH_take (i := 14) (oi := { dst := some 100, op := Op.binOp BinOp.eql 3 (Operand.tmp 98) (Operand.tmp 99) 3, type := 4, pos := "law.go:250", after := #[{ on := 12, ground := Ground.data }, { on := 13, ground := Ground.data }, { on := 10, ground := Ground.guard }], guard := some (10, true) }) (v := ?_) rfl (by kernel_rfl) (by kernel_rfl) (by kernel_rfl) (fun _ _ _ h => h) (Or.inl ⟨by rfl, ?_⟩) (by assumption) ?_
                        rotate_left
                        · ((intro w hSw; (try dsimp only at hSw); go_simp; (try rw [if_neg (by omega)])); try with_reducible rfl)
                        (try simp only [Act.put, List.setIfInBounds_toArray, List.set_cons_zero, List.set_cons_succ])
                        refine wpAnyH_take (i := 15) (oi := { dst := some 101, op := Op.pick (Operand.tmp 96) (Operand.tmp 100) (Operand.const (Value.bool false)), type := 4, pos := "law.go:250", after := #[{ on := 10, ground := Ground.data }, { on := 14, ground := Ground.data }], guard := none }) (v := ?_) rfl (by kernel_rfl) (by kernel_rfl) (by kernel_rfl) (fun _ _ _ h => h) (Or.inl ⟨by rfl, ?_⟩) (by assumption) ?_
                        rotate_left
                        · ((intro w hSw; (try dsimp only at hSw); go_simp; (try rw [if_neg (by omega)])); try with_reducible rfl)
                        (try simp only [Act.put, List.setIfInBounds_toArray, List.set_cons_zero, List.set_cons_succ])
                        refine wpAnyH_take (i := 16) (oi := { dst := some 18, op := Op.assign (Operand.tmp 101), type := 4, pos := "law.go:250", after := #[{ on := 15, ground := Ground.data }, { on := 12, ground := Ground.chain }, { on := 0, ground := Ground.phase }, { on := 1, ground := Ground.phase }, { on := 2, ground := Ground.phase }, { on := 3, ground := Ground.phase }, { on := 4, ground := Ground.phase }, { on := 5, ground := Ground.phase }, { on := 6, ground := Ground.phase }, { on := 7, ground := Ground.phase }, { on := 8, ground := Ground.phase }, { on := 9, ground := Ground.phase }, { on := 10, ground := Ground.phase }, { on := 11, ground := Ground.phase }, { on := 12, ground := Ground.phase }, { on := 13, ground := Ground.phase }, { on := 14, ground := Ground.phase }, { on := 15, ground := Ground.phase }], guard := none }) (v := ?_) rfl (by kernel_rfl) (by kernel_rfl) (by kernel_rfl) (fun _ _ _ h => h) (Or.inl ⟨by rfl, ?_⟩) (by assumption) ?_
                        rotate_left
                        · ((intro w hSw; (try dsimp only at hSw); go_simp; (try rw [if_neg (by omega)])); try with_reducible rfl)
                        (try simp only [Act.put, List.setIfInBounds_toArray, List.set_cons_zero, List.set_cons_succ])
                        refine wpAnyH_done (by kernel_rfl) ?_ _
                        have HCU := Lib.hid (bnext HWD.out bz7)
                        go_wp2_with fail
                        go_meet
                        exact ⟨by simp, HCU⟩
                      exact AllReadyH.nil
                    exact AllReadyH.nil
                  exact AllReadyH.nil
                exact AllReadyH.nil
              exact AllReadyH.nil
            exact AllReadyH.nil
          exact AllReadyH.nil
        obtain ⟨rfl, HCUT⟩ := hcut
        have SX := Lib.hid (SC.out.below HCUT.out)
        obtain ⟨⟨t0, t1, t2, t3⟩, t4, -⟩ := HS.out wc SX.out.1
        have hpu := put_s (x.f, x.k, x.n, x.r) x.size HKO.out SX.out (by omega)
        rw [HE2.out] at hpu
        have HPU := Lib.hid hpu
        clear hpu
        go_upto_region 17 with fail
        go_wp2_with fail
        go_at_call 17
        refine HPU.out.mono ?_
        rintro e wd ⟨v9, rfl, row9, sd⟩
        obtain ⟨ga, gc, rfl⟩ := own_shape (show wd.ownsRow _ _ 4 v9 0 [] from row9)
        have SD := Lib.hid sd
        clear sd row9 t0 t1 t2 t3 t4 HPU
        go_upto_region 18 with fail
        have HWD0 := Below.drew (Below.refl wd.heap.size wd)
        obtain ⟨W1, hW0⟩ : ∃ W1, wd.drew = W1 := ⟨_, rfl⟩
        rw [hW0] at HWD0
        have HWD := Lib.hid HWD0
        have HW0 := Lib.hid hW0
        clear HWD0 hW0
        have bz0 : Below W1.heap.size W1 W1 := Below.refl _ _
        have HFW : Hid (FrS F wr W1) := Lib.hid (SD.out.1.then HWD.out)
        have HL : Hid (∀ V, Below W1.heap.size W1 V → Calls Try.prog 18 #[ptr M] V fun x' w' => ∃ v, x' = .returned v ∧ w'.ownsRow V.heap.size 34 4 v n (ME.kc ((P.eraseIdx k ++ [x]).map En.key)) ∧ Below V.heap.size V w') := Lib.hid fun V hV => by
          have h := list_s ((SD.out.below HWD.out).below hV) (by omega)
          rw [HLR.out] at h
          exact h
        have HU : Hid (∀ V, Below W1.heap.size W1 V → Calls Try.prog 19 #[ptr M] V fun x' w' => x' = .returned (.int .i64 us) ∧ w' = V) := Lib.hid fun V hV => by
          have h := used_s ((SD.out.below HWD.out).below hV)
          rw [HSM.out] at h
          exact h
        refine wp_region_held_drew (S := (fun w' => w'.cell? ⟨X, 0, none⟩ = some (.int .i64 x.f) ∧ w'.cell? ⟨X, 1, none⟩ = some (.int .i64 x.k) ∧ w'.cell? ⟨X, 2, none⟩ = some (.int .i64 x.n) ∧ w'.cell? ⟨X, 3, none⟩ = some (.int .i64 x.r))) (by kernel_rfl) ?_ (fun hHeld => ?_)
        · (rw [HW0.out]; exact (HS.out _ (HFW.out.then bz0)).1)
        rw [HW0.out] at hHeld ⊢
        refine wpAnyH_take (i := 0) (oi := { dst := some 111, op := Op.move (Operand.tmp 7), type := 4, pos := "law.go:252", after := #[], guard := none }) (v := ?_) rfl (by kernel_rfl) (by kernel_rfl) (by kernel_rfl) (fun _ _ _ h => h) (Or.inl ⟨by rfl, ?_⟩) (by assumption) ?_
        rotate_left
        · ((intro w hSw; (try dsimp only at hSw); go_simp; (try rw [if_neg (by omega)])); try with_reducible rfl)
        (try simp only [Act.put, List.setIfInBounds_toArray, List.set_cons_zero, List.set_cons_succ])
        refine wpAnyH_take (i := 1) (oi := { dst := some 112, op := Op.move (Operand.tmp 111), type := 4, pos := "law.go:252", after := #[{ on := 0, ground := Ground.data }], guard := none }) (v := ?_) rfl (by kernel_rfl) (by kernel_rfl) (by kernel_rfl) (fun _ _ _ h => h) (Or.inl ⟨by rfl, ?_⟩) (by assumption) ?_
        rotate_left
        · ((intro w hSw; (try dsimp only at hSw); go_simp; (try rw [if_neg (by omega)])); try with_reducible rfl)
        (try simp only [Act.put, List.setIfInBounds_toArray, List.set_cons_zero, List.set_cons_succ])
        refine wpAnyH_take (i := 2) (oi := { dst := some 113, op := Op.move (Operand.tmp 17), type := 4, pos := "law.go:252", after := #[{ on := 1, ground := Ground.guard }], guard := some (1, true) }) (v := ?_) rfl (by kernel_rfl) (by kernel_rfl) (by kernel_rfl) (fun _ _ _ h => h) (Or.inl ⟨by rfl, ?_⟩) (by assumption) ?_
        rotate_left
        · ((intro w hSw; (try dsimp only at hSw); go_simp; (try rw [if_neg (by omega)])); try with_reducible rfl)
        (try simp only [Act.put, List.setIfInBounds_toArray, List.set_cons_zero, List.set_cons_succ])
        refine wpAnyH_take (i := 3) (oi := { dst := some 114, op := Op.pick (Operand.tmp 112) (Operand.tmp 113) (Operand.const (Value.bool false)), type := 4, pos := "law.go:252", after := #[{ on := 1, ground := Ground.data }, { on := 2, ground := Ground.data }], guard := none }) (v := ?_) rfl (by kernel_rfl) (by kernel_rfl) (by kernel_rfl) (fun _ _ _ h => h) (Or.inl ⟨by rfl, ?_⟩) (by assumption) ?_
        rotate_left
        · ((intro w hSw; (try dsimp only at hSw); go_simp; (try rw [if_neg (by omega)])); try with_reducible rfl)
        (try simp only [Act.put, List.setIfInBounds_toArray, List.set_cons_zero, List.set_cons_succ])
        refine wpAnyH_take (i := 4) (oi := { dst := some 115, op := Op.move (Operand.tmp 114), type := 4, pos := "law.go:252", after := #[{ on := 3, ground := Ground.data }, { on := 1, ground := Ground.chain }], guard := none }) (v := ?_) rfl (by kernel_rfl) (by kernel_rfl) (by kernel_rfl) (fun _ _ _ h => h) (Or.inl ⟨by rfl, ?_⟩) (by assumption) ?_
        rotate_left
        · ((intro w hSw; (try dsimp only at hSw); go_simp; (try rw [if_neg (by omega)])); try with_reducible rfl)
        (try simp only [Act.put, List.setIfInBounds_toArray, List.set_cons_zero, List.set_cons_succ])
        refine wpAnyH_take (i := 5) (oi := { dst := some 116, op := Op.move (Operand.tmp 18), type := 4, pos := "law.go:252", after := #[{ on := 4, ground := Ground.guard }], guard := some (4, true) }) (v := ?_) rfl (by kernel_rfl) (by kernel_rfl) (by kernel_rfl) (fun _ _ _ h => h) (Or.inl ⟨by rfl, ?_⟩) (by assumption) ?_
        rotate_left
        · ((intro w hSw; (try dsimp only at hSw); go_simp; (try rw [if_neg (by omega)])); try with_reducible rfl)
        (try simp only [Act.put, List.setIfInBounds_toArray, List.set_cons_zero, List.set_cons_succ])
        refine wpAnyH_take (i := 6) (oi := { dst := some 117, op := Op.pick (Operand.tmp 115) (Operand.tmp 116) (Operand.const (Value.bool false)), type := 4, pos := "law.go:252", after := #[{ on := 4, ground := Ground.data }, { on := 5, ground := Ground.data }], guard := none }) (v := ?_) rfl (by kernel_rfl) (by kernel_rfl) (by kernel_rfl) (fun _ _ _ h => h) (Or.inl ⟨by rfl, ?_⟩) (by assumption) ?_
        rotate_left
        · ((intro w hSw; (try dsimp only at hSw); go_simp; (try rw [if_neg (by omega)])); try with_reducible rfl)
        (try simp only [Act.put, List.setIfInBounds_toArray, List.set_cons_zero, List.set_cons_succ])
        refine wpAnyH_take (i := 7) (oi := { dst := some 118, op := Op.move (Operand.tmp 117), type := 4, pos := "law.go:252", after := #[{ on := 6, ground := Ground.data }, { on := 4, ground := Ground.chain }], guard := none }) (v := ?_) rfl (by kernel_rfl) (by kernel_rfl) (by kernel_rfl) (fun _ _ _ h => h) (Or.inl ⟨by rfl, ?_⟩) (by assumption) ?_
        rotate_left
        · ((intro w hSw; (try dsimp only at hSw); go_simp; (try rw [if_neg (by omega)])); try with_reducible rfl)
        (try simp only [Act.put, List.setIfInBounds_toArray, List.set_cons_zero, List.set_cons_succ])
        refine wpAnyH_take (i := 8) (oi := { dst := some 119, op := Op.move (Operand.tmp 20), type := 40, pos := "law.go:252", after := #[{ on := 7, ground := Ground.guard }], guard := some (7, true) }) (v := ?_) rfl (by kernel_rfl) (by kernel_rfl) (by kernel_rfl) (fun _ _ _ h => h) (Or.inl ⟨by rfl, ?_⟩) (by assumption) ?_
        rotate_left
        · ((intro w hSw; (try dsimp only at hSw); go_simp; (try rw [if_neg (by omega)])); try with_reducible rfl)
        (try simp only [Act.put, List.setIfInBounds_toArray, List.set_cons_zero, List.set_cons_succ])
        refine wpAnyH_take (i := 9) (oi := { dst := some 120, op := Op.binOp BinOp.eql 40 (Operand.tmp 119) (Operand.const (Value.int IntKind.i64 0)) 40, type := 4, pos := "law.go:252", after := #[{ on := 8, ground := Ground.data }, { on := 7, ground := Ground.guard }], guard := some (7, true) }) (v := ?_) rfl (by kernel_rfl) (by kernel_rfl) (by kernel_rfl) (fun _ _ _ h => h) (Or.inl ⟨by rfl, ?_⟩) (by assumption) ?_
        rotate_left
        · ((intro w hSw; (try dsimp only at hSw); go_simp; (try rw [if_neg (by omega)])); try with_reducible rfl)
        (try simp only [Act.put, List.setIfInBounds_toArray, List.set_cons_zero, List.set_cons_succ])
        refine wpAnyH_take (i := 10) (oi := { dst := some 121, op := Op.pick (Operand.tmp 118) (Operand.tmp 120) (Operand.const (Value.bool false)), type := 4, pos := "law.go:252", after := #[{ on := 7, ground := Ground.data }, { on := 9, ground := Ground.data }], guard := none }) (v := ?_) rfl (by kernel_rfl) (by kernel_rfl) (by kernel_rfl) (fun _ _ _ h => h) (Or.inl ⟨by rfl, ?_⟩) (by assumption) ?_
        rotate_left
        · ((intro w hSw; (try dsimp only at hSw); go_simp; (try rw [if_neg (by omega)])); try with_reducible rfl)
        (try simp only [Act.put, List.setIfInBounds_toArray, List.set_cons_zero, List.set_cons_succ])
        refine wpAnyH_take (i := 11) (oi := { dst := some 122, op := Op.move (Operand.tmp 121), type := 4, pos := "law.go:252", after := #[{ on := 10, ground := Ground.data }, { on := 7, ground := Ground.chain }], guard := none }) (v := ?_) rfl (by kernel_rfl) (by kernel_rfl) (by kernel_rfl) (fun _ _ _ h => h) (Or.inl ⟨by rfl, ?_⟩) (by assumption) ?_
        rotate_left
        · ((intro w hSw; (try dsimp only at hSw); go_simp; (try rw [if_neg (by omega)])); try with_reducible rfl)
        (try simp only [Act.put, List.setIfInBounds_toArray, List.set_cons_zero, List.set_cons_succ])
        refine wpAnyH_take (i := 12) (oi := { dst := some 123, op := Op.move (Operand.tmp 19), type := 43, pos := "law.go:252", after := #[{ on := 11, ground := Ground.guard }], guard := some (11, true) }) (v := ?_) rfl (by kernel_rfl) (by kernel_rfl) (by kernel_rfl) (fun _ _ _ h => h) (Or.inl ⟨by rfl, ?_⟩) (by assumption) ?_
        rotate_left
        · ((intro w hSw; (try dsimp only at hSw); go_simp; (try rw [if_neg (by omega)])); try with_reducible rfl)
        (try simp only [Act.put, List.setIfInBounds_toArray, List.set_cons_zero, List.set_cons_succ])
        refine wpAnyH_take (i := 13) (oi := { dst := some 124, op := Op.call { callee := Callee.builtin Builtin.len, args := #[Operand.tmp 123], argTypes := #[43] }, type := 3, pos := "law.go:252", after := #[{ on := 12, ground := Ground.data }, { on := 11, ground := Ground.guard }], guard := some (11, true) }) (v := ?_) rfl (by kernel_rfl) (by kernel_rfl) (by kernel_rfl) (fun _ _ _ h => h) (Or.inl ⟨by rfl, ?_⟩) (by assumption) ?_
        rotate_left
        · ((intro w hSw; (try dsimp only at hSw); go_simp; (try rw [if_neg (by omega)])); try with_reducible rfl)
        (try simp only [Act.put, List.setIfInBounds_toArray, List.set_cons_zero, List.set_cons_succ])
        refine wpAnyH_take (i := 14) (oi := { dst := some 125, op := Op.binOp BinOp.eql 3 (Operand.tmp 124) (Operand.const (Value.int IntKind.i64 0)) 3, type := 4, pos := "law.go:252", after := #[{ on := 13, ground := Ground.data }, { on := 11, ground := Ground.guard }], guard := some (11, true) }) (v := ?_) rfl (by kernel_rfl) (by kernel_rfl) (by kernel_rfl) (fun _ _ _ h => h) (Or.inl ⟨by rfl, ?_⟩) (by assumption) ?_
        rotate_left
        · ((intro w hSw; (try dsimp only at hSw); go_simp; (try rw [if_neg (by omega)])); try with_reducible rfl)
        (try simp only [Act.put, List.setIfInBounds_toArray, List.set_cons_zero, List.set_cons_succ])
        refine wpAnyH_take (i := 15) (oi := { dst := some 126, op := Op.pick (Operand.tmp 122) (Operand.tmp 125) (Operand.const (Value.bool false)), type := 4, pos := "law.go:252", after := #[{ on := 11, ground := Ground.data }, { on := 14, ground := Ground.data }], guard := none }) (v := ?_) rfl (by kernel_rfl) (by kernel_rfl) (by kernel_rfl) (fun _ _ _ h => h) (Or.inl ⟨by rfl, ?_⟩) (by assumption) ?_
        rotate_left
        · ((intro w hSw; (try dsimp only at hSw); go_simp; (try rw [if_neg (by omega)])); try with_reducible rfl)
        (try simp only [Act.put, List.setIfInBounds_toArray, List.set_cons_zero, List.set_cons_succ])
        refine wpAnyH_take (i := 16) (oi := { dst := some 127, op := Op.move (Operand.tmp 126), type := 4, pos := "law.go:252", after := #[{ on := 15, ground := Ground.data }, { on := 11, ground := Ground.chain }], guard := none }) (v := ?_) rfl (by kernel_rfl) (by kernel_rfl) (by kernel_rfl) (fun _ _ _ h => h) (Or.inl ⟨by rfl, ?_⟩) (by assumption) ?_
        rotate_left
        · ((intro w hSw; (try dsimp only at hSw); go_simp; (try rw [if_neg (by omega)])); try with_reducible rfl)
        (try simp only [Act.put, List.setIfInBounds_toArray, List.set_cons_zero, List.set_cons_succ])
        refine wpAnyH_take (i := 17) (oi := { dst := some 128, op := Op.move (Operand.tmp 8), type := 24, pos := "law.go:252", after := #[{ on := 16, ground := Ground.guard }], guard := some (16, true) }) (v := ?_) rfl (by kernel_rfl) (by kernel_rfl) (by kernel_rfl) (fun _ _ _ h => h) (Or.inl ⟨by rfl, ?_⟩) (by assumption) ?_
        rotate_left
        · ((intro w hSw; (try dsimp only at hSw); go_simp; (try rw [if_neg (by omega)])); try with_reducible rfl)
        (try simp only [Act.put, List.setIfInBounds_toArray, List.set_cons_zero, List.set_cons_succ])
        refine wpAnyH_take (i := 19) (oi := { dst := some 130, op := Op.move (Operand.tmp 16), type := 3, pos := "law.go:252", after := #[{ on := 16, ground := Ground.guard }], guard := some (16, true) }) (v := ?_) rfl (by kernel_rfl) (by kernel_rfl) (by kernel_rfl) (fun _ _ _ h => h) (Or.inl ⟨by rfl, ?_⟩) (by assumption) ?_
        rotate_left
        · ((intro w hSw; (try dsimp only at hSw); go_simp; (try rw [if_neg (by omega)])); try with_reducible rfl)
        (try simp only [Act.put, List.setIfInBounds_toArray, List.set_cons_zero, List.set_cons_succ])
        refine wpAnyH_ready (rs := [18]) (by kernel_rfl) (by simp) ?_
        refine AllReadyH.cons (o := { dst := some 129, op := Op.call { callee := Callee.value (Operand.func 19), args := #[Operand.tmp 128], argTypes := #[24] }, type := 3, pos := "law.go:252", after := #[{ on := 17, ground := Ground.data }, { on := 16, ground := Ground.chain }, { on := 16, ground := Ground.guard }], guard := some (16, true) }) rfl (fun K hK => ?_) ?_
        · (go_simp; go_at_call 19; refine (HU.out _ bz0).mono ?_; rintro u wz1 ⟨rfl, he⟩; have bz1 : Below W1.heap.size W1 wz1 := (by rw [he]; exact bz0); have sz1 : W1.heap.size ≤ wz1.heap.size := (by rw [he]; exact Nat.le_refl _); clear he; dsimp only)
          refine hK.out _ _ ?_ (fun hHeld => ?_)
          · exact (HS.out _ (HFW.out.then bz1)).1
          clear hK K
          (try simp only [Act.put, List.setIfInBounds_toArray, List.set_cons_zero, List.set_cons_succ])
          refine wpAnyH_take (i := 20) (oi := { dst := some 131, op := Op.binOp BinOp.eql 3 (Operand.tmp 129) (Operand.tmp 130) 3, type := 4, pos := "law.go:252", after := #[{ on := 18, ground := Ground.data }, { on := 19, ground := Ground.data }, { on := 16, ground := Ground.guard }], guard := some (16, true) }) (v := ?_) rfl (by kernel_rfl) (by kernel_rfl) (by kernel_rfl) (fun _ _ _ h => h) (Or.inl ⟨by rfl, ?_⟩) (by assumption) ?_
          rotate_left
          · ((intro w hSw; (try dsimp only at hSw); go_simp; (try rw [if_neg (by omega)])); try with_reducible rfl)
          (try simp only [Act.put, List.setIfInBounds_toArray, List.set_cons_zero, List.set_cons_succ])
          refine wpAnyH_take (i := 21) (oi := { dst := some 132, op := Op.pick (Operand.tmp 127) (Operand.tmp 131) (Operand.const (Value.bool false)), type := 4, pos := "law.go:252", after := #[{ on := 16, ground := Ground.data }, { on := 20, ground := Ground.data }], guard := none }) (v := ?_) rfl (by kernel_rfl) (by kernel_rfl) (by kernel_rfl) (fun _ _ _ h => h) (Or.inl ⟨by rfl, ?_⟩) (by assumption) ?_
          rotate_left
          · ((intro w hSw; (try dsimp only at hSw); go_simp; (try rw [if_neg (by omega)])); try with_reducible rfl)
          (try simp only [Act.put, List.setIfInBounds_toArray, List.set_cons_zero, List.set_cons_succ])
          refine wpAnyH_take (i := 22) (oi := { dst := some 133, op := Op.move (Operand.tmp 132), type := 4, pos := "law.go:252", after := #[{ on := 21, ground := Ground.data }, { on := 18, ground := Ground.chain }], guard := none }) (v := ?_) rfl (by kernel_rfl) (by kernel_rfl) (by kernel_rfl) (fun _ _ _ h => h) (Or.inl ⟨by rfl, ?_⟩) (by assumption) ?_
          rotate_left
          · ((intro w hSw; (try dsimp only at hSw); go_simp; (try rw [if_neg (by omega)])); try with_reducible rfl)
          (try simp only [Act.put, List.setIfInBounds_toArray, List.set_cons_zero, List.set_cons_succ])
          refine wpAnyH_take (i := 23) (oi := { dst := some 134, op := Op.move (Operand.tmp 8), type := 24, pos := "law.go:252", after := #[{ on := 22, ground := Ground.guard }], guard := some (22, true) }) (v := ?_) rfl (by kernel_rfl) (by kernel_rfl) (by kernel_rfl) (fun _ _ _ h => h) (Or.inl ⟨by rfl, ?_⟩) (by assumption) ?_
          rotate_left
          · ((intro w hSw; (try dsimp only at hSw); go_simp; (try rw [if_neg (by omega)])); try with_reducible rfl)
          (try simp only [Act.put, List.setIfInBounds_toArray, List.set_cons_zero, List.set_cons_succ])
          refine wpAnyH_take (i := 26) (oi := { dst := some 137, op := Op.move (Operand.tmp 13), type := 43, pos := "law.go:252", after := #[{ on := 22, ground := Ground.guard }], guard := some (22, true) }) (v := ?_) rfl (by kernel_rfl) (by kernel_rfl) (by kernel_rfl) (fun _ _ _ h => h) (Or.inl ⟨by rfl, ?_⟩) (by assumption) ?_
          rotate_left
          · ((intro w hSw; (try dsimp only at hSw); go_simp; (try rw [if_neg (by omega)])); try with_reducible rfl)
          (try simp only [Act.put, List.setIfInBounds_toArray, List.set_cons_zero, List.set_cons_succ])
          refine wpAnyH_take (i := 28) (oi := { dst := some 139, op := Op.fieldAddr 55 (Operand.tmp 12) 0, type := 0, pos := "law.go:252", after := #[{ on := 22, ground := Ground.guard }], guard := some (22, true) }) (v := ?_) rfl (by kernel_rfl) (by kernel_rfl) (by kernel_rfl) (fun _ _ _ h => h) (Or.inl ⟨by rfl, ?_⟩) (by assumption) ?_
          rotate_left
          · ((intro w hSw; (try dsimp only at hSw); go_simp; (try rw [if_neg (by omega)])); try with_reducible rfl)
          (try simp only [Act.put, List.setIfInBounds_toArray, List.set_cons_zero, List.set_cons_succ])
          refine wpAnyH_take (i := 29) (oi := { dst := some 140, op := Op.load 34 (Operand.tmp 139), type := 34, pos := "law.go:252", after := #[{ on := 28, ground := Ground.data }, { on := 22, ground := Ground.guard }], guard := some (22, true) }) (v := ?_) rfl (by kernel_rfl) (by kernel_rfl) (by kernel_rfl) (fun _ _ _ h => h) (Or.inl ⟨by rfl, ?_⟩) (by assumption) ?_
          rotate_left
          · ((intro w hSw; (try dsimp only at hSw); go_simp; (try rw [if_neg (by omega)])); try with_reducible rfl)
          (try simp only [Act.put, List.setIfInBounds_toArray, List.set_cons_zero, List.set_cons_succ])
          refine wpAnyH_ready (rs := [24, 25, 30]) (by kernel_rfl) (by simp) ?_
          refine AllReadyH.cons (o := { dst := some 135, op := Op.call { callee := Callee.value (Operand.func 18), args := #[Operand.tmp 134], argTypes := #[24] }, type := 43, pos := "law.go:252", after := #[{ on := 23, ground := Ground.data }, { on := 22, ground := Ground.chain }, { on := 22, ground := Ground.guard }], guard := some (22, true) }) rfl (fun K hK => ?_) ?_
          · (go_simp; go_at_call 18; refine (HL.out wz1 bz1).mono ?_; rintro u wz2 ⟨v1, rfl, row1, dz2⟩; obtain ⟨ra, rc, rfl⟩ := own_shape row1; have n1 : ∀ q, (Value.slice ra n rc).ownBlock = some q → wz1.heap.size ≤ q ∧ q < wz2.heap.size := row1.lt; have bz2 := bnext bz1 dz2; have sz2 := dz2.size; dsimp only)
            refine hK.out _ _ ?_ (fun hHeld => ?_)
            · exact (HS.out _ (HFW.out.then bz2)).1
            clear hK K
            (try simp only [Act.put, List.setIfInBounds_toArray, List.set_cons_zero, List.set_cons_succ])
            refine wpAnyH_ready (rs := [25, 30]) (by kernel_rfl) (by simp) ?_
            refine AllReadyH.cons (o := { dst := some 136, op := Op.buildSlice 43 0 #[], type := 43, pos := "law.go:252", after := #[{ on := 22, ground := Ground.guard }], guard := some (22, true) }) rfl (fun K hK => ?_) ?_
            · (go_simp; have rowE := own_empty wz2 34 4 wz2.heap.size (Nat.le_refl _); have dz3 := balloc (Below.refl _ wz2) (.cells #[] 34); obtain ⟨wz3, hq⟩ : ∃ w', wz2.alloc (.cells #[] 34) = w' := ⟨_, rfl⟩; rw [hq] at rowE dz3; rw [hq]; clear hq; have nE : ∀ q, (Value.slice (some ⟨wz2.heap.size, 0, none⟩) 0 0).ownBlock = some q → wz2.heap.size ≤ q ∧ q < wz3.heap.size := rowE.lt; have bz3 := bnext bz2 dz3; have sz3 := dz3.size; have row1 := own_below row1 dz3)
              refine hK.out _ _ ?_ (fun hHeld => ?_)
              · exact (HS.out _ (HFW.out.then bz3)).1
              clear hK K
              (try simp only [Act.put, List.setIfInBounds_toArray, List.set_cons_zero, List.set_cons_succ])
              refine wpAnyH_ready (rs := [27, 30]) (by kernel_rfl) (by simp) ?_
              refine AllReadyH.cons (o := { dst := some 138, op := Op.call { callee := Callee.builtin Builtin.append, args := #[Operand.tmp 136, Operand.tmp 137], argTypes := #[43, 43] }, type := 43, pos := "law.go:252", after := #[{ on := 25, ground := Ground.data }, { on := 26, ground := Ground.data }, { on := 24, ground := Ground.chain }, { on := 22, ground := Ground.guard }], guard := some (22, true) }) rfl (fun K hK => ?_) ?_
              · (refine step_appNG (by rfl) _ _ _ (by rfl) _ 34 i0 _ 4 32 Try.underlying43 hi0' hz0 hz1 hz2 rfl (by decide) _ 0 [] (by rfl) rowE _ c (ME.kc (ME.wk P k n)) (by rfl) ((HS.out _ (HFW.out.then bz3)).2.2) (kc_cells _) (by unfold maxLen; omega) (by omega) (by omega) ?_; intro v2 wz4 row2 hgr hob; rw [Nat.zero_add, List.nil_append] at row2; obtain ⟨sa2, sc2, rfl⟩ := own_shape row2; have bz4 := bz3.grown hgr bz3.size (fun q e => by have h := nE q e; have h0 := bz3.size; omega); have sz4 := hgr.size; have n2 : ∀ q, (Value.slice sa2 _ sc2).ownBlock = some q → _ := fun q e2 => Or.elim hob (fun h => Or.inl (nE q (h.symm.trans e2))) (fun h => Or.inr (Option.some.inj (e2.symm.trans h))); have row1 := own_of_grown row1 hgr (fun q e e2 => by have h1 := n1 q e; have h2 := nE q e2; omega); clear hgr hob)
                refine hK.out _ _ ?_ (fun hHeld => ?_)
                · exact (HS.out _ (HFW.out.then bz4)).1
                clear hK K
                (try simp only [Act.put, List.setIfInBounds_toArray, List.set_cons_zero, List.set_cons_succ])
                refine wpAnyH_ready (rs := [30]) (by kernel_rfl) (by simp) ?_
                refine AllReadyH.cons (o := { dst := some 141, op := Op.buildSlice 43 1 #[(0, Operand.tmp 140)], type := 43, pos := "law.go:252", after := #[{ on := 29, ground := Ground.data }, { on := 22, ground := Ground.guard }], guard := some (22, true) }) rfl (fun K hK => ?_) ?_
                · (go_simp; have rowD := own_one wz4 (ME.kyL (x.f, x.k, x.n, x.r)) 34 rfl; have dz5 := balloc (Below.refl _ wz4) (.cells #[.int .i64 x.f, .int .i64 x.k, .int .i64 x.n, .int .i64 x.r] 34); change (wz4.alloc (.cells #[.int .i64 x.f, .int .i64 x.k, .int .i64 x.n, .int .i64 x.r] 34)).ownsRow _ _ _ _ _ _ at rowD; obtain ⟨wz5, hq⟩ : ∃ w', wz4.alloc (.cells #[.int .i64 x.f, .int .i64 x.k, .int .i64 x.n, .int .i64 x.r] 34) = w' := ⟨_, rfl⟩; rw [hq] at rowD dz5; rw [hq]; clear hq; have nD : ∀ q, (Value.slice (some ⟨wz4.heap.size, 0, none⟩) 1 1).ownBlock = some q → wz4.heap.size ≤ q ∧ q < wz5.heap.size := rowD.lt; have bz5 := bnext bz4 dz5; have sz5 := dz5.size; have row1 := own_below row1 dz5; have row2 := own_below row2 dz5)
                  refine hK.out _ _ ?_ (fun hHeld => ?_)
                  · exact (HS.out _ (HFW.out.then bz5)).1
                  clear hK K
                  (try simp only [Act.put, List.setIfInBounds_toArray, List.set_cons_zero, List.set_cons_succ])
                  refine wpAnyH_ready (rs := [31]) (by kernel_rfl) (by simp) ?_
                  refine AllReadyH.cons (o := { dst := some 142, op := Op.call { callee := Callee.builtin Builtin.append, args := #[Operand.tmp 138, Operand.tmp 141], argTypes := #[43, 43] }, type := 43, pos := "law.go:252", after := #[{ on := 27, ground := Ground.data }, { on := 30, ground := Ground.data }, { on := 27, ground := Ground.chain }, { on := 22, ground := Ground.guard }], guard := some (22, true) }) rfl (fun K hK => ?_) ?_
                  · (refine step_appNG (by rfl) _ _ _ (by rfl) _ 34 i0 _ 4 32 Try.underlying43 hi0' hz0 hz1 hz2 rfl (by decide) _ c _ (by rfl) row2 _ 1 _ (by rfl) (own_srcN rowD) (by intro u hu; simp only [ME.kyL, List.mem_cons, List.not_mem_nil, or_false] at hu; rcases hu with rfl | rfl | rfl | rfl <;> rfl) (by unfold maxLen; omega) (by omega) (by omega) ?_; intro v3 wz6 row3 hgr hob; obtain ⟨sa3, sc3, rfl⟩ := own_shape row3; have bz6 := bz5.grown hgr bz5.size (fun q e => by have h := n2 q e; have h0 := bz5.size; omega); have sz6 := hgr.size; have row1 := own_of_grown row1 hgr (fun q e e2 => by have h1 := n1 q e; have h2 := n2 q e2; omega); clear hgr hob)
                    refine hK.out _ _ ?_ (fun hHeld => ?_)
                    · exact (HS.out _ (HFW.out.then bz6)).1
                    clear hK K
                    (try simp only [Act.put, List.setIfInBounds_toArray, List.set_cons_zero, List.set_cons_succ])
                    refine wpAnyH_ready (rs := [32]) (by kernel_rfl) (by simp) ?_
                    refine AllReadyH.cons (o := { dst := some 143, op := Op.call { callee := Callee.value (Operand.func 20), args := #[Operand.tmp 135, Operand.tmp 142], argTypes := #[43, 43] }, type := 4, pos := "law.go:252", after := #[{ on := 24, ground := Ground.data }, { on := 31, ground := Ground.data }, { on := 31, ground := Ground.chain }, { on := 22, ground := Ground.guard }], guard := some (22, true) }) rfl (fun K hK => ?_) ?_
                    · (go_simp; go_at_call 20; refine (same_any wz6 (.slice ra n rc) (.slice sa3 (c + 1) sc3) ((P.eraseIdx k ++ [x]).map En.key) ((P.eraseIdx k ++ [x]).map En.key) (by rw [HLR.out]; exact own_srcN row1) (by rw [HLR.out, ← HNC.out, HKR.out]; exact own_srcN row3) (by rw [HLR.out]; omega) (by rw [HLR.out]; omega)).mono ?_; rintro u wz7 ⟨rfl, nq, hw⟩; rw [decide_eq_true rfl]; have bz7 : Below W1.heap.size W1 wz7 := (by rw [hw]; exact bnext bz6 ⟨rfl, rfl, rfl, Nat.le_refl _, fun _ _ => rfl⟩); clear hw; dsimp only)
                      refine hK.out _ _ ?_ (fun hHeld => ?_)
                      · exact (HS.out _ (HFW.out.then bz7)).1
                      clear hK K
                      (try simp only [Act.put, List.setIfInBounds_toArray, List.set_cons_zero, List.set_cons_succ])
                      refine wpAnyH_take (i := 33) (oi := { dst := some 144, op := Op.pick (Operand.tmp 133) (Operand.tmp 143) (Operand.const (Value.bool false)), type := 4, pos := "law.go:252", after := #[{ on := 22, ground := Ground.data }, { on := 32, ground := Ground.data }], guard := none }) (v := ?_) rfl (by kernel_rfl) (by kernel_rfl) (by kernel_rfl) (fun _ _ _ h => h) (Or.inl ⟨by rfl, ?_⟩) (by assumption) ?_
                      rotate_left
                      · ((intro w hSw; (try dsimp only at hSw); go_simp; (try rw [if_neg (by omega)])); try with_reducible rfl)
                      (try simp only [Act.put, List.setIfInBounds_toArray, List.set_cons_zero, List.set_cons_succ])
                      refine wpAnyH_take (i := 34) (oi := { dst := some 6, op := Op.assign (Operand.tmp 144), type := 4, pos := "law.go:252", after := #[{ on := 33, ground := Ground.data }, { on := 32, ground := Ground.chain }, { on := 0, ground := Ground.phase }, { on := 1, ground := Ground.phase }, { on := 2, ground := Ground.phase }, { on := 3, ground := Ground.phase }, { on := 4, ground := Ground.phase }, { on := 5, ground := Ground.phase }, { on := 6, ground := Ground.phase }, { on := 7, ground := Ground.phase }, { on := 8, ground := Ground.phase }, { on := 9, ground := Ground.phase }, { on := 10, ground := Ground.phase }, { on := 11, ground := Ground.phase }, { on := 12, ground := Ground.phase }, { on := 13, ground := Ground.phase }, { on := 14, ground := Ground.phase }, { on := 15, ground := Ground.phase }, { on := 16, ground := Ground.phase }, { on := 17, ground := Ground.phase }, { on := 18, ground := Ground.phase }, { on := 19, ground := Ground.phase }, { on := 20, ground := Ground.phase }, { on := 21, ground := Ground.phase }, { on := 22, ground := Ground.phase }, { on := 23, ground := Ground.phase }, { on := 24, ground := Ground.phase }, { on := 25, ground := Ground.phase }, { on := 26, ground := Ground.phase }, { on := 27, ground := Ground.phase }, { on := 28, ground := Ground.phase }, { on := 29, ground := Ground.phase }, { on := 30, ground := Ground.phase }, { on := 31, ground := Ground.phase }, { on := 32, ground := Ground.phase }, { on := 33, ground := Ground.phase }], guard := none }) (v := ?_) rfl (by kernel_rfl) (by kernel_rfl) (by kernel_rfl) (fun _ _ _ h => h) (Or.inl ⟨by rfl, ?_⟩) (by assumption) ?_
                      rotate_left
                      · ((intro w hSw; (try dsimp only at hSw); go_simp; (try rw [if_neg (by omega)])); try with_reducible rfl)
                      (try simp only [Act.put, List.setIfInBounds_toArray, List.set_cons_zero, List.set_cons_succ])
                      refine wpAnyH_done (by kernel_rfl) ?_ _
                      have HCU := Lib.hid (bnext (bnext (HVB.out wd SD.out.1) HWD.out) bz7)
                      go_wp2
                      go_ret
                      exact ⟨by simp, HCU.out⟩
                    exact AllReadyH.nil
                  exact AllReadyH.nil
                exact AllReadyH.nil
              refine AllReadyH.cons (o := { dst := some 141, op := Op.buildSlice 43 1 #[(0, Operand.tmp 140)], type := 43, pos := "law.go:252", after := #[{ on := 29, ground := Ground.data }, { on := 22, ground := Ground.guard }], guard := some (22, true) }) rfl (fun K hK => ?_) ?_
              · (go_simp; have rowD := own_one wz3 (ME.kyL (x.f, x.k, x.n, x.r)) 34 rfl; have dz4 := balloc (Below.refl _ wz3) (.cells #[.int .i64 x.f, .int .i64 x.k, .int .i64 x.n, .int .i64 x.r] 34); change (wz3.alloc (.cells #[.int .i64 x.f, .int .i64 x.k, .int .i64 x.n, .int .i64 x.r] 34)).ownsRow _ _ _ _ _ _ at rowD; obtain ⟨wz4, hq⟩ : ∃ w', wz3.alloc (.cells #[.int .i64 x.f, .int .i64 x.k, .int .i64 x.n, .int .i64 x.r] 34) = w' := ⟨_, rfl⟩; rw [hq] at rowD dz4; rw [hq]; clear hq; have nD : ∀ q, (Value.slice (some ⟨wz3.heap.size, 0, none⟩) 1 1).ownBlock = some q → wz3.heap.size ≤ q ∧ q < wz4.heap.size := rowD.lt; have bz4 := bnext bz3 dz4; have sz4 := dz4.size; have row1 := own_below row1 dz4; have rowE := own_below rowE dz4)
                refine hK.out _ _ ?_ (fun hHeld => ?_)
                · exact (HS.out _ (HFW.out.then bz4)).1
                clear hK K
                (try simp only [Act.put, List.setIfInBounds_toArray, List.set_cons_zero, List.set_cons_succ])
                refine wpAnyH_ready (rs := [27]) (by kernel_rfl) (by simp) ?_
                refine AllReadyH.cons (o := { dst := some 138, op := Op.call { callee := Callee.builtin Builtin.append, args := #[Operand.tmp 136, Operand.tmp 137], argTypes := #[43, 43] }, type := 43, pos := "law.go:252", after := #[{ on := 25, ground := Ground.data }, { on := 26, ground := Ground.data }, { on := 24, ground := Ground.chain }, { on := 22, ground := Ground.guard }], guard := some (22, true) }) rfl (fun K hK => ?_) ?_
                · (refine step_appNG (by rfl) _ _ _ (by rfl) _ 34 i0 _ 4 32 Try.underlying43 hi0' hz0 hz1 hz2 rfl (by decide) _ 0 [] (by rfl) rowE _ c (ME.kc (ME.wk P k n)) (by rfl) ((HS.out _ (HFW.out.then bz4)).2.2) (kc_cells _) (by unfold maxLen; omega) (by omega) (by omega) ?_; intro v2 wz5 row2 hgr hob; rw [Nat.zero_add, List.nil_append] at row2; obtain ⟨sa2, sc2, rfl⟩ := own_shape row2; have bz5 := bz4.grown hgr bz4.size (fun q e => by have h := nE q e; have h0 := bz4.size; omega); have sz5 := hgr.size; have n2 : ∀ q, (Value.slice sa2 _ sc2).ownBlock = some q → _ := fun q e2 => Or.elim hob (fun h => Or.inl (nE q (h.symm.trans e2))) (fun h => Or.inr (Option.some.inj (e2.symm.trans h))); have row1 := own_of_grown row1 hgr (fun q e e2 => by have h1 := n1 q e; have h2 := nE q e2; omega); have rowD := own_of_grown rowD hgr (fun q e e2 => by have h1 := nD q e; have h2 := nE q e2; omega); clear hgr hob)
                  refine hK.out _ _ ?_ (fun hHeld => ?_)
                  · exact (HS.out _ (HFW.out.then bz5)).1
                  clear hK K
                  (try simp only [Act.put, List.setIfInBounds_toArray, List.set_cons_zero, List.set_cons_succ])
                  refine wpAnyH_ready (rs := [31]) (by kernel_rfl) (by simp) ?_
                  refine AllReadyH.cons (o := { dst := some 142, op := Op.call { callee := Callee.builtin Builtin.append, args := #[Operand.tmp 138, Operand.tmp 141], argTypes := #[43, 43] }, type := 43, pos := "law.go:252", after := #[{ on := 27, ground := Ground.data }, { on := 30, ground := Ground.data }, { on := 27, ground := Ground.chain }, { on := 22, ground := Ground.guard }], guard := some (22, true) }) rfl (fun K hK => ?_) ?_
                  · (refine step_appNG (by rfl) _ _ _ (by rfl) _ 34 i0 _ 4 32 Try.underlying43 hi0' hz0 hz1 hz2 rfl (by decide) _ c _ (by rfl) row2 _ 1 _ (by rfl) (own_srcN rowD) (by intro u hu; simp only [ME.kyL, List.mem_cons, List.not_mem_nil, or_false] at hu; rcases hu with rfl | rfl | rfl | rfl <;> rfl) (by unfold maxLen; omega) (by omega) (by omega) ?_; intro v3 wz6 row3 hgr hob; obtain ⟨sa3, sc3, rfl⟩ := own_shape row3; have bz6 := bz5.grown hgr bz5.size (fun q e => by have h := n2 q e; have h0 := bz5.size; omega); have sz6 := hgr.size; have row1 := own_of_grown row1 hgr (fun q e e2 => by have h1 := n1 q e; have h2 := n2 q e2; omega); clear hgr hob)
                    refine hK.out _ _ ?_ (fun hHeld => ?_)
                    · exact (HS.out _ (HFW.out.then bz6)).1
                    clear hK K
                    (try simp only [Act.put, List.setIfInBounds_toArray, List.set_cons_zero, List.set_cons_succ])
                    refine wpAnyH_ready (rs := [32]) (by kernel_rfl) (by simp) ?_
                    refine AllReadyH.cons (o := { dst := some 143, op := Op.call { callee := Callee.value (Operand.func 20), args := #[Operand.tmp 135, Operand.tmp 142], argTypes := #[43, 43] }, type := 4, pos := "law.go:252", after := #[{ on := 24, ground := Ground.data }, { on := 31, ground := Ground.data }, { on := 31, ground := Ground.chain }, { on := 22, ground := Ground.guard }], guard := some (22, true) }) rfl (fun K hK => ?_) ?_
                    · (go_simp; go_at_call 20; refine (same_any wz6 (.slice ra n rc) (.slice sa3 (c + 1) sc3) ((P.eraseIdx k ++ [x]).map En.key) ((P.eraseIdx k ++ [x]).map En.key) (by rw [HLR.out]; exact own_srcN row1) (by rw [HLR.out, ← HNC.out, HKR.out]; exact own_srcN row3) (by rw [HLR.out]; omega) (by rw [HLR.out]; omega)).mono ?_; rintro u wz7 ⟨rfl, nq, hw⟩; rw [decide_eq_true rfl]; have bz7 : Below W1.heap.size W1 wz7 := (by rw [hw]; exact bnext bz6 ⟨rfl, rfl, rfl, Nat.le_refl _, fun _ _ => rfl⟩); clear hw; dsimp only)
                      refine hK.out _ _ ?_ (fun hHeld => ?_)
                      · exact (HS.out _ (HFW.out.then bz7)).1
                      clear hK K
                      (try simp only [Act.put, List.setIfInBounds_toArray, List.set_cons_zero, List.set_cons_succ])
                      refine wpAnyH_take (i := 33) (oi := { dst := some 144, op := Op.pick (Operand.tmp 133) (Operand.tmp 143) (Operand.const (Value.bool false)), type := 4, pos := "law.go:252", after := #[{ on := 22, ground := Ground.data }, { on := 32, ground := Ground.data }], guard := none }) (v := ?_) rfl (by kernel_rfl) (by kernel_rfl) (by kernel_rfl) (fun _ _ _ h => h) (Or.inl ⟨by rfl, ?_⟩) (by assumption) ?_
                      rotate_left
                      · ((intro w hSw; (try dsimp only at hSw); go_simp; (try rw [if_neg (by omega)])); try with_reducible rfl)
                      (try simp only [Act.put, List.setIfInBounds_toArray, List.set_cons_zero, List.set_cons_succ])
                      refine wpAnyH_take (i := 34) (oi := { dst := some 6, op := Op.assign (Operand.tmp 144), type := 4, pos := "law.go:252", after := #[{ on := 33, ground := Ground.data }, { on := 32, ground := Ground.chain }, { on := 0, ground := Ground.phase }, { on := 1, ground := Ground.phase }, { on := 2, ground := Ground.phase }, { on := 3, ground := Ground.phase }, { on := 4, ground := Ground.phase }, { on := 5, ground := Ground.phase }, { on := 6, ground := Ground.phase }, { on := 7, ground := Ground.phase }, { on := 8, ground := Ground.phase }, { on := 9, ground := Ground.phase }, { on := 10, ground := Ground.phase }, { on := 11, ground := Ground.phase }, { on := 12, ground := Ground.phase }, { on := 13, ground := Ground.phase }, { on := 14, ground := Ground.phase }, { on := 15, ground := Ground.phase }, { on := 16, ground := Ground.phase }, { on := 17, ground := Ground.phase }, { on := 18, ground := Ground.phase }, { on := 19, ground := Ground.phase }, { on := 20, ground := Ground.phase }, { on := 21, ground := Ground.phase }, { on := 22, ground := Ground.phase }, { on := 23, ground := Ground.phase }, { on := 24, ground := Ground.phase }, { on := 25, ground := Ground.phase }, { on := 26, ground := Ground.phase }, { on := 27, ground := Ground.phase }, { on := 28, ground := Ground.phase }, { on := 29, ground := Ground.phase }, { on := 30, ground := Ground.phase }, { on := 31, ground := Ground.phase }, { on := 32, ground := Ground.phase }, { on := 33, ground := Ground.phase }], guard := none }) (v := ?_) rfl (by kernel_rfl) (by kernel_rfl) (by kernel_rfl) (fun _ _ _ h => h) (Or.inl ⟨by rfl, ?_⟩) (by assumption) ?_
                      rotate_left
                      · ((intro w hSw; (try dsimp only at hSw); go_simp; (try rw [if_neg (by omega)])); try with_reducible rfl)
                      (try simp only [Act.put, List.setIfInBounds_toArray, List.set_cons_zero, List.set_cons_succ])
                      refine wpAnyH_done (by kernel_rfl) ?_ _
                      have HCU := Lib.hid (bnext (bnext (HVB.out wd SD.out.1) HWD.out) bz7)
                      go_wp2
                      go_ret
                      exact ⟨by simp, HCU.out⟩
                    exact AllReadyH.nil
                  exact AllReadyH.nil
                exact AllReadyH.nil
              exact AllReadyH.nil
            refine AllReadyH.cons (o := { dst := some 141, op := Op.buildSlice 43 1 #[(0, Operand.tmp 140)], type := 43, pos := "law.go:252", after := #[{ on := 29, ground := Ground.data }, { on := 22, ground := Ground.guard }], guard := some (22, true) }) rfl (fun K hK => ?_) ?_
            · (go_simp; have rowD := own_one wz2 (ME.kyL (x.f, x.k, x.n, x.r)) 34 rfl; have dz3 := balloc (Below.refl _ wz2) (.cells #[.int .i64 x.f, .int .i64 x.k, .int .i64 x.n, .int .i64 x.r] 34); change (wz2.alloc (.cells #[.int .i64 x.f, .int .i64 x.k, .int .i64 x.n, .int .i64 x.r] 34)).ownsRow _ _ _ _ _ _ at rowD; obtain ⟨wz3, hq⟩ : ∃ w', wz2.alloc (.cells #[.int .i64 x.f, .int .i64 x.k, .int .i64 x.n, .int .i64 x.r] 34) = w' := ⟨_, rfl⟩; rw [hq] at rowD dz3; rw [hq]; clear hq; have nD : ∀ q, (Value.slice (some ⟨wz2.heap.size, 0, none⟩) 1 1).ownBlock = some q → wz2.heap.size ≤ q ∧ q < wz3.heap.size := rowD.lt; have bz3 := bnext bz2 dz3; have sz3 := dz3.size; have row1 := own_below row1 dz3)
              refine hK.out _ _ ?_ (fun hHeld => ?_)
              · exact (HS.out _ (HFW.out.then bz3)).1
              clear hK K
              (try simp only [Act.put, List.setIfInBounds_toArray, List.set_cons_zero, List.set_cons_succ])
              refine wpAnyH_ready (rs := [25]) (by kernel_rfl) (by simp) ?_
              refine AllReadyH.cons (o := { dst := some 136, op := Op.buildSlice 43 0 #[], type := 43, pos := "law.go:252", after := #[{ on := 22, ground := Ground.guard }], guard := some (22, true) }) rfl (fun K hK => ?_) ?_
              · (go_simp; have rowE := own_empty wz3 34 4 wz3.heap.size (Nat.le_refl _); have dz4 := balloc (Below.refl _ wz3) (.cells #[] 34); obtain ⟨wz4, hq⟩ : ∃ w', wz3.alloc (.cells #[] 34) = w' := ⟨_, rfl⟩; rw [hq] at rowE dz4; rw [hq]; clear hq; have nE : ∀ q, (Value.slice (some ⟨wz3.heap.size, 0, none⟩) 0 0).ownBlock = some q → wz3.heap.size ≤ q ∧ q < wz4.heap.size := rowE.lt; have bz4 := bnext bz3 dz4; have sz4 := dz4.size; have row1 := own_below row1 dz4; have rowD := own_below rowD dz4)
                refine hK.out _ _ ?_ (fun hHeld => ?_)
                · exact (HS.out _ (HFW.out.then bz4)).1
                clear hK K
                (try simp only [Act.put, List.setIfInBounds_toArray, List.set_cons_zero, List.set_cons_succ])
                refine wpAnyH_ready (rs := [27]) (by kernel_rfl) (by simp) ?_
                refine AllReadyH.cons (o := { dst := some 138, op := Op.call { callee := Callee.builtin Builtin.append, args := #[Operand.tmp 136, Operand.tmp 137], argTypes := #[43, 43] }, type := 43, pos := "law.go:252", after := #[{ on := 25, ground := Ground.data }, { on := 26, ground := Ground.data }, { on := 24, ground := Ground.chain }, { on := 22, ground := Ground.guard }], guard := some (22, true) }) rfl (fun K hK => ?_) ?_
                · (refine step_appNG (by rfl) _ _ _ (by rfl) _ 34 i0 _ 4 32 Try.underlying43 hi0' hz0 hz1 hz2 rfl (by decide) _ 0 [] (by rfl) rowE _ c (ME.kc (ME.wk P k n)) (by rfl) ((HS.out _ (HFW.out.then bz4)).2.2) (kc_cells _) (by unfold maxLen; omega) (by omega) (by omega) ?_; intro v2 wz5 row2 hgr hob; rw [Nat.zero_add, List.nil_append] at row2; obtain ⟨sa2, sc2, rfl⟩ := own_shape row2; have bz5 := bz4.grown hgr bz4.size (fun q e => by have h := nE q e; have h0 := bz4.size; omega); have sz5 := hgr.size; have n2 : ∀ q, (Value.slice sa2 _ sc2).ownBlock = some q → _ := fun q e2 => Or.elim hob (fun h => Or.inl (nE q (h.symm.trans e2))) (fun h => Or.inr (Option.some.inj (e2.symm.trans h))); have row1 := own_of_grown row1 hgr (fun q e e2 => by have h1 := n1 q e; have h2 := nE q e2; omega); have rowD := own_of_grown rowD hgr (fun q e e2 => by have h1 := nD q e; have h2 := nE q e2; omega); clear hgr hob)
                  refine hK.out _ _ ?_ (fun hHeld => ?_)
                  · exact (HS.out _ (HFW.out.then bz5)).1
                  clear hK K
                  (try simp only [Act.put, List.setIfInBounds_toArray, List.set_cons_zero, List.set_cons_succ])
                  refine wpAnyH_ready (rs := [31]) (by kernel_rfl) (by simp) ?_
                  refine AllReadyH.cons (o := { dst := some 142, op := Op.call { callee := Callee.builtin Builtin.append, args := #[Operand.tmp 138, Operand.tmp 141], argTypes := #[43, 43] }, type := 43, pos := "law.go:252", after := #[{ on := 27, ground := Ground.data }, { on := 30, ground := Ground.data }, { on := 27, ground := Ground.chain }, { on := 22, ground := Ground.guard }], guard := some (22, true) }) rfl (fun K hK => ?_) ?_
                  · (refine step_appNG (by rfl) _ _ _ (by rfl) _ 34 i0 _ 4 32 Try.underlying43 hi0' hz0 hz1 hz2 rfl (by decide) _ c _ (by rfl) row2 _ 1 _ (by rfl) (own_srcN rowD) (by intro u hu; simp only [ME.kyL, List.mem_cons, List.not_mem_nil, or_false] at hu; rcases hu with rfl | rfl | rfl | rfl <;> rfl) (by unfold maxLen; omega) (by omega) (by omega) ?_; intro v3 wz6 row3 hgr hob; obtain ⟨sa3, sc3, rfl⟩ := own_shape row3; have bz6 := bz5.grown hgr bz5.size (fun q e => by have h := n2 q e; have h0 := bz5.size; omega); have sz6 := hgr.size; have row1 := own_of_grown row1 hgr (fun q e e2 => by have h1 := n1 q e; have h2 := n2 q e2; omega); clear hgr hob)
                    refine hK.out _ _ ?_ (fun hHeld => ?_)
                    · exact (HS.out _ (HFW.out.then bz6)).1
                    clear hK K
                    (try simp only [Act.put, List.setIfInBounds_toArray, List.set_cons_zero, List.set_cons_succ])
                    refine wpAnyH_ready (rs := [32]) (by kernel_rfl) (by simp) ?_
                    refine AllReadyH.cons (o := { dst := some 143, op := Op.call { callee := Callee.value (Operand.func 20), args := #[Operand.tmp 135, Operand.tmp 142], argTypes := #[43, 43] }, type := 4, pos := "law.go:252", after := #[{ on := 24, ground := Ground.data }, { on := 31, ground := Ground.data }, { on := 31, ground := Ground.chain }, { on := 22, ground := Ground.guard }], guard := some (22, true) }) rfl (fun K hK => ?_) ?_
                    · (go_simp; go_at_call 20; refine (same_any wz6 (.slice ra n rc) (.slice sa3 (c + 1) sc3) ((P.eraseIdx k ++ [x]).map En.key) ((P.eraseIdx k ++ [x]).map En.key) (by rw [HLR.out]; exact own_srcN row1) (by rw [HLR.out, ← HNC.out, HKR.out]; exact own_srcN row3) (by rw [HLR.out]; omega) (by rw [HLR.out]; omega)).mono ?_; rintro u wz7 ⟨rfl, nq, hw⟩; rw [decide_eq_true rfl]; have bz7 : Below W1.heap.size W1 wz7 := (by rw [hw]; exact bnext bz6 ⟨rfl, rfl, rfl, Nat.le_refl _, fun _ _ => rfl⟩); clear hw; dsimp only)
                      refine hK.out _ _ ?_ (fun hHeld => ?_)
                      · exact (HS.out _ (HFW.out.then bz7)).1
                      clear hK K
                      (try simp only [Act.put, List.setIfInBounds_toArray, List.set_cons_zero, List.set_cons_succ])
                      refine wpAnyH_take (i := 33) (oi := { dst := some 144, op := Op.pick (Operand.tmp 133) (Operand.tmp 143) (Operand.const (Value.bool false)), type := 4, pos := "law.go:252", after := #[{ on := 22, ground := Ground.data }, { on := 32, ground := Ground.data }], guard := none }) (v := ?_) rfl (by kernel_rfl) (by kernel_rfl) (by kernel_rfl) (fun _ _ _ h => h) (Or.inl ⟨by rfl, ?_⟩) (by assumption) ?_
                      rotate_left
                      · ((intro w hSw; (try dsimp only at hSw); go_simp; (try rw [if_neg (by omega)])); try with_reducible rfl)
                      (try simp only [Act.put, List.setIfInBounds_toArray, List.set_cons_zero, List.set_cons_succ])
                      refine wpAnyH_take (i := 34) (oi := { dst := some 6, op := Op.assign (Operand.tmp 144), type := 4, pos := "law.go:252", after := #[{ on := 33, ground := Ground.data }, { on := 32, ground := Ground.chain }, { on := 0, ground := Ground.phase }, { on := 1, ground := Ground.phase }, { on := 2, ground := Ground.phase }, { on := 3, ground := Ground.phase }, { on := 4, ground := Ground.phase }, { on := 5, ground := Ground.phase }, { on := 6, ground := Ground.phase }, { on := 7, ground := Ground.phase }, { on := 8, ground := Ground.phase }, { on := 9, ground := Ground.phase }, { on := 10, ground := Ground.phase }, { on := 11, ground := Ground.phase }, { on := 12, ground := Ground.phase }, { on := 13, ground := Ground.phase }, { on := 14, ground := Ground.phase }, { on := 15, ground := Ground.phase }, { on := 16, ground := Ground.phase }, { on := 17, ground := Ground.phase }, { on := 18, ground := Ground.phase }, { on := 19, ground := Ground.phase }, { on := 20, ground := Ground.phase }, { on := 21, ground := Ground.phase }, { on := 22, ground := Ground.phase }, { on := 23, ground := Ground.phase }, { on := 24, ground := Ground.phase }, { on := 25, ground := Ground.phase }, { on := 26, ground := Ground.phase }, { on := 27, ground := Ground.phase }, { on := 28, ground := Ground.phase }, { on := 29, ground := Ground.phase }, { on := 30, ground := Ground.phase }, { on := 31, ground := Ground.phase }, { on := 32, ground := Ground.phase }, { on := 33, ground := Ground.phase }], guard := none }) (v := ?_) rfl (by kernel_rfl) (by kernel_rfl) (by kernel_rfl) (fun _ _ _ h => h) (Or.inl ⟨by rfl, ?_⟩) (by assumption) ?_
                      rotate_left
                      · ((intro w hSw; (try dsimp only at hSw); go_simp; (try rw [if_neg (by omega)])); try with_reducible rfl)
                      (try simp only [Act.put, List.setIfInBounds_toArray, List.set_cons_zero, List.set_cons_succ])
                      refine wpAnyH_done (by kernel_rfl) ?_ _
                      have HCU := Lib.hid (bnext (bnext (HVB.out wd SD.out.1) HWD.out) bz7)
                      go_wp2
                      go_ret
                      exact ⟨by simp, HCU.out⟩
                    exact AllReadyH.nil
                  exact AllReadyH.nil
                exact AllReadyH.nil
              exact AllReadyH.nil
            exact AllReadyH.nil
          refine AllReadyH.cons (o := { dst := some 136, op := Op.buildSlice 43 0 #[], type := 43, pos := "law.go:252", after := #[{ on := 22, ground := Ground.guard }], guard := some (22, true) }) rfl (fun K hK => ?_) ?_
          · (go_simp; have rowE := own_empty wz1 34 4 wz1.heap.size (Nat.le_refl _); have dz2 := balloc (Below.refl _ wz1) (.cells #[] 34); obtain ⟨wz2, hq⟩ : ∃ w', wz1.alloc (.cells #[] 34) = w' := ⟨_, rfl⟩; rw [hq] at rowE dz2; rw [hq]; clear hq; have nE : ∀ q, (Value.slice (some ⟨wz1.heap.size, 0, none⟩) 0 0).ownBlock = some q → wz1.heap.size ≤ q ∧ q < wz2.heap.size := rowE.lt; have bz2 := bnext bz1 dz2; have sz2 := dz2.size)
            refine hK.out _ _ ?_ (fun hHeld => ?_)
            · exact (HS.out _ (HFW.out.then bz2)).1
            clear hK K
            (try simp only [Act.put, List.setIfInBounds_toArray, List.set_cons_zero, List.set_cons_succ])
            refine wpAnyH_ready (rs := [24, 30]) (by kernel_rfl) (by simp) ?_
            refine AllReadyH.cons (o := { dst := some 135, op := Op.call { callee := Callee.value (Operand.func 18), args := #[Operand.tmp 134], argTypes := #[24] }, type := 43, pos := "law.go:252", after := #[{ on := 23, ground := Ground.data }, { on := 22, ground := Ground.chain }, { on := 22, ground := Ground.guard }], guard := some (22, true) }) rfl (fun K hK => ?_) ?_
            · (go_simp; go_at_call 18; refine (HL.out wz2 bz2).mono ?_; rintro u wz3 ⟨v1, rfl, row1, dz3⟩; obtain ⟨ra, rc, rfl⟩ := own_shape row1; have n1 : ∀ q, (Value.slice ra n rc).ownBlock = some q → wz2.heap.size ≤ q ∧ q < wz3.heap.size := row1.lt; have bz3 := bnext bz2 dz3; have sz3 := dz3.size; have rowE := own_below rowE dz3; dsimp only)
              refine hK.out _ _ ?_ (fun hHeld => ?_)
              · exact (HS.out _ (HFW.out.then bz3)).1
              clear hK K
              (try simp only [Act.put, List.setIfInBounds_toArray, List.set_cons_zero, List.set_cons_succ])
              refine wpAnyH_ready (rs := [27, 30]) (by kernel_rfl) (by simp) ?_
              refine AllReadyH.cons (o := { dst := some 138, op := Op.call { callee := Callee.builtin Builtin.append, args := #[Operand.tmp 136, Operand.tmp 137], argTypes := #[43, 43] }, type := 43, pos := "law.go:252", after := #[{ on := 25, ground := Ground.data }, { on := 26, ground := Ground.data }, { on := 24, ground := Ground.chain }, { on := 22, ground := Ground.guard }], guard := some (22, true) }) rfl (fun K hK => ?_) ?_
              · (refine step_appNG (by rfl) _ _ _ (by rfl) _ 34 i0 _ 4 32 Try.underlying43 hi0' hz0 hz1 hz2 rfl (by decide) _ 0 [] (by rfl) rowE _ c (ME.kc (ME.wk P k n)) (by rfl) ((HS.out _ (HFW.out.then bz3)).2.2) (kc_cells _) (by unfold maxLen; omega) (by omega) (by omega) ?_; intro v2 wz4 row2 hgr hob; rw [Nat.zero_add, List.nil_append] at row2; obtain ⟨sa2, sc2, rfl⟩ := own_shape row2; have bz4 := bz3.grown hgr bz3.size (fun q e => by have h := nE q e; have h0 := bz3.size; omega); have sz4 := hgr.size; have n2 : ∀ q, (Value.slice sa2 _ sc2).ownBlock = some q → _ := fun q e2 => Or.elim hob (fun h => Or.inl (nE q (h.symm.trans e2))) (fun h => Or.inr (Option.some.inj (e2.symm.trans h))); have row1 := own_of_grown row1 hgr (fun q e e2 => by have h1 := n1 q e; have h2 := nE q e2; omega); clear hgr hob)
                refine hK.out _ _ ?_ (fun hHeld => ?_)
                · exact (HS.out _ (HFW.out.then bz4)).1
                clear hK K
                (try simp only [Act.put, List.setIfInBounds_toArray, List.set_cons_zero, List.set_cons_succ])
                refine wpAnyH_ready (rs := [30]) (by kernel_rfl) (by simp) ?_
                refine AllReadyH.cons (o := { dst := some 141, op := Op.buildSlice 43 1 #[(0, Operand.tmp 140)], type := 43, pos := "law.go:252", after := #[{ on := 29, ground := Ground.data }, { on := 22, ground := Ground.guard }], guard := some (22, true) }) rfl (fun K hK => ?_) ?_
                · (go_simp; have rowD := own_one wz4 (ME.kyL (x.f, x.k, x.n, x.r)) 34 rfl; have dz5 := balloc (Below.refl _ wz4) (.cells #[.int .i64 x.f, .int .i64 x.k, .int .i64 x.n, .int .i64 x.r] 34); change (wz4.alloc (.cells #[.int .i64 x.f, .int .i64 x.k, .int .i64 x.n, .int .i64 x.r] 34)).ownsRow _ _ _ _ _ _ at rowD; obtain ⟨wz5, hq⟩ : ∃ w', wz4.alloc (.cells #[.int .i64 x.f, .int .i64 x.k, .int .i64 x.n, .int .i64 x.r] 34) = w' := ⟨_, rfl⟩; rw [hq] at rowD dz5; rw [hq]; clear hq; have nD : ∀ q, (Value.slice (some ⟨wz4.heap.size, 0, none⟩) 1 1).ownBlock = some q → wz4.heap.size ≤ q ∧ q < wz5.heap.size := rowD.lt; have bz5 := bnext bz4 dz5; have sz5 := dz5.size; have row1 := own_below row1 dz5; have row2 := own_below row2 dz5)
                  refine hK.out _ _ ?_ (fun hHeld => ?_)
                  · exact (HS.out _ (HFW.out.then bz5)).1
                  clear hK K
                  (try simp only [Act.put, List.setIfInBounds_toArray, List.set_cons_zero, List.set_cons_succ])
                  refine wpAnyH_ready (rs := [31]) (by kernel_rfl) (by simp) ?_
                  refine AllReadyH.cons (o := { dst := some 142, op := Op.call { callee := Callee.builtin Builtin.append, args := #[Operand.tmp 138, Operand.tmp 141], argTypes := #[43, 43] }, type := 43, pos := "law.go:252", after := #[{ on := 27, ground := Ground.data }, { on := 30, ground := Ground.data }, { on := 27, ground := Ground.chain }, { on := 22, ground := Ground.guard }], guard := some (22, true) }) rfl (fun K hK => ?_) ?_
                  · (refine step_appNG (by rfl) _ _ _ (by rfl) _ 34 i0 _ 4 32 Try.underlying43 hi0' hz0 hz1 hz2 rfl (by decide) _ c _ (by rfl) row2 _ 1 _ (by rfl) (own_srcN rowD) (by intro u hu; simp only [ME.kyL, List.mem_cons, List.not_mem_nil, or_false] at hu; rcases hu with rfl | rfl | rfl | rfl <;> rfl) (by unfold maxLen; omega) (by omega) (by omega) ?_; intro v3 wz6 row3 hgr hob; obtain ⟨sa3, sc3, rfl⟩ := own_shape row3; have bz6 := bz5.grown hgr bz5.size (fun q e => by have h := n2 q e; have h0 := bz5.size; omega); have sz6 := hgr.size; have row1 := own_of_grown row1 hgr (fun q e e2 => by have h1 := n1 q e; have h2 := n2 q e2; omega); clear hgr hob)
                    refine hK.out _ _ ?_ (fun hHeld => ?_)
                    · exact (HS.out _ (HFW.out.then bz6)).1
                    clear hK K
                    (try simp only [Act.put, List.setIfInBounds_toArray, List.set_cons_zero, List.set_cons_succ])
                    refine wpAnyH_ready (rs := [32]) (by kernel_rfl) (by simp) ?_
                    refine AllReadyH.cons (o := { dst := some 143, op := Op.call { callee := Callee.value (Operand.func 20), args := #[Operand.tmp 135, Operand.tmp 142], argTypes := #[43, 43] }, type := 4, pos := "law.go:252", after := #[{ on := 24, ground := Ground.data }, { on := 31, ground := Ground.data }, { on := 31, ground := Ground.chain }, { on := 22, ground := Ground.guard }], guard := some (22, true) }) rfl (fun K hK => ?_) ?_
                    · (go_simp; go_at_call 20; refine (same_any wz6 (.slice ra n rc) (.slice sa3 (c + 1) sc3) ((P.eraseIdx k ++ [x]).map En.key) ((P.eraseIdx k ++ [x]).map En.key) (by rw [HLR.out]; exact own_srcN row1) (by rw [HLR.out, ← HNC.out, HKR.out]; exact own_srcN row3) (by rw [HLR.out]; omega) (by rw [HLR.out]; omega)).mono ?_; rintro u wz7 ⟨rfl, nq, hw⟩; rw [decide_eq_true rfl]; have bz7 : Below W1.heap.size W1 wz7 := (by rw [hw]; exact bnext bz6 ⟨rfl, rfl, rfl, Nat.le_refl _, fun _ _ => rfl⟩); clear hw; dsimp only)
                      refine hK.out _ _ ?_ (fun hHeld => ?_)
                      · exact (HS.out _ (HFW.out.then bz7)).1
                      clear hK K
                      (try simp only [Act.put, List.setIfInBounds_toArray, List.set_cons_zero, List.set_cons_succ])
                      refine wpAnyH_take (i := 33) (oi := { dst := some 144, op := Op.pick (Operand.tmp 133) (Operand.tmp 143) (Operand.const (Value.bool false)), type := 4, pos := "law.go:252", after := #[{ on := 22, ground := Ground.data }, { on := 32, ground := Ground.data }], guard := none }) (v := ?_) rfl (by kernel_rfl) (by kernel_rfl) (by kernel_rfl) (fun _ _ _ h => h) (Or.inl ⟨by rfl, ?_⟩) (by assumption) ?_
                      rotate_left
                      · ((intro w hSw; (try dsimp only at hSw); go_simp; (try rw [if_neg (by omega)])); try with_reducible rfl)
                      (try simp only [Act.put, List.setIfInBounds_toArray, List.set_cons_zero, List.set_cons_succ])
                      refine wpAnyH_take (i := 34) (oi := { dst := some 6, op := Op.assign (Operand.tmp 144), type := 4, pos := "law.go:252", after := #[{ on := 33, ground := Ground.data }, { on := 32, ground := Ground.chain }, { on := 0, ground := Ground.phase }, { on := 1, ground := Ground.phase }, { on := 2, ground := Ground.phase }, { on := 3, ground := Ground.phase }, { on := 4, ground := Ground.phase }, { on := 5, ground := Ground.phase }, { on := 6, ground := Ground.phase }, { on := 7, ground := Ground.phase }, { on := 8, ground := Ground.phase }, { on := 9, ground := Ground.phase }, { on := 10, ground := Ground.phase }, { on := 11, ground := Ground.phase }, { on := 12, ground := Ground.phase }, { on := 13, ground := Ground.phase }, { on := 14, ground := Ground.phase }, { on := 15, ground := Ground.phase }, { on := 16, ground := Ground.phase }, { on := 17, ground := Ground.phase }, { on := 18, ground := Ground.phase }, { on := 19, ground := Ground.phase }, { on := 20, ground := Ground.phase }, { on := 21, ground := Ground.phase }, { on := 22, ground := Ground.phase }, { on := 23, ground := Ground.phase }, { on := 24, ground := Ground.phase }, { on := 25, ground := Ground.phase }, { on := 26, ground := Ground.phase }, { on := 27, ground := Ground.phase }, { on := 28, ground := Ground.phase }, { on := 29, ground := Ground.phase }, { on := 30, ground := Ground.phase }, { on := 31, ground := Ground.phase }, { on := 32, ground := Ground.phase }, { on := 33, ground := Ground.phase }], guard := none }) (v := ?_) rfl (by kernel_rfl) (by kernel_rfl) (by kernel_rfl) (fun _ _ _ h => h) (Or.inl ⟨by rfl, ?_⟩) (by assumption) ?_
                      rotate_left
                      · ((intro w hSw; (try dsimp only at hSw); go_simp; (try rw [if_neg (by omega)])); try with_reducible rfl)
                      (try simp only [Act.put, List.setIfInBounds_toArray, List.set_cons_zero, List.set_cons_succ])
                      refine wpAnyH_done (by kernel_rfl) ?_ _
                      have HCU := Lib.hid (bnext (bnext (HVB.out wd SD.out.1) HWD.out) bz7)
                      go_wp2
                      go_ret
                      exact ⟨by simp, HCU.out⟩
                    exact AllReadyH.nil
                  exact AllReadyH.nil
                exact AllReadyH.nil
              refine AllReadyH.cons (o := { dst := some 141, op := Op.buildSlice 43 1 #[(0, Operand.tmp 140)], type := 43, pos := "law.go:252", after := #[{ on := 29, ground := Ground.data }, { on := 22, ground := Ground.guard }], guard := some (22, true) }) rfl (fun K hK => ?_) ?_
              · (go_simp; have rowD := own_one wz3 (ME.kyL (x.f, x.k, x.n, x.r)) 34 rfl; have dz4 := balloc (Below.refl _ wz3) (.cells #[.int .i64 x.f, .int .i64 x.k, .int .i64 x.n, .int .i64 x.r] 34); change (wz3.alloc (.cells #[.int .i64 x.f, .int .i64 x.k, .int .i64 x.n, .int .i64 x.r] 34)).ownsRow _ _ _ _ _ _ at rowD; obtain ⟨wz4, hq⟩ : ∃ w', wz3.alloc (.cells #[.int .i64 x.f, .int .i64 x.k, .int .i64 x.n, .int .i64 x.r] 34) = w' := ⟨_, rfl⟩; rw [hq] at rowD dz4; rw [hq]; clear hq; have nD : ∀ q, (Value.slice (some ⟨wz3.heap.size, 0, none⟩) 1 1).ownBlock = some q → wz3.heap.size ≤ q ∧ q < wz4.heap.size := rowD.lt; have bz4 := bnext bz3 dz4; have sz4 := dz4.size; have row1 := own_below row1 dz4; have rowE := own_below rowE dz4)
                refine hK.out _ _ ?_ (fun hHeld => ?_)
                · exact (HS.out _ (HFW.out.then bz4)).1
                clear hK K
                (try simp only [Act.put, List.setIfInBounds_toArray, List.set_cons_zero, List.set_cons_succ])
                refine wpAnyH_ready (rs := [27]) (by kernel_rfl) (by simp) ?_
                refine AllReadyH.cons (o := { dst := some 138, op := Op.call { callee := Callee.builtin Builtin.append, args := #[Operand.tmp 136, Operand.tmp 137], argTypes := #[43, 43] }, type := 43, pos := "law.go:252", after := #[{ on := 25, ground := Ground.data }, { on := 26, ground := Ground.data }, { on := 24, ground := Ground.chain }, { on := 22, ground := Ground.guard }], guard := some (22, true) }) rfl (fun K hK => ?_) ?_
                · (refine step_appNG (by rfl) _ _ _ (by rfl) _ 34 i0 _ 4 32 Try.underlying43 hi0' hz0 hz1 hz2 rfl (by decide) _ 0 [] (by rfl) rowE _ c (ME.kc (ME.wk P k n)) (by rfl) ((HS.out _ (HFW.out.then bz4)).2.2) (kc_cells _) (by unfold maxLen; omega) (by omega) (by omega) ?_; intro v2 wz5 row2 hgr hob; rw [Nat.zero_add, List.nil_append] at row2; obtain ⟨sa2, sc2, rfl⟩ := own_shape row2; have bz5 := bz4.grown hgr bz4.size (fun q e => by have h := nE q e; have h0 := bz4.size; omega); have sz5 := hgr.size; have n2 : ∀ q, (Value.slice sa2 _ sc2).ownBlock = some q → _ := fun q e2 => Or.elim hob (fun h => Or.inl (nE q (h.symm.trans e2))) (fun h => Or.inr (Option.some.inj (e2.symm.trans h))); have row1 := own_of_grown row1 hgr (fun q e e2 => by have h1 := n1 q e; have h2 := nE q e2; omega); have rowD := own_of_grown rowD hgr (fun q e e2 => by have h1 := nD q e; have h2 := nE q e2; omega); clear hgr hob)
                  refine hK.out _ _ ?_ (fun hHeld => ?_)
                  · exact (HS.out _ (HFW.out.then bz5)).1
                  clear hK K
                  (try simp only [Act.put, List.setIfInBounds_toArray, List.set_cons_zero, List.set_cons_succ])
                  refine wpAnyH_ready (rs := [31]) (by kernel_rfl) (by simp) ?_
                  refine AllReadyH.cons (o := { dst := some 142, op := Op.call { callee := Callee.builtin Builtin.append, args := #[Operand.tmp 138, Operand.tmp 141], argTypes := #[43, 43] }, type := 43, pos := "law.go:252", after := #[{ on := 27, ground := Ground.data }, { on := 30, ground := Ground.data }, { on := 27, ground := Ground.chain }, { on := 22, ground := Ground.guard }], guard := some (22, true) }) rfl (fun K hK => ?_) ?_
                  · (refine step_appNG (by rfl) _ _ _ (by rfl) _ 34 i0 _ 4 32 Try.underlying43 hi0' hz0 hz1 hz2 rfl (by decide) _ c _ (by rfl) row2 _ 1 _ (by rfl) (own_srcN rowD) (by intro u hu; simp only [ME.kyL, List.mem_cons, List.not_mem_nil, or_false] at hu; rcases hu with rfl | rfl | rfl | rfl <;> rfl) (by unfold maxLen; omega) (by omega) (by omega) ?_; intro v3 wz6 row3 hgr hob; obtain ⟨sa3, sc3, rfl⟩ := own_shape row3; have bz6 := bz5.grown hgr bz5.size (fun q e => by have h := n2 q e; have h0 := bz5.size; omega); have sz6 := hgr.size; have row1 := own_of_grown row1 hgr (fun q e e2 => by have h1 := n1 q e; have h2 := n2 q e2; omega); clear hgr hob)
                    refine hK.out _ _ ?_ (fun hHeld => ?_)
                    · exact (HS.out _ (HFW.out.then bz6)).1
                    clear hK K
                    (try simp only [Act.put, List.setIfInBounds_toArray, List.set_cons_zero, List.set_cons_succ])
                    refine wpAnyH_ready (rs := [32]) (by kernel_rfl) (by simp) ?_
                    refine AllReadyH.cons (o := { dst := some 143, op := Op.call { callee := Callee.value (Operand.func 20), args := #[Operand.tmp 135, Operand.tmp 142], argTypes := #[43, 43] }, type := 4, pos := "law.go:252", after := #[{ on := 24, ground := Ground.data }, { on := 31, ground := Ground.data }, { on := 31, ground := Ground.chain }, { on := 22, ground := Ground.guard }], guard := some (22, true) }) rfl (fun K hK => ?_) ?_
                    · (go_simp; go_at_call 20; refine (same_any wz6 (.slice ra n rc) (.slice sa3 (c + 1) sc3) ((P.eraseIdx k ++ [x]).map En.key) ((P.eraseIdx k ++ [x]).map En.key) (by rw [HLR.out]; exact own_srcN row1) (by rw [HLR.out, ← HNC.out, HKR.out]; exact own_srcN row3) (by rw [HLR.out]; omega) (by rw [HLR.out]; omega)).mono ?_; rintro u wz7 ⟨rfl, nq, hw⟩; rw [decide_eq_true rfl]; have bz7 : Below W1.heap.size W1 wz7 := (by rw [hw]; exact bnext bz6 ⟨rfl, rfl, rfl, Nat.le_refl _, fun _ _ => rfl⟩); clear hw; dsimp only)
                      refine hK.out _ _ ?_ (fun hHeld => ?_)
                      · exact (HS.out _ (HFW.out.then bz7)).1
                      clear hK K
                      (try simp only [Act.put, List.setIfInBounds_toArray, List.set_cons_zero, List.set_cons_succ])
                      refine wpAnyH_take (i := 33) (oi := { dst := some 144, op := Op.pick (Operand.tmp 133) (Operand.tmp 143) (Operand.const (Value.bool false)), type := 4, pos := "law.go:252", after := #[{ on := 22, ground := Ground.data }, { on := 32, ground := Ground.data }], guard := none }) (v := ?_) rfl (by kernel_rfl) (by kernel_rfl) (by kernel_rfl) (fun _ _ _ h => h) (Or.inl ⟨by rfl, ?_⟩) (by assumption) ?_
                      rotate_left
                      · ((intro w hSw; (try dsimp only at hSw); go_simp; (try rw [if_neg (by omega)])); try with_reducible rfl)
                      (try simp only [Act.put, List.setIfInBounds_toArray, List.set_cons_zero, List.set_cons_succ])
                      refine wpAnyH_take (i := 34) (oi := { dst := some 6, op := Op.assign (Operand.tmp 144), type := 4, pos := "law.go:252", after := #[{ on := 33, ground := Ground.data }, { on := 32, ground := Ground.chain }, { on := 0, ground := Ground.phase }, { on := 1, ground := Ground.phase }, { on := 2, ground := Ground.phase }, { on := 3, ground := Ground.phase }, { on := 4, ground := Ground.phase }, { on := 5, ground := Ground.phase }, { on := 6, ground := Ground.phase }, { on := 7, ground := Ground.phase }, { on := 8, ground := Ground.phase }, { on := 9, ground := Ground.phase }, { on := 10, ground := Ground.phase }, { on := 11, ground := Ground.phase }, { on := 12, ground := Ground.phase }, { on := 13, ground := Ground.phase }, { on := 14, ground := Ground.phase }, { on := 15, ground := Ground.phase }, { on := 16, ground := Ground.phase }, { on := 17, ground := Ground.phase }, { on := 18, ground := Ground.phase }, { on := 19, ground := Ground.phase }, { on := 20, ground := Ground.phase }, { on := 21, ground := Ground.phase }, { on := 22, ground := Ground.phase }, { on := 23, ground := Ground.phase }, { on := 24, ground := Ground.phase }, { on := 25, ground := Ground.phase }, { on := 26, ground := Ground.phase }, { on := 27, ground := Ground.phase }, { on := 28, ground := Ground.phase }, { on := 29, ground := Ground.phase }, { on := 30, ground := Ground.phase }, { on := 31, ground := Ground.phase }, { on := 32, ground := Ground.phase }, { on := 33, ground := Ground.phase }], guard := none }) (v := ?_) rfl (by kernel_rfl) (by kernel_rfl) (by kernel_rfl) (fun _ _ _ h => h) (Or.inl ⟨by rfl, ?_⟩) (by assumption) ?_
                      rotate_left
                      · ((intro w hSw; (try dsimp only at hSw); go_simp; (try rw [if_neg (by omega)])); try with_reducible rfl)
                      (try simp only [Act.put, List.setIfInBounds_toArray, List.set_cons_zero, List.set_cons_succ])
                      refine wpAnyH_done (by kernel_rfl) ?_ _
                      have HCU := Lib.hid (bnext (bnext (HVB.out wd SD.out.1) HWD.out) bz7)
                      go_wp2
                      go_ret
                      exact ⟨by simp, HCU.out⟩
                    exact AllReadyH.nil
                  exact AllReadyH.nil
                exact AllReadyH.nil
              exact AllReadyH.nil
            refine AllReadyH.cons (o := { dst := some 141, op := Op.buildSlice 43 1 #[(0, Operand.tmp 140)], type := 43, pos := "law.go:252", after := #[{ on := 29, ground := Ground.data }, { on := 22, ground := Ground.guard }], guard := some (22, true) }) rfl (fun K hK => ?_) ?_
            · (go_simp; have rowD := own_one wz2 (ME.kyL (x.f, x.k, x.n, x.r)) 34 rfl; have dz3 := balloc (Below.refl _ wz2) (.cells #[.int .i64 x.f, .int .i64 x.k, .int .i64 x.n, .int .i64 x.r] 34); change (wz2.alloc (.cells #[.int .i64 x.f, .int .i64 x.k, .int .i64 x.n, .int .i64 x.r] 34)).ownsRow _ _ _ _ _ _ at rowD; obtain ⟨wz3, hq⟩ : ∃ w', wz2.alloc (.cells #[.int .i64 x.f, .int .i64 x.k, .int .i64 x.n, .int .i64 x.r] 34) = w' := ⟨_, rfl⟩; rw [hq] at rowD dz3; rw [hq]; clear hq; have nD : ∀ q, (Value.slice (some ⟨wz2.heap.size, 0, none⟩) 1 1).ownBlock = some q → wz2.heap.size ≤ q ∧ q < wz3.heap.size := rowD.lt; have bz3 := bnext bz2 dz3; have sz3 := dz3.size; have rowE := own_below rowE dz3)
              refine hK.out _ _ ?_ (fun hHeld => ?_)
              · exact (HS.out _ (HFW.out.then bz3)).1
              clear hK K
              (try simp only [Act.put, List.setIfInBounds_toArray, List.set_cons_zero, List.set_cons_succ])
              refine wpAnyH_ready (rs := [24]) (by kernel_rfl) (by simp) ?_
              refine AllReadyH.cons (o := { dst := some 135, op := Op.call { callee := Callee.value (Operand.func 18), args := #[Operand.tmp 134], argTypes := #[24] }, type := 43, pos := "law.go:252", after := #[{ on := 23, ground := Ground.data }, { on := 22, ground := Ground.chain }, { on := 22, ground := Ground.guard }], guard := some (22, true) }) rfl (fun K hK => ?_) ?_
              · (go_simp; go_at_call 18; refine (HL.out wz3 bz3).mono ?_; rintro u wz4 ⟨v1, rfl, row1, dz4⟩; obtain ⟨ra, rc, rfl⟩ := own_shape row1; have n1 : ∀ q, (Value.slice ra n rc).ownBlock = some q → wz3.heap.size ≤ q ∧ q < wz4.heap.size := row1.lt; have bz4 := bnext bz3 dz4; have sz4 := dz4.size; have rowD := own_below rowD dz4; have rowE := own_below rowE dz4; dsimp only)
                refine hK.out _ _ ?_ (fun hHeld => ?_)
                · exact (HS.out _ (HFW.out.then bz4)).1
                clear hK K
                (try simp only [Act.put, List.setIfInBounds_toArray, List.set_cons_zero, List.set_cons_succ])
                refine wpAnyH_ready (rs := [27]) (by kernel_rfl) (by simp) ?_
                refine AllReadyH.cons (o := { dst := some 138, op := Op.call { callee := Callee.builtin Builtin.append, args := #[Operand.tmp 136, Operand.tmp 137], argTypes := #[43, 43] }, type := 43, pos := "law.go:252", after := #[{ on := 25, ground := Ground.data }, { on := 26, ground := Ground.data }, { on := 24, ground := Ground.chain }, { on := 22, ground := Ground.guard }], guard := some (22, true) }) rfl (fun K hK => ?_) ?_
                · (refine step_appNG (by rfl) _ _ _ (by rfl) _ 34 i0 _ 4 32 Try.underlying43 hi0' hz0 hz1 hz2 rfl (by decide) _ 0 [] (by rfl) rowE _ c (ME.kc (ME.wk P k n)) (by rfl) ((HS.out _ (HFW.out.then bz4)).2.2) (kc_cells _) (by unfold maxLen; omega) (by omega) (by omega) ?_; intro v2 wz5 row2 hgr hob; rw [Nat.zero_add, List.nil_append] at row2; obtain ⟨sa2, sc2, rfl⟩ := own_shape row2; have bz5 := bz4.grown hgr bz4.size (fun q e => by have h := nE q e; have h0 := bz4.size; omega); have sz5 := hgr.size; have n2 : ∀ q, (Value.slice sa2 _ sc2).ownBlock = some q → _ := fun q e2 => Or.elim hob (fun h => Or.inl (nE q (h.symm.trans e2))) (fun h => Or.inr (Option.some.inj (e2.symm.trans h))); have row1 := own_of_grown row1 hgr (fun q e e2 => by have h1 := n1 q e; have h2 := nE q e2; omega); have rowD := own_of_grown rowD hgr (fun q e e2 => by have h1 := nD q e; have h2 := nE q e2; omega); clear hgr hob)
                  refine hK.out _ _ ?_ (fun hHeld => ?_)
                  · exact (HS.out _ (HFW.out.then bz5)).1
                  clear hK K
                  (try simp only [Act.put, List.setIfInBounds_toArray, List.set_cons_zero, List.set_cons_succ])
                  refine wpAnyH_ready (rs := [31]) (by kernel_rfl) (by simp) ?_
                  refine AllReadyH.cons (o := { dst := some 142, op := Op.call { callee := Callee.builtin Builtin.append, args := #[Operand.tmp 138, Operand.tmp 141], argTypes := #[43, 43] }, type := 43, pos := "law.go:252", after := #[{ on := 27, ground := Ground.data }, { on := 30, ground := Ground.data }, { on := 27, ground := Ground.chain }, { on := 22, ground := Ground.guard }], guard := some (22, true) }) rfl (fun K hK => ?_) ?_
                  · (refine step_appNG (by rfl) _ _ _ (by rfl) _ 34 i0 _ 4 32 Try.underlying43 hi0' hz0 hz1 hz2 rfl (by decide) _ c _ (by rfl) row2 _ 1 _ (by rfl) (own_srcN rowD) (by intro u hu; simp only [ME.kyL, List.mem_cons, List.not_mem_nil, or_false] at hu; rcases hu with rfl | rfl | rfl | rfl <;> rfl) (by unfold maxLen; omega) (by omega) (by omega) ?_; intro v3 wz6 row3 hgr hob; obtain ⟨sa3, sc3, rfl⟩ := own_shape row3; have bz6 := bz5.grown hgr bz5.size (fun q e => by have h := n2 q e; have h0 := bz5.size; omega); have sz6 := hgr.size; have row1 := own_of_grown row1 hgr (fun q e e2 => by have h1 := n1 q e; have h2 := n2 q e2; omega); clear hgr hob)
                    refine hK.out _ _ ?_ (fun hHeld => ?_)
                    · exact (HS.out _ (HFW.out.then bz6)).1
                    clear hK K
                    (try simp only [Act.put, List.setIfInBounds_toArray, List.set_cons_zero, List.set_cons_succ])
                    refine wpAnyH_ready (rs := [32]) (by kernel_rfl) (by simp) ?_
                    refine AllReadyH.cons (o := { dst := some 143, op := Op.call { callee := Callee.value (Operand.func 20), args := #[Operand.tmp 135, Operand.tmp 142], argTypes := #[43, 43] }, type := 4, pos := "law.go:252", after := #[{ on := 24, ground := Ground.data }, { on := 31, ground := Ground.data }, { on := 31, ground := Ground.chain }, { on := 22, ground := Ground.guard }], guard := some (22, true) }) rfl (fun K hK => ?_) ?_
                    · (go_simp; go_at_call 20; refine (same_any wz6 (.slice ra n rc) (.slice sa3 (c + 1) sc3) ((P.eraseIdx k ++ [x]).map En.key) ((P.eraseIdx k ++ [x]).map En.key) (by rw [HLR.out]; exact own_srcN row1) (by rw [HLR.out, ← HNC.out, HKR.out]; exact own_srcN row3) (by rw [HLR.out]; omega) (by rw [HLR.out]; omega)).mono ?_; rintro u wz7 ⟨rfl, nq, hw⟩; rw [decide_eq_true rfl]; have bz7 : Below W1.heap.size W1 wz7 := (by rw [hw]; exact bnext bz6 ⟨rfl, rfl, rfl, Nat.le_refl _, fun _ _ => rfl⟩); clear hw; dsimp only)
                      refine hK.out _ _ ?_ (fun hHeld => ?_)
                      · exact (HS.out _ (HFW.out.then bz7)).1
                      clear hK K
                      (try simp only [Act.put, List.setIfInBounds_toArray, List.set_cons_zero, List.set_cons_succ])
                      refine wpAnyH_take (i := 33) (oi := { dst := some 144, op := Op.pick (Operand.tmp 133) (Operand.tmp 143) (Operand.const (Value.bool false)), type := 4, pos := "law.go:252", after := #[{ on := 22, ground := Ground.data }, { on := 32, ground := Ground.data }], guard := none }) (v := ?_) rfl (by kernel_rfl) (by kernel_rfl) (by kernel_rfl) (fun _ _ _ h => h) (Or.inl ⟨by rfl, ?_⟩) (by assumption) ?_
                      rotate_left
                      · ((intro w hSw; (try dsimp only at hSw); go_simp; (try rw [if_neg (by omega)])); try with_reducible rfl)
                      (try simp only [Act.put, List.setIfInBounds_toArray, List.set_cons_zero, List.set_cons_succ])
                      refine wpAnyH_take (i := 34) (oi := { dst := some 6, op := Op.assign (Operand.tmp 144), type := 4, pos := "law.go:252", after := #[{ on := 33, ground := Ground.data }, { on := 32, ground := Ground.chain }, { on := 0, ground := Ground.phase }, { on := 1, ground := Ground.phase }, { on := 2, ground := Ground.phase }, { on := 3, ground := Ground.phase }, { on := 4, ground := Ground.phase }, { on := 5, ground := Ground.phase }, { on := 6, ground := Ground.phase }, { on := 7, ground := Ground.phase }, { on := 8, ground := Ground.phase }, { on := 9, ground := Ground.phase }, { on := 10, ground := Ground.phase }, { on := 11, ground := Ground.phase }, { on := 12, ground := Ground.phase }, { on := 13, ground := Ground.phase }, { on := 14, ground := Ground.phase }, { on := 15, ground := Ground.phase }, { on := 16, ground := Ground.phase }, { on := 17, ground := Ground.phase }, { on := 18, ground := Ground.phase }, { on := 19, ground := Ground.phase }, { on := 20, ground := Ground.phase }, { on := 21, ground := Ground.phase }, { on := 22, ground := Ground.phase }, { on := 23, ground := Ground.phase }, { on := 24, ground := Ground.phase }, { on := 25, ground := Ground.phase }, { on := 26, ground := Ground.phase }, { on := 27, ground := Ground.phase }, { on := 28, ground := Ground.phase }, { on := 29, ground := Ground.phase }, { on := 30, ground := Ground.phase }, { on := 31, ground := Ground.phase }, { on := 32, ground := Ground.phase }, { on := 33, ground := Ground.phase }], guard := none }) (v := ?_) rfl (by kernel_rfl) (by kernel_rfl) (by kernel_rfl) (fun _ _ _ h => h) (Or.inl ⟨by rfl, ?_⟩) (by assumption) ?_
                      rotate_left
                      · ((intro w hSw; (try dsimp only at hSw); go_simp; (try rw [if_neg (by omega)])); try with_reducible rfl)
                      (try simp only [Act.put, List.setIfInBounds_toArray, List.set_cons_zero, List.set_cons_succ])
                      refine wpAnyH_done (by kernel_rfl) ?_ _
                      have HCU := Lib.hid (bnext (bnext (HVB.out wd SD.out.1) HWD.out) bz7)
                      go_wp2
                      go_ret
                      exact ⟨by simp, HCU.out⟩
                    exact AllReadyH.nil
                  exact AllReadyH.nil
                exact AllReadyH.nil
              exact AllReadyH.nil
            exact AllReadyH.nil
          refine AllReadyH.cons (o := { dst := some 141, op := Op.buildSlice 43 1 #[(0, Operand.tmp 140)], type := 43, pos := "law.go:252", after := #[{ on := 29, ground := Ground.data }, { on := 22, ground := Ground.guard }], guard := some (22, true) }) rfl (fun K hK => ?_) ?_
          · (go_simp; have rowD := own_one wz1 (ME.kyL (x.f, x.k, x.n, x.r)) 34 rfl; have dz2 := balloc (Below.refl _ wz1) (.cells #[.int .i64 x.f, .int .i64 x.k, .int .i64 x.n, .int .i64 x.r] 34); change (wz1.alloc (.cells #[.int .i64 x.f, .int .i64 x.k, .int .i64 x.n, .int .i64 x.r] 34)).ownsRow _ _ _ _ _ _ at rowD; obtain ⟨wz2, hq⟩ : ∃ w', wz1.alloc (.cells #[.int .i64 x.f, .int .i64 x.k, .int .i64 x.n, .int .i64 x.r] 34) = w' := ⟨_, rfl⟩; rw [hq] at rowD dz2; rw [hq]; clear hq; have nD : ∀ q, (Value.slice (some ⟨wz1.heap.size, 0, none⟩) 1 1).ownBlock = some q → wz1.heap.size ≤ q ∧ q < wz2.heap.size := rowD.lt; have bz2 := bnext bz1 dz2; have sz2 := dz2.size)
            refine hK.out _ _ ?_ (fun hHeld => ?_)
            · exact (HS.out _ (HFW.out.then bz2)).1
            clear hK K
            (try simp only [Act.put, List.setIfInBounds_toArray, List.set_cons_zero, List.set_cons_succ])
            refine wpAnyH_ready (rs := [24, 25]) (by kernel_rfl) (by simp) ?_
            refine AllReadyH.cons (o := { dst := some 135, op := Op.call { callee := Callee.value (Operand.func 18), args := #[Operand.tmp 134], argTypes := #[24] }, type := 43, pos := "law.go:252", after := #[{ on := 23, ground := Ground.data }, { on := 22, ground := Ground.chain }, { on := 22, ground := Ground.guard }], guard := some (22, true) }) rfl (fun K hK => ?_) ?_
            · (go_simp; go_at_call 18; refine (HL.out wz2 bz2).mono ?_; rintro u wz3 ⟨v1, rfl, row1, dz3⟩; obtain ⟨ra, rc, rfl⟩ := own_shape row1; have n1 : ∀ q, (Value.slice ra n rc).ownBlock = some q → wz2.heap.size ≤ q ∧ q < wz3.heap.size := row1.lt; have bz3 := bnext bz2 dz3; have sz3 := dz3.size; have rowD := own_below rowD dz3; dsimp only)
              refine hK.out _ _ ?_ (fun hHeld => ?_)
              · exact (HS.out _ (HFW.out.then bz3)).1
              clear hK K
              (try simp only [Act.put, List.setIfInBounds_toArray, List.set_cons_zero, List.set_cons_succ])
              refine wpAnyH_ready (rs := [25]) (by kernel_rfl) (by simp) ?_
              refine AllReadyH.cons (o := { dst := some 136, op := Op.buildSlice 43 0 #[], type := 43, pos := "law.go:252", after := #[{ on := 22, ground := Ground.guard }], guard := some (22, true) }) rfl (fun K hK => ?_) ?_
              · (go_simp; have rowE := own_empty wz3 34 4 wz3.heap.size (Nat.le_refl _); have dz4 := balloc (Below.refl _ wz3) (.cells #[] 34); obtain ⟨wz4, hq⟩ : ∃ w', wz3.alloc (.cells #[] 34) = w' := ⟨_, rfl⟩; rw [hq] at rowE dz4; rw [hq]; clear hq; have nE : ∀ q, (Value.slice (some ⟨wz3.heap.size, 0, none⟩) 0 0).ownBlock = some q → wz3.heap.size ≤ q ∧ q < wz4.heap.size := rowE.lt; have bz4 := bnext bz3 dz4; have sz4 := dz4.size; have row1 := own_below row1 dz4; have rowD := own_below rowD dz4)
                refine hK.out _ _ ?_ (fun hHeld => ?_)
                · exact (HS.out _ (HFW.out.then bz4)).1
                clear hK K
                (try simp only [Act.put, List.setIfInBounds_toArray, List.set_cons_zero, List.set_cons_succ])
                refine wpAnyH_ready (rs := [27]) (by kernel_rfl) (by simp) ?_
                refine AllReadyH.cons (o := { dst := some 138, op := Op.call { callee := Callee.builtin Builtin.append, args := #[Operand.tmp 136, Operand.tmp 137], argTypes := #[43, 43] }, type := 43, pos := "law.go:252", after := #[{ on := 25, ground := Ground.data }, { on := 26, ground := Ground.data }, { on := 24, ground := Ground.chain }, { on := 22, ground := Ground.guard }], guard := some (22, true) }) rfl (fun K hK => ?_) ?_
                · (refine step_appNG (by rfl) _ _ _ (by rfl) _ 34 i0 _ 4 32 Try.underlying43 hi0' hz0 hz1 hz2 rfl (by decide) _ 0 [] (by rfl) rowE _ c (ME.kc (ME.wk P k n)) (by rfl) ((HS.out _ (HFW.out.then bz4)).2.2) (kc_cells _) (by unfold maxLen; omega) (by omega) (by omega) ?_; intro v2 wz5 row2 hgr hob; rw [Nat.zero_add, List.nil_append] at row2; obtain ⟨sa2, sc2, rfl⟩ := own_shape row2; have bz5 := bz4.grown hgr bz4.size (fun q e => by have h := nE q e; have h0 := bz4.size; omega); have sz5 := hgr.size; have n2 : ∀ q, (Value.slice sa2 _ sc2).ownBlock = some q → _ := fun q e2 => Or.elim hob (fun h => Or.inl (nE q (h.symm.trans e2))) (fun h => Or.inr (Option.some.inj (e2.symm.trans h))); have row1 := own_of_grown row1 hgr (fun q e e2 => by have h1 := n1 q e; have h2 := nE q e2; omega); have rowD := own_of_grown rowD hgr (fun q e e2 => by have h1 := nD q e; have h2 := nE q e2; omega); clear hgr hob)
                  refine hK.out _ _ ?_ (fun hHeld => ?_)
                  · exact (HS.out _ (HFW.out.then bz5)).1
                  clear hK K
                  (try simp only [Act.put, List.setIfInBounds_toArray, List.set_cons_zero, List.set_cons_succ])
                  refine wpAnyH_ready (rs := [31]) (by kernel_rfl) (by simp) ?_
                  refine AllReadyH.cons (o := { dst := some 142, op := Op.call { callee := Callee.builtin Builtin.append, args := #[Operand.tmp 138, Operand.tmp 141], argTypes := #[43, 43] }, type := 43, pos := "law.go:252", after := #[{ on := 27, ground := Ground.data }, { on := 30, ground := Ground.data }, { on := 27, ground := Ground.chain }, { on := 22, ground := Ground.guard }], guard := some (22, true) }) rfl (fun K hK => ?_) ?_
                  · (refine step_appNG (by rfl) _ _ _ (by rfl) _ 34 i0 _ 4 32 Try.underlying43 hi0' hz0 hz1 hz2 rfl (by decide) _ c _ (by rfl) row2 _ 1 _ (by rfl) (own_srcN rowD) (by intro u hu; simp only [ME.kyL, List.mem_cons, List.not_mem_nil, or_false] at hu; rcases hu with rfl | rfl | rfl | rfl <;> rfl) (by unfold maxLen; omega) (by omega) (by omega) ?_; intro v3 wz6 row3 hgr hob; obtain ⟨sa3, sc3, rfl⟩ := own_shape row3; have bz6 := bz5.grown hgr bz5.size (fun q e => by have h := n2 q e; have h0 := bz5.size; omega); have sz6 := hgr.size; have row1 := own_of_grown row1 hgr (fun q e e2 => by have h1 := n1 q e; have h2 := n2 q e2; omega); clear hgr hob)
                    refine hK.out _ _ ?_ (fun hHeld => ?_)
                    · exact (HS.out _ (HFW.out.then bz6)).1
                    clear hK K
                    (try simp only [Act.put, List.setIfInBounds_toArray, List.set_cons_zero, List.set_cons_succ])
                    refine wpAnyH_ready (rs := [32]) (by kernel_rfl) (by simp) ?_
                    refine AllReadyH.cons (o := { dst := some 143, op := Op.call { callee := Callee.value (Operand.func 20), args := #[Operand.tmp 135, Operand.tmp 142], argTypes := #[43, 43] }, type := 4, pos := "law.go:252", after := #[{ on := 24, ground := Ground.data }, { on := 31, ground := Ground.data }, { on := 31, ground := Ground.chain }, { on := 22, ground := Ground.guard }], guard := some (22, true) }) rfl (fun K hK => ?_) ?_
                    · (go_simp; go_at_call 20; refine (same_any wz6 (.slice ra n rc) (.slice sa3 (c + 1) sc3) ((P.eraseIdx k ++ [x]).map En.key) ((P.eraseIdx k ++ [x]).map En.key) (by rw [HLR.out]; exact own_srcN row1) (by rw [HLR.out, ← HNC.out, HKR.out]; exact own_srcN row3) (by rw [HLR.out]; omega) (by rw [HLR.out]; omega)).mono ?_; rintro u wz7 ⟨rfl, nq, hw⟩; rw [decide_eq_true rfl]; have bz7 : Below W1.heap.size W1 wz7 := (by rw [hw]; exact bnext bz6 ⟨rfl, rfl, rfl, Nat.le_refl _, fun _ _ => rfl⟩); clear hw; dsimp only)
                      refine hK.out _ _ ?_ (fun hHeld => ?_)
                      · exact (HS.out _ (HFW.out.then bz7)).1
                      clear hK K
                      (try simp only [Act.put, List.setIfInBounds_toArray, List.set_cons_zero, List.set_cons_succ])
                      refine wpAnyH_take (i := 33) (oi := { dst := some 144, op := Op.pick (Operand.tmp 133) (Operand.tmp 143) (Operand.const (Value.bool false)), type := 4, pos := "law.go:252", after := #[{ on := 22, ground := Ground.data }, { on := 32, ground := Ground.data }], guard := none }) (v := ?_) rfl (by kernel_rfl) (by kernel_rfl) (by kernel_rfl) (fun _ _ _ h => h) (Or.inl ⟨by rfl, ?_⟩) (by assumption) ?_
                      rotate_left
                      · ((intro w hSw; (try dsimp only at hSw); go_simp; (try rw [if_neg (by omega)])); try with_reducible rfl)
                      (try simp only [Act.put, List.setIfInBounds_toArray, List.set_cons_zero, List.set_cons_succ])
                      refine wpAnyH_take (i := 34) (oi := { dst := some 6, op := Op.assign (Operand.tmp 144), type := 4, pos := "law.go:252", after := #[{ on := 33, ground := Ground.data }, { on := 32, ground := Ground.chain }, { on := 0, ground := Ground.phase }, { on := 1, ground := Ground.phase }, { on := 2, ground := Ground.phase }, { on := 3, ground := Ground.phase }, { on := 4, ground := Ground.phase }, { on := 5, ground := Ground.phase }, { on := 6, ground := Ground.phase }, { on := 7, ground := Ground.phase }, { on := 8, ground := Ground.phase }, { on := 9, ground := Ground.phase }, { on := 10, ground := Ground.phase }, { on := 11, ground := Ground.phase }, { on := 12, ground := Ground.phase }, { on := 13, ground := Ground.phase }, { on := 14, ground := Ground.phase }, { on := 15, ground := Ground.phase }, { on := 16, ground := Ground.phase }, { on := 17, ground := Ground.phase }, { on := 18, ground := Ground.phase }, { on := 19, ground := Ground.phase }, { on := 20, ground := Ground.phase }, { on := 21, ground := Ground.phase }, { on := 22, ground := Ground.phase }, { on := 23, ground := Ground.phase }, { on := 24, ground := Ground.phase }, { on := 25, ground := Ground.phase }, { on := 26, ground := Ground.phase }, { on := 27, ground := Ground.phase }, { on := 28, ground := Ground.phase }, { on := 29, ground := Ground.phase }, { on := 30, ground := Ground.phase }, { on := 31, ground := Ground.phase }, { on := 32, ground := Ground.phase }, { on := 33, ground := Ground.phase }], guard := none }) (v := ?_) rfl (by kernel_rfl) (by kernel_rfl) (by kernel_rfl) (fun _ _ _ h => h) (Or.inl ⟨by rfl, ?_⟩) (by assumption) ?_
                      rotate_left
                      · ((intro w hSw; (try dsimp only at hSw); go_simp; (try rw [if_neg (by omega)])); try with_reducible rfl)
                      (try simp only [Act.put, List.setIfInBounds_toArray, List.set_cons_zero, List.set_cons_succ])
                      refine wpAnyH_done (by kernel_rfl) ?_ _
                      have HCU := Lib.hid (bnext (bnext (HVB.out wd SD.out.1) HWD.out) bz7)
                      go_wp2
                      go_ret
                      exact ⟨by simp, HCU.out⟩
                    exact AllReadyH.nil
                  exact AllReadyH.nil
                exact AllReadyH.nil
              exact AllReadyH.nil
            refine AllReadyH.cons (o := { dst := some 136, op := Op.buildSlice 43 0 #[], type := 43, pos := "law.go:252", after := #[{ on := 22, ground := Ground.guard }], guard := some (22, true) }) rfl (fun K hK => ?_) ?_
            · (go_simp; have rowE := own_empty wz2 34 4 wz2.heap.size (Nat.le_refl _); have dz3 := balloc (Below.refl _ wz2) (.cells #[] 34); obtain ⟨wz3, hq⟩ : ∃ w', wz2.alloc (.cells #[] 34) = w' := ⟨_, rfl⟩; rw [hq] at rowE dz3; rw [hq]; clear hq; have nE : ∀ q, (Value.slice (some ⟨wz2.heap.size, 0, none⟩) 0 0).ownBlock = some q → wz2.heap.size ≤ q ∧ q < wz3.heap.size := rowE.lt; have bz3 := bnext bz2 dz3; have sz3 := dz3.size; have rowD := own_below rowD dz3)
              refine hK.out _ _ ?_ (fun hHeld => ?_)
              · exact (HS.out _ (HFW.out.then bz3)).1
              clear hK K
              (try simp only [Act.put, List.setIfInBounds_toArray, List.set_cons_zero, List.set_cons_succ])
              refine wpAnyH_ready (rs := [24]) (by kernel_rfl) (by simp) ?_
              refine AllReadyH.cons (o := { dst := some 135, op := Op.call { callee := Callee.value (Operand.func 18), args := #[Operand.tmp 134], argTypes := #[24] }, type := 43, pos := "law.go:252", after := #[{ on := 23, ground := Ground.data }, { on := 22, ground := Ground.chain }, { on := 22, ground := Ground.guard }], guard := some (22, true) }) rfl (fun K hK => ?_) ?_
              · (go_simp; go_at_call 18; refine (HL.out wz3 bz3).mono ?_; rintro u wz4 ⟨v1, rfl, row1, dz4⟩; obtain ⟨ra, rc, rfl⟩ := own_shape row1; have n1 : ∀ q, (Value.slice ra n rc).ownBlock = some q → wz3.heap.size ≤ q ∧ q < wz4.heap.size := row1.lt; have bz4 := bnext bz3 dz4; have sz4 := dz4.size; have rowD := own_below rowD dz4; have rowE := own_below rowE dz4; dsimp only)
                refine hK.out _ _ ?_ (fun hHeld => ?_)
                · exact (HS.out _ (HFW.out.then bz4)).1
                clear hK K
                (try simp only [Act.put, List.setIfInBounds_toArray, List.set_cons_zero, List.set_cons_succ])
                refine wpAnyH_ready (rs := [27]) (by kernel_rfl) (by simp) ?_
                refine AllReadyH.cons (o := { dst := some 138, op := Op.call { callee := Callee.builtin Builtin.append, args := #[Operand.tmp 136, Operand.tmp 137], argTypes := #[43, 43] }, type := 43, pos := "law.go:252", after := #[{ on := 25, ground := Ground.data }, { on := 26, ground := Ground.data }, { on := 24, ground := Ground.chain }, { on := 22, ground := Ground.guard }], guard := some (22, true) }) rfl (fun K hK => ?_) ?_
                · (refine step_appNG (by rfl) _ _ _ (by rfl) _ 34 i0 _ 4 32 Try.underlying43 hi0' hz0 hz1 hz2 rfl (by decide) _ 0 [] (by rfl) rowE _ c (ME.kc (ME.wk P k n)) (by rfl) ((HS.out _ (HFW.out.then bz4)).2.2) (kc_cells _) (by unfold maxLen; omega) (by omega) (by omega) ?_; intro v2 wz5 row2 hgr hob; rw [Nat.zero_add, List.nil_append] at row2; obtain ⟨sa2, sc2, rfl⟩ := own_shape row2; have bz5 := bz4.grown hgr bz4.size (fun q e => by have h := nE q e; have h0 := bz4.size; omega); have sz5 := hgr.size; have n2 : ∀ q, (Value.slice sa2 _ sc2).ownBlock = some q → _ := fun q e2 => Or.elim hob (fun h => Or.inl (nE q (h.symm.trans e2))) (fun h => Or.inr (Option.some.inj (e2.symm.trans h))); have row1 := own_of_grown row1 hgr (fun q e e2 => by have h1 := n1 q e; have h2 := nE q e2; omega); have rowD := own_of_grown rowD hgr (fun q e e2 => by have h1 := nD q e; have h2 := nE q e2; omega); clear hgr hob)
                  refine hK.out _ _ ?_ (fun hHeld => ?_)
                  · exact (HS.out _ (HFW.out.then bz5)).1
                  clear hK K
                  (try simp only [Act.put, List.setIfInBounds_toArray, List.set_cons_zero, List.set_cons_succ])
                  refine wpAnyH_ready (rs := [31]) (by kernel_rfl) (by simp) ?_
                  refine AllReadyH.cons (o := { dst := some 142, op := Op.call { callee := Callee.builtin Builtin.append, args := #[Operand.tmp 138, Operand.tmp 141], argTypes := #[43, 43] }, type := 43, pos := "law.go:252", after := #[{ on := 27, ground := Ground.data }, { on := 30, ground := Ground.data }, { on := 27, ground := Ground.chain }, { on := 22, ground := Ground.guard }], guard := some (22, true) }) rfl (fun K hK => ?_) ?_
                  · (refine step_appNG (by rfl) _ _ _ (by rfl) _ 34 i0 _ 4 32 Try.underlying43 hi0' hz0 hz1 hz2 rfl (by decide) _ c _ (by rfl) row2 _ 1 _ (by rfl) (own_srcN rowD) (by intro u hu; simp only [ME.kyL, List.mem_cons, List.not_mem_nil, or_false] at hu; rcases hu with rfl | rfl | rfl | rfl <;> rfl) (by unfold maxLen; omega) (by omega) (by omega) ?_; intro v3 wz6 row3 hgr hob; obtain ⟨sa3, sc3, rfl⟩ := own_shape row3; have bz6 := bz5.grown hgr bz5.size (fun q e => by have h := n2 q e; have h0 := bz5.size; omega); have sz6 := hgr.size; have row1 := own_of_grown row1 hgr (fun q e e2 => by have h1 := n1 q e; have h2 := n2 q e2; omega); clear hgr hob)
                    refine hK.out _ _ ?_ (fun hHeld => ?_)
                    · exact (HS.out _ (HFW.out.then bz6)).1
                    clear hK K
                    (try simp only [Act.put, List.setIfInBounds_toArray, List.set_cons_zero, List.set_cons_succ])
                    refine wpAnyH_ready (rs := [32]) (by kernel_rfl) (by simp) ?_
                    refine AllReadyH.cons (o := { dst := some 143, op := Op.call { callee := Callee.value (Operand.func 20), args := #[Operand.tmp 135, Operand.tmp 142], argTypes := #[43, 43] }, type := 4, pos := "law.go:252", after := #[{ on := 24, ground := Ground.data }, { on := 31, ground := Ground.data }, { on := 31, ground := Ground.chain }, { on := 22, ground := Ground.guard }], guard := some (22, true) }) rfl (fun K hK => ?_) ?_
                    · (go_simp; go_at_call 20; refine (same_any wz6 (.slice ra n rc) (.slice sa3 (c + 1) sc3) ((P.eraseIdx k ++ [x]).map En.key) ((P.eraseIdx k ++ [x]).map En.key) (by rw [HLR.out]; exact own_srcN row1) (by rw [HLR.out, ← HNC.out, HKR.out]; exact own_srcN row3) (by rw [HLR.out]; omega) (by rw [HLR.out]; omega)).mono ?_; rintro u wz7 ⟨rfl, nq, hw⟩; rw [decide_eq_true rfl]; have bz7 : Below W1.heap.size W1 wz7 := (by rw [hw]; exact bnext bz6 ⟨rfl, rfl, rfl, Nat.le_refl _, fun _ _ => rfl⟩); clear hw; dsimp only)
                      refine hK.out _ _ ?_ (fun hHeld => ?_)
                      · exact (HS.out _ (HFW.out.then bz7)).1
                      clear hK K
                      (try simp only [Act.put, List.setIfInBounds_toArray, List.set_cons_zero, List.set_cons_succ])
                      refine wpAnyH_take (i := 33) (oi := { dst := some 144, op := Op.pick (Operand.tmp 133) (Operand.tmp 143) (Operand.const (Value.bool false)), type := 4, pos := "law.go:252", after := #[{ on := 22, ground := Ground.data }, { on := 32, ground := Ground.data }], guard := none }) (v := ?_) rfl (by kernel_rfl) (by kernel_rfl) (by kernel_rfl) (fun _ _ _ h => h) (Or.inl ⟨by rfl, ?_⟩) (by assumption) ?_
                      rotate_left
                      · ((intro w hSw; (try dsimp only at hSw); go_simp; (try rw [if_neg (by omega)])); try with_reducible rfl)
                      (try simp only [Act.put, List.setIfInBounds_toArray, List.set_cons_zero, List.set_cons_succ])
                      refine wpAnyH_take (i := 34) (oi := { dst := some 6, op := Op.assign (Operand.tmp 144), type := 4, pos := "law.go:252", after := #[{ on := 33, ground := Ground.data }, { on := 32, ground := Ground.chain }, { on := 0, ground := Ground.phase }, { on := 1, ground := Ground.phase }, { on := 2, ground := Ground.phase }, { on := 3, ground := Ground.phase }, { on := 4, ground := Ground.phase }, { on := 5, ground := Ground.phase }, { on := 6, ground := Ground.phase }, { on := 7, ground := Ground.phase }, { on := 8, ground := Ground.phase }, { on := 9, ground := Ground.phase }, { on := 10, ground := Ground.phase }, { on := 11, ground := Ground.phase }, { on := 12, ground := Ground.phase }, { on := 13, ground := Ground.phase }, { on := 14, ground := Ground.phase }, { on := 15, ground := Ground.phase }, { on := 16, ground := Ground.phase }, { on := 17, ground := Ground.phase }, { on := 18, ground := Ground.phase }, { on := 19, ground := Ground.phase }, { on := 20, ground := Ground.phase }, { on := 21, ground := Ground.phase }, { on := 22, ground := Ground.phase }, { on := 23, ground := Ground.phase }, { on := 24, ground := Ground.phase }, { on := 25, ground := Ground.phase }, { on := 26, ground := Ground.phase }, { on := 27, ground := Ground.phase }, { on := 28, ground := Ground.phase }, { on := 29, ground := Ground.phase }, { on := 30, ground := Ground.phase }, { on := 31, ground := Ground.phase }, { on := 32, ground := Ground.phase }, { on := 33, ground := Ground.phase }], guard := none }) (v := ?_) rfl (by kernel_rfl) (by kernel_rfl) (by kernel_rfl) (fun _ _ _ h => h) (Or.inl ⟨by rfl, ?_⟩) (by assumption) ?_
                      rotate_left
                      · ((intro w hSw; (try dsimp only at hSw); go_simp; (try rw [if_neg (by omega)])); try with_reducible rfl)
                      (try simp only [Act.put, List.setIfInBounds_toArray, List.set_cons_zero, List.set_cons_succ])
                      refine wpAnyH_done (by kernel_rfl) ?_ _
                      have HCU := Lib.hid (bnext (bnext (HVB.out wd SD.out.1) HWD.out) bz7)
                      go_wp2
                      go_ret
                      exact ⟨by simp, HCU.out⟩
                    exact AllReadyH.nil
                  exact AllReadyH.nil
                exact AllReadyH.nil
              exact AllReadyH.nil
            exact AllReadyH.nil
          exact AllReadyH.nil
        exact AllReadyH.nil

set_option maxRecDepth 100000 in
theorem lifted (os : Os) (started : os.Started) (H : Type) (enc : TypeId × Value → H) :
    ReturnsInHanded {} Try.checked os 8 .any (Rows.memoryUseSpec.pre6 enc Try.prog Try.f8 Rows.memoryUseRow.domain false) (Rows.memoryUseSpec.post enc Try.prog Try.f8 false true false false) := by
  refine returnsInHanded_of_change (C := Try.checked) own started (by kernel_rfl) Try.func8
    (ChangeSpec.witness6 (enc := enc) (C := Try.checked) false ⟨#[], #[.int .u8 0, .slice none 0 0, .int .u8 0], []⟩ 8 (by kernel_rfl) (by kernel_rfl) (by kernel_rfl) (by kernel_rfl)) ?_
  intro W base args ds gs before hval0 hW hcnd _
  have hval : ∀ (j : Nat) t v, Try.f8.params[j]? = some t → args[j]? = some v → Value.okWide Try.prog W .any base t v := hval0
  have hW' := hW
  obtain ⟨p, q, hA0, hV, rfl, hfz, hnd⟩ := hW
  have hA : DataW.TrodAll enc Try.prog W 0 (fun _ => true) true Try.f8.params.toList args.toList ds p := hA0
  rw [Try.params8] at hA hval
  obtain ⟨v0, vs0, d0, ds0, p0, q0, hargs, rfl, rfl, h0, r0⟩ := trodAll_cons hA
  obtain ⟨v1, vs1, d1, ds1, p1, q1, rfl, rfl, rfl, h1, r1⟩ := trodAll_cons r0
  obtain ⟨v2, vs2, d2, ds2, p2, q2, rfl, rfl, rfl, h2, r2⟩ := trodAll_cons r1
  obtain ⟨rfl, rfl, rfl⟩ := trodAll_nil r2
  obtain rfl : args = #[v0, v1, v2] := by cases args; simp_all
  obtain ⟨rfl, rfl⟩ := trodVars_none hV
  have k0 := h0
  have lt0 : ∀ x ∈ p0, x.block < W.heap.size := by obtain ⟨m, hm⟩ := k0; exact DataW.trod_lt m _ _ _ hm
  have k1 := h1
  have lt1 : ∀ x ∈ p1, x.block < W.heap.size := by obtain ⟨m, hm⟩ := k1; exact DataW.trod_lt m _ _ _ hm
  have k2 := h2
  have lt2 : ∀ x ∈ p2, x.block < W.heap.size := by obtain ⟨m, hm⟩ := k2; exact DataW.trod_lt m _ _ _ hm
  obtain ⟨a0, rfl, rfl, rfl, wa0⟩ := open_int Try.underlying5 (hval 0 5 v0 rfl rfl) h0
  obtain ⟨a1, H1⟩ := open_acts (hval 1 22 v1 rfl rfl) h1
  obtain ⟨a2, rfl, rfl, rfl, wa2⟩ := open_int Try.underlying5 (hval 2 5 v2 rfl rfl) h2
  clear hA0 hval0
  refine (walk a0 v1 a1 a2 wa0 wa2 W H1).mono fun e W' ⟨he, bel⟩ => ?_
  subst he
  exact ⟨_, rfl, _, _, _, [], _, [], hW', trodAll_mk1 (shut_bool Try.underlying4 _), (trodAll_cons_mk (Below.trod laidOut (by kernel_rfl) (of_decide_eq_true (by kernel_rfl)) k0 bel lt0) (trodAll_cons_mk (Below.trod laidOut (by kernel_rfl) (of_decide_eq_true (by kernel_rfl)) k1 bel lt1) (trodAll_cons_mk (Below.trod laidOut (by kernel_rfl) (of_decide_eq_true (by kernel_rfl)) k2 bel lt2) trodAll_mk0))), rfl, bel.frame _, fun h => by cases h⟩

theorem over : Rows.memoryUseRow.holds Try.pinned (OpenSpec.ofChange Rows.memoryUseSpec) :=
  OpenClaim.holds_of_wide 8 Try.f8 rfl rfl rfl rfl rfl rfl rfl ⟨rfl, rfl, rfl, rfl, rfl⟩ rfl rfl rfl rfl rfl (by kernel_rfl) Try.func8 (by kernel_rfl)
    (of_decide_eq_true (by kernel_rfl)) (by unfold Func.isWrapper; first | (rw [if_pos (by decide +kernel)]; kernel_rfl) | (rw [if_neg (by decide +kernel)]; exact ⟨rfl, rfl⟩))
    (fun os started H enc _ => lifted os started H enc)

end Go.Proofs.Ytmnajongifdajaa.memoryUse
namespace Go.Proofs.Ytmnajongifdajaa
theorem memoryUse_proved : Rows.MemoryUseSaid := memoryUse.over
#print axioms memoryUse_proved
end Go.Proofs.Ytmnajongifdajaa
