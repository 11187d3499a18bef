/- For all levels OrderPieces returns true: pieces are seen together; with all levels higher, the order is the same or the opposite one. No conditions. -/
import Derived.Test.YtbgmbcngkmlfeaaDoorOrd22
import Derived.Test.YtbgmbcngkmlfeaaDoorClsLaid
import Derived.ChangeMaps5
namespace Go.Proofs.YtbgmbcngkmlfeaaDoor.orderPieces
open Go.ChangeShapes Go.WideShapes Go.ChangeAt Go.RowKit Go.Joins Go.Deep Go.ChangeMaps
set_option linter.unusedVariables false

set_option maxRecDepth 100000 in
set_option maxHeartbeats 8000000 in
theorem walk (v0 : Value) (a0 : List Int) (a1 : Int) (g : Nat × Nat) (wa1 : (Lit.int .u8 a1).wf = true) (w : World) (hl : Laid w g) (H0 : RowAt w v0 (a0.map (Value.int .i64))) (L0 : a0.length ≤ maxLen ∧ ∀ a n c, v0 = .slice a n c → n ≤ c) (E0 : ∀ x, x ∈ a0 → -9223372036854775808 ≤ x ∧ x ≤ 9223372036854775807) :
    Calls Tryd.prog 7 #[v0, .int .u8 a1] w fun e w' => e = .returned (.bool true) ∧ Below w.heap.size w w' := by
  obtain ⟨va, vc, rfl, hr0⟩ := H0.out
  rw [List.length_map] at H0 ⊢
  obtain ⟨n0, hn0⟩ : ∃ n0, a0.length = n0 := ⟨_, rfl⟩
  rw [hn0] at H0 ⊢
  have hnc : n0 ≤ vc := by have := L0.2 va a0.length vc (by rw [List.length_map]); omega
  obtain ⟨m, hm⟩ : ∃ m : Nat, (if (60 : Int) < (n0 : Int) then 60 else (n0 : Int)) = (m : Int) := ⟨min n0 60, by split <;> omega⟩
  have hm2 : min (n0 : Int) 60 = (m : Int) := by split at hm <;> omega
  have hm60 : m ≤ 60 ∧ m ≤ n0 := by split at hm <;> omega
  have hmci : (m : Int) ≤ (vc : Int) := by omega
  have hmi0 : (0 : Int) ≤ (m : Int) := by omega
  have HA : Hid (∀ V, Below w.heap.size w V → RowAt V (.slice va m vc) ((a0.take m).map (Value.int .i64))) := Lib.hid fun V hV => by
    have h := row_first (H0.keep hV) (m := m) (by rw [List.length_map, hn0]; exact hm60.2)
    rwa [← List.map_take] at h
  have HAL : Hid ((a0.take m).length = m) := Lib.hid (by rw [List.length_take, hn0]; omega)
  obtain ⟨A, hA⟩ : ∃ A, a0.take m = A := ⟨_, rfl⟩
  rw [hA] at HA HAL
  have hm60' := hm60.1
  clear H0 L0 E0 hr0 hn0 hA hm60
  obtain ⟨i0, hi0, hz0, hz1, hz2⟩ := info_parts info_int
  have HL : Hid (∀ B, Below w.heap.size w B → Laid B g) := Lib.hid fun B hb => hl.mono hb
  have HS0 := Lib.hid (sane_any g w hl)
  clear hl
  go_enter Tryd.func7, Tryd.ntmps7
  go_wp2_with fail
  refine HS0.out.mono ?_
  rintro e w1 ⟨rfl, hb1⟩
  have HB1 := Lib.hid hb1
  clear hb1
  obtain ⟨S, hS⟩ : ∃ S, A.map (· % 8) = S := ⟨_, rfl⟩
  have HSL : Hid (S.length = m) := Lib.hid (by rw [← hS, List.length_map, HAL.out])
  have HSA : Hid (∀ k (x : Int), A[k]? = some x → S[k]? = some (x % 8)) := Lib.hid fun k x hx => by rw [← hS, List.getElem?_map, hx]; rfl
  have HS9 : Hid (∀ (i : Nat) (s : Int), S[i]? = some s → 0 ≤ s ∧ s < 8) := Lib.hid fun i s hs => by
    rw [← hS, List.getElem?_map, Option.map_eq_some_iff] at hs
    obtain ⟨y, -, rfl⟩ := hs
    omega
  clear hS
  go_wp2_with fail
  go_loopw [6, 7, 8, 27] (fun v6 v7 v8 v27 wr => ∃ k : Nat, v27 = .int .i64 (k : Int) ∧ k ≤ m ∧ wr.ownsRow w1.heap.size 3 1 v6 k ((S.take k).map (Value.int .i64)) ∧ wr.ownsRow w1.heap.size 3 1 v7 k (((S.take k).map (· + 1)).map (Value.int .i64)) ∧ wr.ownsRow w1.heap.size 3 1 v8 k (((S.take k).map (· + 2)).map (Value.int .i64)) ∧ (Apart v6 v7 ∧ Apart v6 v8 ∧ Apart v7 v8) ∧ Below w1.heap.size w1 wr) (fun _ _ _ v _ => m - (intOf v).toNat)
  case atStart => exact ⟨0, rfl, Nat.zero_le _, World.ownsRow_nil _ _ _ _, World.ownsRow_nil _ _ _ _, World.ownsRow_nil _ _ _ _, ⟨Apart.none _, Apart.none _, Apart.none _⟩, Below.refl _ _⟩
  case round =>
    obtain ⟨k, rfl, hk, hr6, hr7, hr8, ⟨h67, h68, h78⟩, hbw⟩ := hrel
    by_cases hkm : k < m
    · have hki : (k : Int) < (m : Int) := by omega
      have hk0 : (0 : Int) ≤ (k : Int) := by omega
      obtain ⟨x, hx⟩ : ∃ x, A[k]? = some x := ⟨A[k]'(by rw [HAL.out]; exact hkm), List.getElem?_eq_getElem _⟩
      obtain ⟨ag, ao, rfl, -, hc⟩ := (HA.out wr (bnext HB1.out hbw)).cell (k := k) (by rw [List.length_map, HAL.out]; exact hkm)
      rw [List.getElem_map, show A[k]'(by rw [HAL.out]; exact hkm) = x from (List.getElem?_eq_some_iff.1 hx).2] at hc
      have hs := HSA.out k x hx
      have hy := HS9.out k _ hs
      obtain ⟨y, hxy⟩ : ∃ y, x % 8 = y := ⟨_, rfl⟩
      rw [hxy] at hs hy
      have hy0 := hy.1
      have hy1 := hy.2
      have HXY := Lib.hid hxy
      have ht : Hid (S.take (k + 1) = S.take k ++ [y]) := Lib.hid (by rw [List.take_add_one, hs]; rfl)
      have ht6 : Hid ((S.take (k + 1)).map (Value.int .i64) = (S.take k).map (Value.int .i64) ++ [.int .i64 y]) := Lib.hid (by rw [ht.out]; simp)
      have ht7 : Hid (((S.take (k + 1)).map (· + 1)).map (Value.int .i64) = ((S.take k).map (· + 1)).map (Value.int .i64) ++ [.int .i64 (y + 1)]) := Lib.hid (by rw [ht.out]; simp)
      have ht8 : Hid (((S.take (k + 1)).map (· + 2)).map (Value.int .i64) = ((S.take k).map (· + 2)).map (Value.int .i64) ++ [.int .i64 (y + 2)]) := Lib.hid (by rw [ht.out]; simp)
      have hws := hbw.size
      have HA9 := Lib.hid (⟨h67, h68, h78⟩ : _ ∧ _ ∧ _)
      have HBW := Lib.hid hbw
      clear hx hs hy hxy h67 h68 h78 hbw
      go_upto_region 7 with (first | (go_at_call 23; refine (mod_any x 8 _ (by omega) (by omega)).mono ?_; rintro e w9 ⟨rfl, he⟩; have he' := he.symm; subst he'; rw [HXY.out]) | (at_builtin; refine wpList_append_own_at _ rfl _ _ 26 rfl w1.heap.size 3 i0 (.int .i64 0) 1 8 Tryd.underlying26 hi0 hz0 hz1 hz2 rfl (by decide) _ _ _ rfl (hr6.alloc _) ⟨wr.heap.size, 0, none⟩ 1 1 [.int .i64 y] rfl rfl (cell_one_new wr _ _) (by simp [Value.oneCell']) (by unfold maxLen; omega) (by omega) (by simp; omega) ?_; intro v' w6 hown hgrow _ hnew; have hap7 := app_other hr7 hgrow HA9.out.1.symm; have hap8 := app_other hr8 hgrow HA9.out.2.1.symm; have hnw7 := app_apart hr7 hnew HA9.out.1.symm; have hnw8 := app_apart hr8 hnew HA9.out.2.1.symm; have hbn := span_app hr6 HBW.out hgrow; obtain ⟨g6, cap6, rfl⟩ := ownsRow_succ hown))
      have hws6 := hbn.size
      rw [← ht6.out] at hown
      clear hr7 hr8 hr6 hgrow hnew HBW
      have HBW := Lib.hid hbn
      clear hbn
      have hr7 := hap7
      have hr8 := hap8
      have HR6 := Lib.hid hown
      have HN6 := Lib.hid (⟨hnw7, hnw8⟩ : _ ∧ _)
      clear hap7 hap8 hown hnw7 hnw8
      have hr6 := HR6.out
      go_upto_region 8 with (first | (go_at_call 23; refine (mod_any x 8 _ (by omega) (by omega)).mono ?_; rintro e w9 ⟨rfl, he⟩; have he' := he.symm; subst he'; rw [HXY.out]) | (at_builtin; refine wpList_append_own_at _ rfl _ _ 26 rfl w1.heap.size 3 i0 (.int .i64 0) 1 8 Tryd.underlying26 hi0 hz0 hz1 hz2 rfl (by decide) _ _ _ rfl (hr7.alloc _) ⟨w6.heap.size, 0, none⟩ 1 1 [.int .i64 (y + 1)] rfl rfl (cell_one_new w6 _ _) (by simp [Value.oneCell']) (by unfold maxLen; omega) (by omega) (by simp; omega) ?_; intro v' w7 hown hgrow _ hnew; have hap6 := app_other hr6 hgrow HN6.out.1.symm; have hap8 := app_other hr8 hgrow HA9.out.2.2.symm; have hnw6 := app_apart hr6 hnew HN6.out.1.symm; have hnw8 := app_apart hr8 hnew HA9.out.2.2.symm; have hbn := span_app hr7 HBW.out hgrow; obtain ⟨g7, cap7, rfl⟩ := ownsRow_succ hown))
      have hws7 := hbn.size
      rw [← ht7.out] at hown
      clear hr6 hr8 hr7 hgrow hnew HBW
      have HBW := Lib.hid hbn
      clear hbn
      have hr6 := hap6
      have hr8 := hap8
      have HR7 := Lib.hid hown
      have HN7 := Lib.hid (⟨hnw6, hnw8⟩ : _ ∧ _)
      clear hap6 hap8 hown hnw6 hnw8 HR6
      have HR6 := Lib.hid hr6
      have hr7 := HR7.out
      go_upto_region 9 with (first | (go_at_call 23; refine (mod_any x 8 _ (by omega) (by omega)).mono ?_; rintro e w9 ⟨rfl, he⟩; have he' := he.symm; subst he'; rw [HXY.out]) | (at_builtin; refine wpList_append_own_at _ rfl _ _ 26 rfl w1.heap.size 3 i0 (.int .i64 0) 1 8 Tryd.underlying26 hi0 hz0 hz1 hz2 rfl (by decide) _ _ _ rfl (hr8.alloc _) ⟨w7.heap.size, 0, none⟩ 1 1 [.int .i64 (y + 2)] rfl rfl (cell_one_new w7 _ _) (by simp [Value.oneCell']) (by unfold maxLen; omega) (by omega) (by simp; omega) ?_; intro v' w8 hown hgrow _ hnew; have hap6 := app_other hr6 hgrow HN6.out.2.symm; have hap7 := app_other hr7 hgrow HN7.out.2.symm; have hnw6 := app_apart hr6 hnew HN6.out.2.symm; have hnw7 := app_apart hr7 hnew HN7.out.2.symm; have hbn := span_app hr8 HBW.out hgrow; obtain ⟨g8, cap8, rfl⟩ := ownsRow_succ hown))
      have hws8 := hbn.size
      rw [← ht8.out] at hown
      clear hr6 hr7 hr8 hgrow hnew HBW
      have HBW := Lib.hid hbn
      clear hbn
      have HR8 := Lib.hid (⟨hap6, hap7, hown, HN7.out.1, hnw6, hnw7⟩ : _ ∧ _ ∧ _ ∧ _ ∧ _ ∧ _)
      clear hap6 hap7 hown hnw6 hnw7 HR6 HR7
      go_wp2_with fail
      go_roundw
      case rel => exact ⟨k + 1, by go_num, hkm, HR8.out.1, HR8.out.2.1, HR8.out.2.2.1, ⟨HR8.out.2.2.2.1, HR8.out.2.2.2.2.1, HR8.out.2.2.2.2.2⟩, HBW.out⟩
      case measure => simp [intOf]; omega
    · obtain rfl : m = k := by omega
      rw [List.take_of_length_le (Nat.le_of_eq HSL.out)] at hr6 hr7 hr8
      obtain ⟨sa, sc, rfl⟩ := own_shape hr6
      obtain ⟨ta, tc, rfl⟩ := own_shape hr7
      obtain ⟨xa, xc, rfl⟩ := own_shape hr8
      have HSM : Hid (∀ V, Below wr.heap.size wr V → RowAt V (.slice sa m sc) (S.map (Value.int .i64))) := Lib.hid fun V hV => (row_own hr6 (by simp [HSL.out])).keep hV
      have HTM : Hid (∀ V, Below wr.heap.size wr V → RowAt V (.slice ta m tc) ((S.map (· + 1)).map (Value.int .i64))) := Lib.hid fun V hV => (row_own hr7 (by simp [HSL.out])).keep hV
      have HXM : Hid (∀ V, Below wr.heap.size wr V → RowAt V (.slice xa m xc) ((S.map (· + 2)).map (Value.int .i64))) := Lib.hid fun V hV => (row_own hr8 (by simp [HSL.out])).keep hV
      have HBR := Lib.hid (bnext HB1.out hbw)
      have hg0 : ∀ i, 0 ≤ S.getD i 0 ∧ S.getD i 0 < 8 := fun i => by
        by_cases h : i < S.length
        · have := HS9.out i S[i] (List.getElem?_eq_getElem h)
          simpa [List.getD, List.getElem?_eq_getElem h] using this
        · simp [List.getD, List.getElem?_eq_none (Nat.le_of_not_lt h)]
      have HV1 := Lib.hid (OP.vis_one (L := S) (fun i => (hg0 i).1) (fun i => by have := (hg0 i).2; omega))
      have HV2 := Lib.hid (OP.vis_two (L := S) (fun i => (hg0 i).1) (fun i => by have := (hg0 i).2; omega))
      have HI := Lib.hid fun V (hV : Below wr.heap.size wr V) => ovisual_any S _ V (HSM.out V hV) (by rw [HSL.out]; omega)
      have HJ := Lib.hid fun V (hV : Below wr.heap.size wr V) => ovisual_any (S.map (· + 1)) _ V (HTM.out V hV) (by rw [List.length_map, HSL.out]; omega)
      have HK := Lib.hid fun V (hV : Below wr.heap.size wr V) => ovisual_any (S.map (· + 2)) _ V (HXM.out V hV) (by rw [List.length_map, HSL.out]; omega)
      rw [HSL.out] at HI
      rw [HV1.out, List.length_map, HSL.out] at HJ
      rw [HV2.out, List.length_map, HSL.out] at HK
      have HVL : Hid ((OP.ints (OP.vis S)).length = m) := Lib.hid (by rw [OP.ints_len, OP.vis_len, HSL.out])
      have HVR : Hid ((OP.ints (OP.vis S).reverse).length = m) := Lib.hid (by rw [OP.ints_len, List.length_reverse, OP.vis_len, HSL.out])
      clear hr6 hr7 hr8 hbw hg0 h67 h68 h78
      go_wp2_with fail
      refine (HI.out _ (Below.refl _ _)).mono ?_
      rintro e w3 ⟨u3, rfl, ho3, hb3⟩
      obtain ⟨pa, pc, rfl⟩ := own_shape ho3
      have HV : Hid (∀ V, Below w3.heap.size w3 V → RowAt V (.slice pa m pc) ((OP.ints (OP.vis S)).map (Value.int .i64))) := Lib.hid fun V hV => (row_own ho3 (by rw [List.length_map, HVL.out])).keep hV
      have HB3 := Lib.hid hb3
      clear ho3 hb3
      go_wp2_with fail
      refine (HJ.out _ HB3.out).mono ?_
      rintro e w4 ⟨u4, rfl, ho4, hb4⟩
      obtain ⟨qa, qc, rfl⟩ := own_shape ho4
      have HW : Hid (∀ V, Below w4.heap.size w4 V → RowAt V (.slice qa m qc) ((OP.ints (OP.vis S).reverse).map (Value.int .i64))) := Lib.hid fun V hV => (row_own ho4 (by rw [List.length_map, HVR.out])).keep hV
      have HB4 := Lib.hid hb4
      clear ho4 hb4
      go_wp2_with fail
      refine (HK.out _ (bnext HB3.out HB4.out)).mono ?_
      rintro e w5 ⟨u5, rfl, ho5, hb5⟩
      obtain ⟨ra, rc, rfl⟩ := own_shape ho5
      have HR5 := Lib.hid (row_own ho5 (by rw [List.length_map, HVL.out]))
      have HB5 := Lib.hid hb5
      clear ho5 hb5 HI HJ HK
      go_wp2_with fail
      refine (oequal_any _ _ (OP.ints (OP.vis S)) _ HR5.out (HV.out _ (bnext HB4.out HB5.out)) (by rw [HVL.out]; omega)).mono ?_
      rintro e w6 ⟨rfl, hb6⟩
      have HB46 := Lib.hid (bnext HB5.out hb6)
      have HB36 := Lib.hid (bnext HB4.out HB46.out)
      have HB6 := Lib.hid (bnext HBR.out (bnext HB3.out HB36.out))
      clear hb6 HR5 HB5
      obtain ⟨w7, hmk7, ho7, hb7, hlt7⟩ := make_ints w6 m w6.heap.size (Nat.le_refl _) (by omega)
      go_upto_region 14 with fail
      obtain ⟨D, hD⟩ : ∃ D, w6.heap.size = D := ⟨_, rfl⟩
      rw [hD] at ho7
      have HX := Lib.hid (⟨ho7, hb7⟩ : _ ∧ _)
      try rw [hD]
      have HD := Lib.hid hD
      clear hmk7 ho7 hb7 hlt7 hD
      go_wp2_with fail
      go_loopw [77] (fun v77 wr => ∃ (k : Nat) (P : List Int), v77 = .int .i64 (k : Int) ∧ k ≤ m ∧ P.length = m ∧ OP.OneP (OP.vis S) k P ∧ wr.ownsRow D 3 1 (.slice (some ⟨D, 0, none⟩) m m) m (P.map (Value.int .i64)) ∧ Below w6.heap.size w6 wr) (fun v _ => m - (intOf v).toNat)
      case atStart => exact ⟨0, List.replicate m 0, rfl, Nat.zero_le _, by simp, fun j x h => by omega, HX.out.1, HX.out.2⟩
      case round =>
        obtain ⟨k, P, rfl, hk, hPl, hP, hrp, hb⟩ := hrel
        by_cases hkm : k < m
        · have hki : (k : Int) < (m : Int) := by omega
          have hk0 : (0 : Int) ≤ (k : Int) := by omega
          obtain ⟨x, hx, hxm⟩ := OP.vis_at (L := S) (k := k) (by rw [HSL.out]; exact hkm)
          rw [HSL.out] at hxm
          have hil : k < ((OP.ints (OP.vis S)).map (Value.int .i64)).length := by rw [List.length_map, HVL.out]; exact hkm
          obtain ⟨ag, ao, rfl, -, hc⟩ := (HV.out wr (bnext HB36.out hb)).cell (k := k) hil
          rw [show ((OP.ints (OP.vis S)).map (Value.int .i64))[k]'hil = .int .i64 (x : Int) by
            rw [List.getElem_map]
            congr 1
            have := (List.getElem?_eq_some_iff.1 hx).2
            simp [OP.ints, this]] at hc
          have hmk : (m : Int) - 1 - (k : Int) = ((m - 1 - k : Nat) : Int) := by omega
          have hmk0 : (0 : Int) ≤ ((m - 1 - k : Nat) : Int) := by omega
          have hmk1 : ((m - 1 - k : Nat) : Int) < (m : Int) := by omega
          have hir : m - 1 - k < ((OP.ints (OP.vis S).reverse).map (Value.int .i64)).length := by rw [List.length_map, HVR.out]; omega
          obtain ⟨bg, bo, rfl, -, hcr⟩ := (HW.out wr (bnext HB46.out hb)).cell (k := m - 1 - k) hir
          rw [show ((OP.ints (OP.vis S).reverse).map (Value.int .i64))[m - 1 - k]'hir = .int .i64 (x : Int) by
            rw [List.getElem_map]
            congr 1
            have h1 := (List.getElem?_eq_some_iff.1 hx).2
            simp only [OP.ints, List.getElem_map, List.getElem_reverse, OP.vis_len, HSL.out]
            have h2 : m - 1 - (m - 1 - k) = k := by omega
            simp only [h2, h1]] at hcr
          obtain ⟨z, hz⟩ : ∃ z, m - 1 - k = z := ⟨_, rfl⟩
          rw [hz] at hmk hmk0 hmk1 hcr
          have hx0 : (0 : Int) ≤ (x : Int) := by omega
          have hxi : (x : Int) < (m : Int) := by omega
          have hxx : ((x : Int) != (x : Int)) = false := by simp
          obtain ⟨yp, hyp⟩ : ∃ yp, P[x]? = some yp := ⟨P[x]'(by omega), List.getElem?_eq_getElem _⟩
          have hcp := hrp.cellAt x (by omega)
          rw [List.getElem?_map, hyp] at hcp
          have hfp := hrp.frozenAt x
          obtain ⟨hsp, hgp⟩ := hrp.stored x (.int .i64 (k : Int))
          have HR := Lib.hid (⟨hsp, bset hb (p := ⟨D, x, none⟩) (by show w6.heap.size ≤ D; rw [HD.out]; exact Nat.le_refl _) (.int .i64 (k : Int))⟩ : _ ∧ _)
          have HPn := Lib.hid (hP.next (OP.vis_nodup S) hx (by omega))
          have HPL := Lib.hid hPl
          clear hP hPl hsp hgp hrp hx hyp hil hir hb hz
          go_wp2_with fail
          go_roundw
          case rel => exact ⟨k + 1, P.set x (k : Int), by go_num, hkm, by rw [List.length_set]; exact HPL.out, HPn.out, by rw [List.map_set]; exact HR.out.1, HR.out.2⟩
          case measure => simp [intOf]; omega
        · obtain rfl : m = k := by omega
          have HP : Hid (OP.OneP (OP.vis S) S.length P) := Lib.hid (by rw [HSL.out]; exact hP)
          have HPl : Hid (P.length = m) := Lib.hid hPl
          have HPc : Hid (∀ V, Below wr.heap.size wr V → ∀ x a, P[x]? = some a → V.cell? ⟨D, x, none⟩ = some (.int .i64 a)) := Lib.hid fun V hV x a ha => by
            have h1 := (own_below hrp hV).cellAt x (by have := (List.getElem?_eq_some_iff.1 ha).1; omega)
            rw [h1, List.getElem?_map, ha]
            rfl
          have HPb : Hid (∀ x a, P[x]? = some a → 0 ≤ a ∧ a < (m : Int)) := Lib.hid fun x a ha => by
            obtain ⟨j, hj, hv⟩ := OP.vis_has (L := S) (x := x) (by have := (List.getElem?_eq_some_iff.1 ha).1; rw [HSL.out]; omega)
            have := HP.out j x hj hv
            rw [ha] at this
            have e1 := Option.some.inj this
            rw [HSL.out] at hj
            omega
          replace HSM := Lib.hid fun V (hV : Below wr.heap.size wr V) => HSM.out V (bnext HB3.out (bnext HB36.out (bnext hb hV)))
          have HBZ := Lib.hid (bnext HB6.out hb)
          clear hP hPl hrp hb
          obtain ⟨wy, hwy⟩ : ∃ wy, wy = wr := ⟨_, rfl⟩
          subst hwy
          have ha0 : 0 ≤ a1 ∧ a1 ≤ 255 := by
            have h := wa1
            have hmin : IntKind.u8.min = 0 := rfl
            have hmax : IntKind.u8.max = 255 := rfl
            simp only [Lit.wf, Bool.and_eq_true, decide_eq_true_eq] at h
            omega
          obtain ⟨hq0, hq1⟩ := ha0
          obtain ⟨n9, hn9⟩ : ∃ n9 : Nat, a1 % 9 = (n9 : Int) := ⟨(a1 % 9).toNat, by omega⟩
          have hn8 : n9 ≤ 8 := by omega
          go_wp2_with fail
          go_loopw [16] (fun v16 wr => ∃ i : Nat, v16 = .int .i64 (i : Int) ∧ i ≤ m + 1 ∧ (0 < i → i < m → OP.hi S n9 (i - 1) = false) ∧ Below wy.heap.size wy wr) (fun v _ => m + 1 - (intOf v).toNat)
          case atStart => exact ⟨0, rfl, by omega, fun h => by omega, Below.refl _ _⟩
          case round =>
            obtain ⟨i, rfl, him1, hlow, hb⟩ := hrel
            by_cases him : i < m
            · have hii : (i : Int) < (m : Int) := by omega
              have hi0 : (0 : Int) ≤ (i : Int) := by omega
              obtain ⟨s1, e1⟩ : ∃ s1, S[i]? = some s1 := ⟨S[i]'(by rw [HSL.out]; omega), List.getElem?_eq_getElem _⟩
              obtain ⟨ag, ao, rfl, -, c1⟩ := (HSM.out wr hb).cell (k := i) (by rw [List.length_map, HSL.out]; omega)
              rw [List.getElem_map, (List.getElem?_eq_some_iff.1 e1).2] at c1
              have b1 := HS9.out i s1 e1
              have hgd : S.getD i 0 = s1 := by simp [List.getD, e1]
              by_cases hlt : s1 < (n9 : Int)
              · have hh : OP.hi S n9 i = false := by unfold OP.hi; rw [hgd, decide_eq_false_iff_not]; omega
                have HBW := Lib.hid hb
                have HH := Lib.hid hh
                clear hb e1 hlow hgd hh
                go_wp2_with fail
                go_roundw
                case rel => exact ⟨i + 1, by go_num, by omega, fun _ _ => HH.out, HBW.out⟩
                case measure => simp [intOf]; omega
              · obtain ⟨a, ha⟩ : ∃ a, P[i]? = some a := ⟨P[i]'(by rw [HPl.out]; omega), List.getElem?_eq_getElem _⟩
                have c2 := HPc.out wr hb i a ha
                have b2 := HPb.out i a ha
                have HBW := Lib.hid hb
                have HLO := Lib.hid hlow
                have HGD := Lib.hid hgd
                have HA1 := Lib.hid ha
                clear hb e1 hlow hgd ha
                go_upto_region 25 with fail
                go_quiet (fail)
                go_wp2_with fail
                obtain ⟨wx, hwx⟩ : ∃ wx, wr.drewN nq = wx := ⟨_, rfl⟩
                have HBX : Hid (Below wy.heap.size wy wx) := Lib.hid (by rw [← hwx]; exact below_drewN HBW.out _)
                try rw [hwx]
                clear hwx c1 c2
                go_loopw [17, 18, 19] (fun v17 v18 v19 wr => ∃ (lo hh : Int) (e : Nat), v17 = .int .i64 lo ∧ v18 = .int .i64 hh ∧ v19 = .int .i64 (e : Int) ∧ i ≤ e ∧ e ≤ m ∧ (0 ≤ lo ∧ lo < m ∧ 0 ≤ hh ∧ hh < m) ∧ (∀ x, i ≤ x → x < e → (n9 : Int) ≤ S.getD x 0) ∧ OP.Spn P i e lo hh ∧ Below wy.heap.size wy wr) (fun _ _ v _ => m - (intOf v).toNat)
                case atStart => exact ⟨a, a, i, rfl, rfl, rfl, Nat.le_refl _, by omega, by omega, fun x h1 h2 => by omega, OP.Spn.first HA1.out, HBX.out⟩
                case round =>
                  obtain ⟨lo, hh, e, rfl, rfl, rfl, hie, hem, ⟨l1, l2, l3, l4⟩, hin, hsp, hb⟩ := hrel
                  by_cases hem2 : e < m
                  · have hei : (e : Int) < (m : Int) := by omega
                    have he0 : (0 : Int) ≤ (e : Int) := by omega
                    obtain ⟨s2, e2⟩ : ∃ s2, S[e]? = some s2 := ⟨S[e]'(by rw [HSL.out]; omega), List.getElem?_eq_getElem _⟩
                    obtain ⟨ag2, ao2, e3, -, c2⟩ := (HSM.out wr hb).cell (k := e) (by rw [List.length_map, HSL.out]; omega)
                    rw [List.getElem_map, (List.getElem?_eq_some_iff.1 e2).2] at c2
                    simp at e3
                    obtain ⟨rfl, rfl⟩ := e3
                    have hgd2 : S.getD e 0 = s2 := by simp [List.getD, e2]
                    by_cases hge : (n9 : Int) ≤ s2
                    · obtain ⟨y, hy⟩ : ∃ y, P[e]? = some y := ⟨P[e]'(by rw [HPl.out]; omega), List.getElem?_eq_getElem _⟩
                      have c3 := HPc.out wr hb e y hy
                      obtain ⟨y1, y2⟩ := HPb.out e y hy
                      have HSP := Lib.hid (hsp.next hie hy)
                      have HIN := Lib.hid (show ∀ x, i ≤ x → x < e + 1 → (n9 : Int) ≤ S.getD x 0 from fun x h1 h2 => by
                        by_cases c : x = e
                        · subst c; rw [hgd2]; exact hge
                        · exact hin x h1 (by omega))
                      have HB7 := Lib.hid hb
                      clear hsp hin hgd2 hb e2 hy
                      go_upto_region 28 with fail
                      go_quiet (fail)
                      go_wp2_with fail
                      go_roundw
                      case rel => exact ⟨min lo y, max hh y, e + 1, by congr 1; split <;> omega, by congr 1; split <;> omega, by go_num, by omega, by omega, by omega, HIN.out, HSP.out, below_drewN HB7.out _⟩
                      case measure => simp [intOf]; omega
                    · have hie2 : i < e := by
                        rcases Nat.lt_or_ge i e with h | h
                        · exact h
                        · obtain rfl : i = e := by omega
                          rw [HGD.out] at hgd2
                          omega
                      have hhi : OP.hi S n9 e = false := by unfold OP.hi; rw [hgd2, decide_eq_false_iff_not]; exact hge
                      have hq := hsp.done HP.out (by omega) hie2 (by rw [HSL.out]; omega) hin (fun h => HLO.out h him) (fun _ => hhi)
                      have hnn : (hh - lo != (e : Int) - 1 - (i : Int)) = false := by simp [hq]
                      have HHI := Lib.hid hhi
                      have HB7 := Lib.hid hb
                      clear hsp hin hgd2 hb e2 hhi hq
                      go_wp2_with fail
                      go_roundw
                      case rel => exact ⟨e + 1, by go_num, by omega, fun _ _ => HHI.out, HB7.out⟩
                      case measure => simp [intOf]; omega
                  · obtain rfl : m = e := by omega
                    have hei : ¬ (m : Int) < (m : Int) := by omega
                    have hq := hsp.done HP.out (by omega) him (by rw [HSL.out]; omega) hin (fun h => HLO.out h him) (fun h => by rw [HSL.out] at h; omega)
                    have hnn : (hh - lo != (m : Int) - 1 - (i : Int)) = false := by simp [hq]
                    have HB7 := Lib.hid hb
                    clear hsp hin hb hq
                    go_wp2_with fail
                    go_roundw
                    case rel => exact ⟨m + 1, by go_num, by omega, fun _ h => by omega, HB7.out⟩
                    case measure => simp [intOf]; omega
            · have hii : ¬ (i : Int) < (m : Int) := by omega
              go_wp2_with fail
              go_ret
              exact ⟨rfl, bnext HBZ.out hb⟩

set_option maxRecDepth 100000 in
theorem lifted (os : Os) (started : os.Started) (H : Type) (enc : TypeId × Value → H) :
    ReturnsInHanded {} Tryd.checked os 7 .any (fun w args => (Rows.orderPiecesSpec.pre enc Tryd.prog Tryd.f7 [] false w args ∧ laidMetH Tryd.prog laidL w) ∧ sizedMet enc Tryd.prog Tryd.f7 (OpenSpec.ofChange Rows.orderPiecesSpec) false w args)
      (Rows.orderPiecesSpec.post enc Tryd.prog Tryd.f7 false true false false) := by
  refine returnsInHanded_of_change_and (C := Tryd.checked) (X := fun w _ => laidMetH Tryd.prog laidL w) (fun _ _ _ hh h => h.of_heap hh) own started (by kernel_rfl) Tryd.func7
    (ChangeSpec.witness_shaped (enc := enc) (C := Tryd.checked) (os := os) (X := fun w _ => laidMetH Tryd.prog laidL w) false (World.doorLaid Tryd.prog 46 os) #[.slice none 0 0, .int .u8 0] 8 rfl (World.shaped_of_RefB (by kernel_rfl) (by kernel_rfl)) (by kernel_rfl) (by kernel_rfl) (by kernel_rfl) (door_met os _)) ?_
  intro W base args ds gs before hval0 hW _ _ hL _
  have hval : ∀ (j : Nat) t v, Tryd.f7.params[j]? = some t → args[j]? = some v → Value.okWide Tryd.prog W .any base t v := hval0
  have hW' := hW
  obtain ⟨p, q, hA0, hV, rfl, hfz, hnd⟩ := hW
  have hA : DataW.TrodAll enc Tryd.prog W 0 (fun _ => true) true Tryd.f7.params.toList args.toList ds p := hA0
  rw [Tryd.params7] at hA hval
  obtain ⟨v0, vs0, d0, ds0, p0, q0, hargs, rfl, rfl, h0, r0⟩ := trodAll_cons hA
  obtain ⟨v1, vs1, d1, ds1, p1, q1, rfl, rfl, rfl, h1, r1⟩ := trodAll_cons r0
  obtain ⟨rfl, rfl, rfl⟩ := trodAll_nil r1
  obtain rfl : args = #[v0, v1] := by cases args; simp_all
  obtain ⟨rfl, rfl⟩ := trodVars_none hV
  obtain ⟨g, hlaid⟩ := of_laid hL
  have k0 := h0
  have lt0 : ∀ x ∈ p0, x.block < W.heap.size := by obtain ⟨m, hm⟩ := k0; exact DataW.trod_lt m _ _ _ hm
  have k1 := h1
  have lt1 : ∀ x ∈ p1, x.block < W.heap.size := by obtain ⟨m, hm⟩ := k1; exact DataW.trod_lt m _ _ _ hm
  obtain ⟨a0, H0, L0, E0⟩ := open_l (hval 0 26 v0 rfl rfl) h0
  obtain ⟨a1, rfl, rfl, rfl, wa1⟩ := open_int Tryd.underlying5 (hval 1 5 v1 rfl rfl) h1
  clear hA0 hval0
  refine (walk v0 a0 a1 g wa1 W hlaid H0 L0 E0).mono fun e W' ⟨he, bel⟩ => ?_
  subst he
  exact ⟨_, rfl, _, _, _, [], _, [], hW', trodAll_mk1 (shut_bool Tryd.underlying4 _), (trodAll_cons_mk (Below.trod laidOut (by kernel_rfl) (of_decide_eq_true (by kernel_rfl)) k0 bel lt0) (trodAll_cons_mk (Below.trod laidOut (by kernel_rfl) (of_decide_eq_true (by kernel_rfl)) k1 bel lt1) trodAll_mk0)), rfl, bel.frame _, fun h => by cases h⟩

theorem over : Rows.orderPiecesRow.holds Tryd.pinned (OpenSpec.ofChange Rows.orderPiecesSpec) :=
  OpenClaim.holds_of_wide 7 Tryd.f7 rfl rfl rfl rfl rfl rfl rfl ⟨rfl, rfl, rfl, rfl, rfl⟩ rfl rfl rfl rfl rfl (by kernel_rfl) Tryd.func7 (by kernel_rfl)
    (of_decide_eq_true (by kernel_rfl)) (by unfold Func.isWrapper; first | (rw [if_pos (by decide +kernel)]; kernel_rfl) | (rw [if_neg (by decide +kernel)]; exact ⟨rfl, rfl⟩))
    (fun os started H enc _ => lifted os started H enc)

/-- The row's card, tied to the program's text. -/
theorem card : Rows.OrderPiecesCardSaid :=
  Claim7.holds_tied_plain_at .later [] [.data] true Rows.orderPiecesCard.stood.harness false
    over (fun _ h => by cases h) (by kernel_rfl) (fun _ h => by cases h) orderPieces_row_tie rfl ⟨rfl, rfl⟩ (by kernel_rfl) rfl
    (fun f fn hf hfn => by
      obtain rfl : f = 7 := Option.some.inj ((show Tryd.prog.funcNamed "abugida/abugidalaw07.OrderPieces" = some 7 by kernel_rfl).symm.trans hf) |>.symm
      obtain rfl : fn = Tryd.f7 := (Option.some.inj (Tryd.func7.symm.trans hfn)).symm
      exact ⟨by kernel_rfl, fun j t ht => by
        rw [Tryd.params7] at ht
        have hm : t ∈ [26, 5] := by simpa using Array.mem_of_getElem? ht
        have hall : ([26, 5].all fun u => !Tryd.prog.wantsStandIn u) = true := by kernel_rfl
        exact (show Tryd.prog.wantsStandIn t = false by simpa using List.all_eq_true.1 hall t hm)⟩)
    (by kernel_rfl)

end Go.Proofs.YtbgmbcngkmlfeaaDoor.orderPieces
namespace Go.Proofs.YtbgmbcngkmlfeaaDoor
theorem orderPieces_proved : Rows.OrderPiecesCardSaid := orderPieces.card
#print axioms orderPieces_proved
end Go.Proofs.YtbgmbcngkmlfeaaDoor
