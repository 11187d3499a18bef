/- For all levels and every text OrderVisual returns true: Visual returns what the reference returns. No conditions. -/
import Derived.Test.YtbgmbcngkmlfeaaDoorOrd20
import Derived.Test.YtbgmbcngkmlfeaaDoorClsLaid
import Derived.ChangeMaps5
namespace Go.Proofs.YtbgmbcngkmlfeaaDoor.orderVisual
open Go.ChangeShapes Go.WideShapes Go.ChangeAt Go.RowKit Go.Joins Go.Deep Go.ChangeMaps
set_option linter.unusedVariables false

set_option maxRecDepth 100000 in
set_option maxHeartbeats 8000000 in
theorem walk (v0 : Value) (a0 : List Int) (a1 : ByteArray) (g : Nat × Nat) (wa1 : a1.size ≤ maxLen) (w : World) (hl : Laid w g) (H0 : RowAt w v0 (a0.map (Value.int .i64))) (L0 : a0.length ≤ maxLen ∧ ∀ a n c, v0 = .slice a n c → n ≤ c) (E0 : ∀ x, x ∈ a0 → -9223372036854775808 ≤ x ∧ x ≤ 9223372036854775807) :
    Calls Tryd.prog 5 #[v0, .string a1] w fun e w' => e = .returned (.bool true) ∧ Below w.heap.size w w' := by
  obtain ⟨va, vc, rfl, hr0⟩ := H0.out
  rw [List.length_map] at H0 ⊢
  obtain ⟨n0, hn0⟩ : ∃ n0, a0.length = n0 := ⟨_, rfl⟩
  rw [hn0] at H0 ⊢
  have hnc : n0 ≤ vc := by have := L0.2 va a0.length vc (by rw [List.length_map]); omega
  obtain ⟨m, hm⟩ : ∃ m : Nat, (if (60 : Int) < (n0 : Int) then 60 else (n0 : Int)) = (m : Int) := ⟨min n0 60, by split <;> omega⟩
  have hm2 : min (n0 : Int) 60 = (m : Int) := by split at hm <;> omega
  have hm60 : m ≤ 60 ∧ m ≤ n0 := by split at hm <;> omega
  have hmci : (m : Int) ≤ (vc : Int) := by omega
  have hmi0 : (0 : Int) ≤ (m : Int) := by omega
  have HA : Hid (∀ V, Below w.heap.size w V → RowAt V (.slice va m vc) ((a0.take m).map (Value.int .i64))) := Lib.hid fun V hV => by
    have h := row_first (H0.keep hV) (m := m) (by rw [List.length_map, hn0]; exact hm60.2)
    rwa [← List.map_take] at h
  have HAL : Hid ((a0.take m).length = m) := Lib.hid (by rw [List.length_take, hn0]; omega)
  obtain ⟨A, hA⟩ : ∃ A, a0.take m = A := ⟨_, rfl⟩
  rw [hA] at HA HAL
  have hm60' := hm60.1
  clear H0 L0 E0 hr0 hn0 hA hm60
  obtain ⟨i0, hi0, hz0, hz1, hz2⟩ := info_parts info_int
  have HL : Hid (∀ B, Below w.heap.size w B → Laid B g) := Lib.hid fun B hb => hl.mono hb
  have HS0 := Lib.hid (sane_any g w hl)
  clear hl
  go_enter Tryd.func5, Tryd.ntmps5
  go_wp2_with fail
  refine HS0.out.mono ?_
  rintro e w1 ⟨rfl, hb1⟩
  have HB1 := Lib.hid hb1
  clear hb1
  go_wp2_with fail
  go_loopw [6, 19] (fun v6 v19 wr => ∃ k : Nat, v19 = .int .i64 (k : Int) ∧ k ≤ m ∧ wr.ownsRow w1.heap.size 3 1 v6 k (((A.take k).map (· % 4)).map (Value.int .i64)) ∧ Below w1.heap.size w1 wr) (fun _ v _ => m - (intOf v).toNat)
  case atStart => exact ⟨0, rfl, Nat.zero_le _, World.ownsRow_nil _ _ _ _, Below.refl _ _⟩
  case round =>
    obtain ⟨k, rfl, hk, hrow, hbw⟩ := hrel
    by_cases hkm : k < m
    · have hki : (k : Int) < (m : Int) := by omega
      have hk0 : (0 : Int) ≤ (k : Int) := by omega
      obtain ⟨x, hx⟩ : ∃ x, A[k]? = some x := ⟨A[k]'(by rw [HAL.out]; exact hkm), List.getElem?_eq_getElem _⟩
      obtain ⟨ag, ao, rfl, -, hc⟩ := (HA.out wr (bnext HB1.out hbw)).cell (k := k) (by rw [List.length_map, HAL.out]; exact hkm)
      rw [List.getElem_map, show A[k]'(by rw [HAL.out]; exact hkm) = x from (List.getElem?_eq_some_iff.1 hx).2] at hc
      have ht : Hid (((A.take (k + 1)).map (· % 4)).map (Value.int .i64) = ((A.take k).map (· % 4)).map (Value.int .i64) ++ [.int .i64 (x % 4)]) := Lib.hid (by rw [List.take_add_one, hx]; simp)
      have hws := hbw.size
      clear hx
      go_wp2_with (first | (go_at_call 23; refine (mod_any x 4 _ (by omega) (by omega)).mono ?_; rintro e w9 ⟨rfl, he⟩; have he' := he.symm; subst he') | (at_builtin; refine wpList_append_own_at _ rfl _ _ 26 rfl w1.heap.size 3 i0 (.int .i64 0) 1 8 Tryd.underlying26 hi0 hz0 hz1 hz2 rfl (by decide) _ _ _ rfl (hrow.alloc _) ⟨wr.heap.size, 0, none⟩ 1 1 [.int .i64 (x % 4)] rfl rfl (cell_one_new wr _ _) (by simp [Value.oneCell']) (by unfold maxLen; omega) (by omega) (by simp; omega) ?_; intro v' w6 hown hgrow _ _; obtain ⟨g5, cap5, rfl⟩ := ownsRow_succ hown))
      go_roundw
      case rel => exact ⟨k + 1, by go_num, hkm, by rw [ht.out]; exact hown, span_app hrow hbw hgrow⟩
      case measure => simp [intOf]; omega
    · obtain rfl : m = k := by omega
      rw [List.take_of_length_le (Nat.le_of_eq HAL.out)] at hrow
      obtain ⟨sa, sc, rfl⟩ := own_shape hrow
      have HSM : Hid (∀ V, Below wr.heap.size wr V → RowAt V (.slice sa m sc) ((A.map (· % 4)).map (Value.int .i64))) := Lib.hid fun V hV => (row_own hrow (by simp [HAL.out])).keep hV
      have HSL : Hid ((A.map (· % 4)).length = m) := Lib.hid (by rw [List.length_map, HAL.out])
      have HBR := Lib.hid (bnext HB1.out hbw)
      obtain ⟨S, hS⟩ : ∃ S, A.map (· % 4) = S := ⟨_, rfl⟩
      rw [hS] at HSM HSL
      clear hrow hbw hS
      go_wp2_with fail
      refine (oshort_any a1 _ wa1).mono ?_
      rintro e _ ⟨rfl, rfl⟩
      have hts := SH_size a1
      obtain ⟨t, ht⟩ : ∃ t, SH a1 = t := ⟨_, rfl⟩
      rw [ht] at hts ⊢
      have HLV := Lib.hid fun V => rlevels7_any t V (by omega)
      have HLL := Lib.hid (OP.levels_len t)
      obtain ⟨LT, hLT⟩ : ∃ LT, OP.levels t = LT := ⟨_, rfl⟩
      rw [hLT] at HLV HLL
      obtain ⟨tn, htn⟩ : ∃ tn, t.size = tn := ⟨_, rfl⟩
      rw [htn] at HLV HLL hts
      clear ht hLT htn
      go_wp2_with fail
      refine (HLV.out _).mono ?_
      rintro e w3 ⟨vt, rfl, hot, hb3⟩
      obtain ⟨ta, tc, rfl⟩ := own_shape hot
      have HRT := Lib.hid (row_own hot (by rw [List.length_map, HLL.out]))
      have HB3 := Lib.hid (bnext HBR.out hb3)
      have HBR3 := Lib.hid hb3
      clear hot hb3 HLV
      go_upto_region 10 with fail
      obtain ⟨W4, hW4⟩ : ∃ W4, w3.alloc (.cells #[.slice va m vc, .slice sa m sc, .slice ta tn tc] 26) = W4 := ⟨_, rfl⟩
      obtain ⟨G, hG⟩ : ∃ G, w3.heap.size = G := ⟨_, rfl⟩
      have hbx : W4.heap[G]? = some (.cells #[.slice va m vc, .slice sa m sc, .slice ta tn tc] 26 (0, 0)) := by rw [← hW4, ← hG]; exact heap_alloc_new w3 _
      have hb4 : Below w3.heap.size w3 W4 := by rw [← hW4]; exact balloc (Below.refl _ _) _
      try rw [hW4]
      try rw [hG]
      have HEL : Hid (∀ V, Below W4.heap.size W4 V → ∀ j, j < 3 → ∃ (za : Option Addr) (zn zc : Nat) (Z : List Int), V.cell? ⟨G, j, none⟩ = some (.slice za zn zc) ∧ RowAt V (.slice za zn zc) (Z.map (Value.int .i64)) ∧ Z.length = zn ∧ zn ≤ 1000000000) := Lib.hid fun V hV j hj => by
        have hx := (hV.block G (Array.getElem?_eq_some_iff.1 hbx).1).trans hbx
        have h0 := bnext hb4 hV
        match j, hj with
        | 0, _ => exact ⟨va, m, vc, A, by simp [World.cell?, hx], HA.out V (bnext HB3.out h0), HAL.out, by omega⟩
        | 1, _ => exact ⟨sa, m, sc, S, by simp [World.cell?, hx], HSM.out V (bnext HBR3.out h0), HSL.out, by omega⟩
        | 2, _ => exact ⟨ta, tn, tc, LT, by simp [World.cell?, hx], HRT.out.keep h0, HLL.out, by omega⟩
      have HB4 := Lib.hid (bnext HB3.out hb4)
      clear hW4 hG hbx hb4
      go_wp2_with fail
      go_loopw [36] (fun v36 wr => ∃ j : Nat, v36 = .int .i64 (j : Int) ∧ j ≤ 3 ∧ Below W4.heap.size W4 wr) (fun v _ => 3 - (intOf v).toNat)
      case atStart => exact ⟨0, rfl, by decide, Below.refl _ _⟩
      case round =>
        obtain ⟨j, rfl, hj, hb⟩ := hrel
        by_cases hj3 : j < 3
        · have hji : (j : Int) < 3 := by omega
          have hj0 : (0 : Int) ≤ (j : Int) := by omega
          obtain ⟨za, zn, zc, Z, c1, hrz, hzl, hz9⟩ := HEL.out wr hb j hj3
          have HRZ := Lib.hid hrz
          have HZL := Lib.hid hzl
          have HBJ := Lib.hid hb
          have HVI := Lib.hid (ovisual_any Z _ wr hrz (by omega))
          have HVL : Hid ((OP.ints (OP.vis Z)).length = zn) := Lib.hid (by rw [OP.ints_len, OP.vis_len, hzl])
          have HRV := Lib.hid fun V (hV : Below wr.heap.size wr V) => rvisual7_any Z _ V (hrz.keep hV) (by omega)
          rw [hzl] at HVI HRV
          obtain ⟨Y, hY⟩ : ∃ Y, OP.ints (OP.vis Z) = Y := ⟨_, rfl⟩
          rw [hY] at HVI HRV HVL
          clear hrz hzl hb hY
          go_wp2_with fail
          refine HVI.out.mono ?_
          rintro e w5 ⟨u5, rfl, ho5, hb5⟩
          obtain ⟨p5, q5, rfl⟩ := own_shape ho5
          have HR5 := Lib.hid (row_own ho5 (by rw [List.length_map, HVL.out]))
          have HB5 := Lib.hid hb5
          clear ho5 hb5
          go_wp2_with fail
          refine (HRV.out _ HB5.out).mono ?_
          rintro e w6 ⟨u6, rfl, ho6, hb6⟩
          obtain ⟨p6, q6, rfl⟩ := own_shape ho6
          have HR6 := Lib.hid (row_own ho6 (by rw [List.length_map, HVL.out]))
          replace HR5 := Lib.hid (HR5.out.keep hb6)
          have HB6 := Lib.hid (bnext HB5.out hb6)
          clear ho6 hb6
          go_wp2_with fail
          refine (oequal_any _ _ Y _ HR5.out HR6.out (by rw [HVL.out]; omega)).mono ?_
          rintro e w7 ⟨rfl, hb7⟩
          have HB7 := Lib.hid (bnext HBJ.out (bnext HB6.out hb7))
          clear hb7
          go_wp2_with fail
          go_roundw
          case rel => exact ⟨j + 1, by go_num, hj3, HB7.out⟩
          case measure => simp [intOf]; omega
        · obtain rfl : j = 3 := by omega
          go_wp2_with fail
          go_ret
          exact ⟨rfl, bnext HB4.out hb⟩

set_option maxRecDepth 100000 in
theorem lifted (os : Os) (started : os.Started) (H : Type) (enc : TypeId × Value → H) :
    ReturnsInHanded {} Tryd.checked os 5 .any (fun w args => (Rows.orderVisualSpec.pre enc Tryd.prog Tryd.f5 [] false w args ∧ laidMetH Tryd.prog laidL w) ∧ sizedMet enc Tryd.prog Tryd.f5 (OpenSpec.ofChange Rows.orderVisualSpec) false w args)
      (Rows.orderVisualSpec.post enc Tryd.prog Tryd.f5 false true false false) := by
  refine returnsInHanded_of_change_and (C := Tryd.checked) (X := fun w _ => laidMetH Tryd.prog laidL w) (fun _ _ _ hh h => h.of_heap hh) own started (by kernel_rfl) Tryd.func5
    (ChangeSpec.witness_shaped (enc := enc) (C := Tryd.checked) (os := os) (X := fun w _ => laidMetH Tryd.prog laidL w) false (World.doorLaid Tryd.prog 46 os) #[.slice none 0 0, .string ByteArray.empty] 8 rfl (World.shaped_of_RefB (by kernel_rfl) (by kernel_rfl)) (by kernel_rfl) (by kernel_rfl) (by kernel_rfl) (door_met os _)) ?_
  intro W base args ds gs before hval0 hW _ _ hL _
  have hval : ∀ (j : Nat) t v, Tryd.f5.params[j]? = some t → args[j]? = some v → Value.okWide Tryd.prog W .any base t v := hval0
  have hW' := hW
  obtain ⟨p, q, hA0, hV, rfl, hfz, hnd⟩ := hW
  have hA : DataW.TrodAll enc Tryd.prog W 0 (fun _ => true) true Tryd.f5.params.toList args.toList ds p := hA0
  rw [Tryd.params5] at hA hval
  obtain ⟨v0, vs0, d0, ds0, p0, q0, hargs, rfl, rfl, h0, r0⟩ := trodAll_cons hA
  obtain ⟨v1, vs1, d1, ds1, p1, q1, rfl, rfl, rfl, h1, r1⟩ := trodAll_cons r0
  obtain ⟨rfl, rfl, rfl⟩ := trodAll_nil r1
  obtain rfl : args = #[v0, v1] := by cases args; simp_all
  obtain ⟨rfl, rfl⟩ := trodVars_none hV
  obtain ⟨g, hlaid⟩ := of_laid hL
  have k0 := h0
  have lt0 : ∀ x ∈ p0, x.block < W.heap.size := by obtain ⟨m, hm⟩ := k0; exact DataW.trod_lt m _ _ _ hm
  have k1 := h1
  have lt1 : ∀ x ∈ p1, x.block < W.heap.size := by obtain ⟨m, hm⟩ := k1; exact DataW.trod_lt m _ _ _ hm
  obtain ⟨a0, H0, L0, E0⟩ := open_l (hval 0 26 v0 rfl rfl) h0
  obtain ⟨a1, rfl, rfl, rfl, wa1⟩ := open_string Tryd.underlying9 (hval 1 9 v1 rfl rfl) h1
  clear hA0 hval0
  refine (walk v0 a0 a1 g wa1 W hlaid H0 L0 E0).mono fun e W' ⟨he, bel⟩ => ?_
  subst he
  exact ⟨_, rfl, _, _, _, [], _, [], hW', trodAll_mk1 (shut_bool Tryd.underlying4 _), (trodAll_cons_mk (Below.trod laidOut (by kernel_rfl) (of_decide_eq_true (by kernel_rfl)) k0 bel lt0) (trodAll_cons_mk (Below.trod laidOut (by kernel_rfl) (of_decide_eq_true (by kernel_rfl)) k1 bel lt1) trodAll_mk0)), rfl, bel.frame _, fun h => by cases h⟩

theorem over : Rows.orderVisualRow.holds Tryd.pinned (OpenSpec.ofChange Rows.orderVisualSpec) :=
  OpenClaim.holds_of_wide 5 Tryd.f5 rfl rfl rfl rfl rfl rfl rfl ⟨rfl, rfl, rfl, rfl, rfl⟩ rfl rfl rfl rfl rfl (by kernel_rfl) Tryd.func5 (by kernel_rfl)
    (of_decide_eq_true (by kernel_rfl)) (by unfold Func.isWrapper; first | (rw [if_pos (by decide +kernel)]; kernel_rfl) | (rw [if_neg (by decide +kernel)]; exact ⟨rfl, rfl⟩))
    (fun os started H enc _ => lifted os started H enc)

/-- The row's card, tied to the program's text. -/
theorem card : Rows.OrderVisualCardSaid :=
  Claim7.holds_tied_plain_at .later [] [.data] true Rows.orderVisualCard.stood.harness false
    over (fun _ h => by cases h) (by kernel_rfl) (fun _ h => by cases h) orderVisual_row_tie rfl ⟨rfl, rfl⟩ (by kernel_rfl) rfl
    (fun f fn hf hfn => by
      obtain rfl : f = 5 := Option.some.inj ((show Tryd.prog.funcNamed "abugida/abugidalaw07.OrderVisual" = some 5 by kernel_rfl).symm.trans hf) |>.symm
      obtain rfl : fn = Tryd.f5 := (Option.some.inj (Tryd.func5.symm.trans hfn)).symm
      exact ⟨by kernel_rfl, fun j t ht => by
        rw [Tryd.params5] at ht
        have hm : t ∈ [26, 9] := by simpa using Array.mem_of_getElem? ht
        have hall : ([26, 9].all fun u => !Tryd.prog.wantsStandIn u) = true := by kernel_rfl
        exact (show Tryd.prog.wantsStandIn t = false by simpa using List.all_eq_true.1 hall t hm)⟩)
    (by kernel_rfl)

end Go.Proofs.YtbgmbcngkmlfeaaDoor.orderVisual
namespace Go.Proofs.YtbgmbcngkmlfeaaDoor
theorem orderVisual_proved : Rows.OrderVisualCardSaid := orderVisual.card
#print axioms orderVisual_proved
end Go.Proofs.YtbgmbcngkmlfeaaDoor
