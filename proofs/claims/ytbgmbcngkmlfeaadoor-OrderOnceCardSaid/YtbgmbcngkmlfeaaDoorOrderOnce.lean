/- For all levels OrderOnce returns true: each index is seen once; neighbours of one level are seen as neighbours. No conditions. -/
import Derived.Test.YtbgmbcngkmlfeaaDoorOrd21
import Derived.Test.YtbgmbcngkmlfeaaDoorClsLaid
import Derived.ChangeMaps5
namespace Go.Proofs.YtbgmbcngkmlfeaaDoor.orderOnce
open Go.ChangeShapes Go.WideShapes Go.ChangeAt Go.RowKit Go.Joins Go.Deep Go.ChangeMaps
set_option linter.unusedVariables false

set_option maxRecDepth 100000 in
set_option maxHeartbeats 8000000 in
theorem walk (v0 : Value) (a0 : List Int) (g : Nat × Nat)  (w : World) (hl : Laid w g) (H0 : RowAt w v0 (a0.map (Value.int .i64))) (L0 : a0.length ≤ maxLen ∧ ∀ a n c, v0 = .slice a n c → n ≤ c) (E0 : ∀ x, x ∈ a0 → -9223372036854775808 ≤ x ∧ x ≤ 9223372036854775807) :
    Calls Tryd.prog 6 #[v0] w fun e w' => e = .returned (.bool true) ∧ Below w.heap.size w w' := by
  obtain ⟨va, vc, rfl, hr0⟩ := H0.out
  rw [List.length_map] at H0 ⊢
  obtain ⟨n0, hn0⟩ : ∃ n0, a0.length = n0 := ⟨_, rfl⟩
  rw [hn0] at H0 ⊢
  have hnc : n0 ≤ vc := by have := L0.2 va a0.length vc (by rw [List.length_map]); omega
  obtain ⟨m, hm⟩ : ∃ m : Nat, (if (60 : Int) < (n0 : Int) then 60 else (n0 : Int)) = (m : Int) := ⟨min n0 60, by split <;> omega⟩
  have hm2 : min (n0 : Int) 60 = (m : Int) := by split at hm <;> omega
  have hm60 : m ≤ 60 ∧ m ≤ n0 := by split at hm <;> omega
  have hmci : (m : Int) ≤ (vc : Int) := by omega
  have hmi0 : (0 : Int) ≤ (m : Int) := by omega
  have HA : Hid (∀ V, Below w.heap.size w V → RowAt V (.slice va m vc) ((a0.take m).map (Value.int .i64))) := Lib.hid fun V hV => by
    have h := row_first (H0.keep hV) (m := m) (by rw [List.length_map, hn0]; exact hm60.2)
    rwa [← List.map_take] at h
  have HAL : Hid ((a0.take m).length = m) := Lib.hid (by rw [List.length_take, hn0]; omega)
  obtain ⟨A, hA⟩ : ∃ A, a0.take m = A := ⟨_, rfl⟩
  rw [hA] at HA HAL
  have hm60' := hm60.1
  clear H0 L0 E0 hr0 hn0 hA hm60
  obtain ⟨i0, hi0, hz0, hz1, hz2⟩ := info_parts info_int
  have HL : Hid (∀ B, Below w.heap.size w B → Laid B g) := Lib.hid fun B hb => hl.mono hb
  have HS0 := Lib.hid (sane_any g w hl)
  clear hl
  go_enter Tryd.func6, Tryd.ntmps6
  go_wp2_with fail
  refine HS0.out.mono ?_
  rintro e w1 ⟨rfl, hb1⟩
  have HB1 := Lib.hid hb1
  clear hb1
  go_wp2_with fail
  go_loopw [4, 20] (fun v6 v19 wr => ∃ k : Nat, v19 = .int .i64 (k : Int) ∧ k ≤ m ∧ wr.ownsRow w1.heap.size 3 1 v6 k (((A.take k).map (· % 10)).map (Value.int .i64)) ∧ Below w1.heap.size w1 wr) (fun _ v _ => m - (intOf v).toNat)
  case atStart => exact ⟨0, rfl, Nat.zero_le _, World.ownsRow_nil _ _ _ _, Below.refl _ _⟩
  case round =>
    obtain ⟨k, rfl, hk, hrow, hbw⟩ := hrel
    by_cases hkm : k < m
    · have hki : (k : Int) < (m : Int) := by omega
      have hk0 : (0 : Int) ≤ (k : Int) := by omega
      obtain ⟨x, hx⟩ : ∃ x, A[k]? = some x := ⟨A[k]'(by rw [HAL.out]; exact hkm), List.getElem?_eq_getElem _⟩
      obtain ⟨ag, ao, rfl, -, hc⟩ := (HA.out wr (bnext HB1.out hbw)).cell (k := k) (by rw [List.length_map, HAL.out]; exact hkm)
      rw [List.getElem_map, show A[k]'(by rw [HAL.out]; exact hkm) = x from (List.getElem?_eq_some_iff.1 hx).2] at hc
      have ht : Hid (((A.take (k + 1)).map (· % 10)).map (Value.int .i64) = ((A.take k).map (· % 10)).map (Value.int .i64) ++ [.int .i64 (x % 10)]) := Lib.hid (by rw [List.take_add_one, hx]; simp)
      have hws := hbw.size
      clear hx
      go_wp2_with (first | (go_at_call 23; refine (mod_any x 10 _ (by omega) (by omega)).mono ?_; rintro e w9 ⟨rfl, he⟩; have he' := he.symm; subst he') | (at_builtin; refine wpList_append_own_at _ rfl _ _ 26 rfl w1.heap.size 3 i0 (.int .i64 0) 1 8 Tryd.underlying26 hi0 hz0 hz1 hz2 rfl (by decide) _ _ _ rfl (hrow.alloc _) ⟨wr.heap.size, 0, none⟩ 1 1 [.int .i64 (x % 10)] rfl rfl (cell_one_new wr _ _) (by simp [Value.oneCell']) (by unfold maxLen; omega) (by omega) (by simp; omega) ?_; intro v' w6 hown hgrow _ _; obtain ⟨g5, cap5, rfl⟩ := ownsRow_succ hown))
      go_roundw
      case rel => exact ⟨k + 1, by go_num, hkm, by rw [ht.out]; exact hown, span_app hrow hbw hgrow⟩
      case measure => simp [intOf]; omega
    · obtain rfl : m = k := by omega
      rw [List.take_of_length_le (Nat.le_of_eq HAL.out)] at hrow
      obtain ⟨sa, sc, rfl⟩ := own_shape hrow
      have HSM : Hid (∀ V, Below wr.heap.size wr V → RowAt V (.slice sa m sc) ((A.map (· % 10)).map (Value.int .i64))) := Lib.hid fun V hV => (row_own hrow (by simp [HAL.out])).keep hV
      have HSL : Hid ((A.map (· % 10)).length = m) := Lib.hid (by rw [List.length_map, HAL.out])
      have HS9 : Hid (∀ (i : Nat) (s : Int), (A.map (· % 10))[i]? = some s → 0 ≤ s ∧ s < 10) := Lib.hid fun i s hs => by
        rw [List.getElem?_map, Option.map_eq_some_iff] at hs
        obtain ⟨y, -, rfl⟩ := hs
        omega
      have HBR := Lib.hid (bnext HB1.out hbw)
      obtain ⟨S, hS⟩ : ∃ S, A.map (· % 10) = S := ⟨_, rfl⟩
      rw [hS] at HSM HSL HS9
      clear hrow hbw hS
      have HVI := Lib.hid fun V (hV : Below wr.heap.size wr V) => ovisual_any S _ V (HSM.out V hV) (by rw [HSL.out]; omega)
      rw [HSL.out] at HVI
      go_wp2_with fail
      refine (HVI.out _ (Below.refl _ _)).mono ?_
      rintro e w3 ⟨u3, rfl, ho3, hb3⟩
      obtain ⟨pa, pc, rfl⟩ := own_shape ho3
      have HV : Hid (∀ V, Below w3.heap.size w3 V → RowAt V (.slice pa m pc) ((OP.ints (OP.vis S)).map (Value.int .i64))) := Lib.hid fun V hV => (row_own ho3 (by rw [List.length_map, OP.ints_len, OP.vis_len, HSL.out])).keep hV
      replace HSM := Lib.hid fun V (hV : Below w3.heap.size w3 V) => HSM.out V (bnext hb3 hV)
      have HB3 := Lib.hid (bnext HBR.out hb3)
      clear ho3 hb3 HVI
      obtain ⟨w4, hmk4, ho4, hb4, hlt4⟩ := make_ints w3 m w3.heap.size (Nat.le_refl _) (by omega)
      obtain ⟨w5, hmk5, ho5, hb5, hlt5⟩ := make_bools w4 m w3.heap.size (by omega) (by omega)
      have ho45 := own_below ho4 hb5
      have hb35 := bnext hb4 hb5
      obtain ⟨D, hD⟩ : ∃ D, w3.heap.size = D := ⟨_, rfl⟩
      obtain ⟨E, hE⟩ : ∃ E, w4.heap.size = E := ⟨_, rfl⟩
      have hDE : D < E := by omega
      go_upto_region 13 with fail
      rw [hD] at ho45 ho5
      rw [hE] at ho5
      have HX := Lib.hid (⟨ho45, ho5, hb35⟩ : _ ∧ _ ∧ _)
      try rw [hD]
      try rw [hE]
      have HD := Lib.hid hD
      clear hmk4 hmk5 ho4 ho5 ho45 hb4 hb5 hb35 hlt4 hlt5 hD hE
      go_wp2_with fail
      go_loopw [45] (fun v45 wr => ∃ (k : Nat) (P : List Int) (Q : List Bool), v45 = .int .i64 (k : Int) ∧ k ≤ m ∧ P.length = m ∧ Q.length = m ∧ OP.OneP (OP.vis S) k P ∧ OP.OneQ (OP.vis S) k Q ∧ wr.ownsRow D 3 1 (.slice (some ⟨D, 0, none⟩) m m) m (P.map (Value.int .i64)) ∧ wr.ownsRow D 4 1 (.slice (some ⟨E, 0, none⟩) m m) m (Q.map Value.bool) ∧ Below w3.heap.size w3 wr) (fun v _ => m - (intOf v).toNat)
      case atStart => exact ⟨0, List.replicate m 0, List.replicate m false, rfl, Nat.zero_le _, by simp, by simp, fun j x h => by omega, OP.OneQ.none _ _, HX.out.1, HX.out.2.1, HX.out.2.2⟩
      case round =>
        obtain ⟨k, P, Q, rfl, hk, hPl, hQl, hP, hQ, hrp, hrq, hb⟩ := hrel
        by_cases hkm : k < m
        · have hki : (k : Int) < (m : Int) := by omega
          have hk0 : (0 : Int) ≤ (k : Int) := by omega
          obtain ⟨x, hx, hxm⟩ := OP.vis_at (L := S) (k := k) (by rw [HSL.out]; exact hkm)
          rw [HSL.out] at hxm
          have hb' : Below w3.heap.size w3 wr := hb
          have hil : k < ((OP.ints (OP.vis S)).map (Value.int .i64)).length := by rw [List.length_map, OP.ints_len, OP.vis_len, HSL.out]; exact hkm
          obtain ⟨ag, ao, rfl, -, hc⟩ := (HV.out wr hb').cell (k := k) hil
          rw [show ((OP.ints (OP.vis S)).map (Value.int .i64))[k]'hil = .int .i64 (x : Int) by
            rw [List.getElem_map]
            congr 1
            have := (List.getElem?_eq_some_iff.1 hx).2
            simp [OP.ints, this]] at hc
          have hx0 : (0 : Int) ≤ (x : Int) := by omega
          have hxi : (x : Int) < (m : Int) := by omega
          have hcq := hrq.cellAt x (by omega)
          rw [List.getElem?_map, hQ.not (OP.vis_nodup S) hx (by omega)] at hcq
          have hfq := hrq.frozenAt x
          obtain ⟨hsq, hgq⟩ := hrq.stored x (.bool true)
          have hrp2 := ((KpR.refl (.slice (some ⟨E, 0, none⟩) m m) wr).row hgq).own hrp (fun q hq => by simp [Value.ownBlock] at hq ⊢; omega)
          obtain ⟨yp, hyp⟩ : ∃ yp, P[x]? = some yp := ⟨P[x]'(by omega), List.getElem?_eq_getElem _⟩
          have hcp := hrp2.cellAt x (by omega)
          rw [List.getElem?_map, hyp] at hcp
          have hfp := hrp2.frozenAt x
          obtain ⟨hsp, hgp⟩ := hrp2.stored x (.int .i64 (k : Int))
          have hrq2 := ((KpR.refl (.slice (some ⟨D, 0, none⟩) m m) _).row hgp).own hsq (fun q hq => by simp [Value.ownBlock] at hq ⊢; omega)
          have HR := Lib.hid (⟨hsp, hrq2, bset (bset hb (p := ⟨E, x, none⟩) (by show w3.heap.size ≤ E; rw [HD.out]; omega) (.bool true)) (p := ⟨D, x, none⟩) (by show w3.heap.size ≤ D; rw [HD.out]; exact Nat.le_refl _) (.int .i64 (k : Int))⟩ : _ ∧ _ ∧ _)
          have HPn := Lib.hid (hP.next (OP.vis_nodup S) hx (by omega))
          have HQn := Lib.hid (hQ.next hx)
          have HPL := Lib.hid hPl
          have HQL := Lib.hid hQl
          clear hP hQ hPl hQl hsp hgp hsq hgq hrq2 hrp2 hrp hrq hx hyp hil hb hb'
          go_wp2_with fail
          go_roundw
          case rel => exact ⟨k + 1, P.set x (k : Int), Q.set x true, by go_num, hkm, by rw [List.length_set]; exact HPL.out, by rw [List.length_set]; exact HQL.out, HPn.out, HQn.out, by rw [List.map_set]; exact HR.out.1, by rw [List.map_set]; exact HR.out.2.1, HR.out.2.2⟩
          case measure => simp [intOf]; omega
        · obtain rfl : m = k := by omega
          have HP : Hid (OP.OneP (OP.vis S) S.length P) := Lib.hid (by rw [HSL.out]; exact hP)
          have HPc : Hid (∀ V, Below wr.heap.size wr V → ∀ x a, P[x]? = some a → V.cell? ⟨D, x, none⟩ = some (.int .i64 a)) := Lib.hid fun V hV x a ha => by
            have h1 := (own_below hrp hV).cellAt x (by have := (List.getElem?_eq_some_iff.1 ha).1; omega)
            rw [h1, List.getElem?_map, ha]
            rfl
          have hb' : Below w3.heap.size w3 wr := hb
          replace HSM := Lib.hid fun V (hV : Below wr.heap.size wr V) => HSM.out V (bnext hb' hV)
          have HBZ := Lib.hid (bnext HB3.out hb')
          clear hP hQ hPl hQl hrp hrq hb hb'
          obtain ⟨wy, hwy⟩ : ∃ wy, wy = wr := ⟨_, rfl⟩
          subst hwy
          go_wp2_with fail
          go_loopw [12] (fun v12 wr => ∃ i : Nat, v12 = .int .i64 ((i + 1 : Nat) : Int) ∧ Below wy.heap.size wy wr) (fun v _ => m - (intOf v).toNat)
          case atStart => exact ⟨0, rfl, Below.refl _ _⟩
          case round =>
            obtain ⟨i, rfl, hb⟩ := hrel
            by_cases him : i + 1 < m
            · have hii : ((i + 1 : Nat) : Int) < (m : Int) := by omega
              have hi0 : (0 : Int) ≤ ((i + 1 : Nat) : Int) := by omega
              have hi1 : ((i + 1 : Nat) : Int) - 1 = (i : Int) := by omega
              have hi2 : (i : Int) < (m : Int) := by omega
              have hi3 : (0 : Int) ≤ (i : Int) := by omega
              obtain ⟨s1, e1⟩ : ∃ s1, S[i]? = some s1 := ⟨S[i]'(by rw [HSL.out]; omega), List.getElem?_eq_getElem _⟩
              obtain ⟨s2, e2⟩ : ∃ s2, S[i + 1]? = some s2 := ⟨S[i + 1]'(by rw [HSL.out]; omega), List.getElem?_eq_getElem _⟩
              obtain ⟨ag, ao, rfl, -, c1⟩ := (HSM.out wr hb).cell (k := i) (by rw [List.length_map, HSL.out]; omega)
              rw [List.getElem_map, (List.getElem?_eq_some_iff.1 e1).2] at c1
              obtain ⟨ag2, ao2, e3, -, c2⟩ := (HSM.out wr hb).cell (k := i + 1) (by rw [List.length_map, HSL.out]; omega)
              rw [List.getElem_map, (List.getElem?_eq_some_iff.1 e2).2] at c2
              simp at e3
              obtain ⟨rfl, rfl⟩ := e3
              have b1 := HS9.out i s1 e1
              have b2 := HS9.out (i + 1) s2 e2
              have hcast : (((i + 1 : Nat) : Int)).toNat = i + 1 := rfl
              by_cases hs : s1 = s2
              · subst hs
                obtain ⟨a, b, q1, q2, q3, q4, q5, q6, q7⟩ := OP.once_adj HP.out b1.1 (by omega) e1 e2
                have c3 := HPc.out wr hb i a q1
                have c4 := HPc.out wr hb (i + 1) b q2
                have hss : decide (s1 = s1) = true := decide_eq_true rfl
                rw [HSL.out] at q5 q7
                have HBW := Lib.hid hb
                have hbb : (b != a + 1 - 2 * (s1 % 2)) = false := by simp [q3]
                clear hb q1 q2 e1 e2 q3
                go_upto_region 24 with fail
                go_quiet (fail)
                go_wp2_with fail
                go_roundw
                case rel => exact ⟨i + 1, by go_num, below_drewN HBW.out _⟩
                case measure => simp [intOf]; omega
              · have hss : (s1 == s2) = false := by simp [hs]
                have HBW := Lib.hid hb
                clear hb e1 e2
                go_upto_region 24 with fail
                go_quiet (fail)
                go_wp2_with fail
                go_roundw
                case rel => exact ⟨i + 1, by go_num, below_drewN HBW.out _⟩
                case measure => simp [intOf]; omega
            · have hii : ¬ ((i + 1 : Nat) : Int) < (m : Int) := by omega
              go_wp2_with fail
              go_ret
              exact ⟨rfl, bnext HBZ.out hb⟩

set_option maxRecDepth 100000 in
theorem lifted (os : Os) (started : os.Started) (H : Type) (enc : TypeId × Value → H) :
    ReturnsInHanded {} Tryd.checked os 6 .any (fun w args => (Rows.orderOnceSpec.pre enc Tryd.prog Tryd.f6 [] false w args ∧ laidMetH Tryd.prog laidL w) ∧ sizedMet enc Tryd.prog Tryd.f6 (OpenSpec.ofChange Rows.orderOnceSpec) false w args)
      (Rows.orderOnceSpec.post enc Tryd.prog Tryd.f6 false true false false) := by
  refine returnsInHanded_of_change_and (C := Tryd.checked) (X := fun w _ => laidMetH Tryd.prog laidL w) (fun _ _ _ hh h => h.of_heap hh) own started (by kernel_rfl) Tryd.func6
    (ChangeSpec.witness_shaped (enc := enc) (C := Tryd.checked) (os := os) (X := fun w _ => laidMetH Tryd.prog laidL w) false (World.doorLaid Tryd.prog 46 os) #[.slice none 0 0] 8 rfl (World.shaped_of_RefB (by kernel_rfl) (by kernel_rfl)) (by kernel_rfl) (by kernel_rfl) (by kernel_rfl) (door_met os _)) ?_
  intro W base args ds gs before hval0 hW _ _ hL _
  have hval : ∀ (j : Nat) t v, Tryd.f6.params[j]? = some t → args[j]? = some v → Value.okWide Tryd.prog W .any base t v := hval0
  have hW' := hW
  obtain ⟨p, q, hA0, hV, rfl, hfz, hnd⟩ := hW
  have hA : DataW.TrodAll enc Tryd.prog W 0 (fun _ => true) true Tryd.f6.params.toList args.toList ds p := hA0
  rw [Tryd.params6] at hA hval
  obtain ⟨v0, vs0, d0, ds0, p0, q0, hargs, rfl, rfl, h0, r0⟩ := trodAll_cons hA
  obtain ⟨rfl, rfl, rfl⟩ := trodAll_nil r0
  obtain rfl : args = #[v0] := by cases args; simp_all
  obtain ⟨rfl, rfl⟩ := trodVars_none hV
  obtain ⟨g, hlaid⟩ := of_laid hL
  have k0 := h0
  have lt0 : ∀ x ∈ p0, x.block < W.heap.size := by obtain ⟨m, hm⟩ := k0; exact DataW.trod_lt m _ _ _ hm
  obtain ⟨a0, H0, L0, E0⟩ := open_l (hval 0 26 v0 rfl rfl) h0
  clear hA0 hval0
  refine (walk v0 a0 g  W hlaid H0 L0 E0).mono fun e W' ⟨he, bel⟩ => ?_
  subst he
  exact ⟨_, rfl, _, _, _, [], _, [], hW', trodAll_mk1 (shut_bool Tryd.underlying4 _), (trodAll_cons_mk (Below.trod laidOut (by kernel_rfl) (of_decide_eq_true (by kernel_rfl)) k0 bel lt0) trodAll_mk0), rfl, bel.frame _, fun h => by cases h⟩

theorem over : Rows.orderOnceRow.holds Tryd.pinned (OpenSpec.ofChange Rows.orderOnceSpec) :=
  OpenClaim.holds_of_wide 6 Tryd.f6 rfl rfl rfl rfl rfl rfl rfl ⟨rfl, rfl, rfl, rfl, rfl⟩ rfl rfl rfl rfl rfl (by kernel_rfl) Tryd.func6 (by kernel_rfl)
    (of_decide_eq_true (by kernel_rfl)) (by unfold Func.isWrapper; first | (rw [if_pos (by decide +kernel)]; kernel_rfl) | (rw [if_neg (by decide +kernel)]; exact ⟨rfl, rfl⟩))
    (fun os started H enc _ => lifted os started H enc)

/-- The row's card, tied to the program's text. -/
theorem card : Rows.OrderOnceCardSaid :=
  Claim7.holds_tied_plain_at .later [] [.data] true Rows.orderOnceCard.stood.harness false
    over (fun _ h => by cases h) (by kernel_rfl) (fun _ h => by cases h) orderOnce_row_tie rfl ⟨rfl, rfl⟩ (by kernel_rfl) rfl
    (fun f fn hf hfn => by
      obtain rfl : f = 6 := Option.some.inj ((show Tryd.prog.funcNamed "abugida/abugidalaw07.OrderOnce" = some 6 by kernel_rfl).symm.trans hf) |>.symm
      obtain rfl : fn = Tryd.f6 := (Option.some.inj (Tryd.func6.symm.trans hfn)).symm
      exact ⟨by kernel_rfl, fun j t ht => by
        rw [Tryd.params6] at ht
        have hm : t ∈ [26] := by simpa using Array.mem_of_getElem? ht
        have hall : ([26].all fun u => !Tryd.prog.wantsStandIn u) = true := by kernel_rfl
        exact (show Tryd.prog.wantsStandIn t = false by simpa using List.all_eq_true.1 hall t hm)⟩)
    (by kernel_rfl)

end Go.Proofs.YtbgmbcngkmlfeaaDoor.orderOnce
namespace Go.Proofs.YtbgmbcngkmlfeaaDoor
theorem orderOnce_proved : Rows.OrderOnceCardSaid := orderOnce.card
#print axioms orderOnce_proved
end Go.Proofs.YtbgmbcngkmlfeaaDoor
