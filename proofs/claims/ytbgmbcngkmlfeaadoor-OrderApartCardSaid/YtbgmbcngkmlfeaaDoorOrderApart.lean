/- For all texts OrderApart returns true: a line end between two texts has the level of the base. No conditions. -/
import Derived.Test.YtbgmbcngkmlfeaaDoorOrd23
import Derived.Test.YtbgmbcngkmlfeaaDoorClsLaid
import Derived.ChangeMaps5
namespace Go.Proofs.YtbgmbcngkmlfeaaDoor.orderApart
open Go.ChangeShapes Go.WideShapes Go.ChangeAt Go.RowKit Go.Joins Go.Deep Go.ChangeMaps
set_option linter.unusedVariables false

set_option maxRecDepth 100000 in
set_option maxHeartbeats 8000000 in
theorem walk (a0 : ByteArray) (a1 : ByteArray) (g : Nat × Nat) (wa0 : a0.size ≤ maxLen) (wa1 : a1.size ≤ maxLen) (w : World) (hl : Laid w g) :
    Calls Tryd.prog 8 #[.string a0, .string a1] w fun e w' => e = .returned (.bool true) ∧ Below w.heap.size w w' := by
  have hwa0 := wa0
  have hwa1 := wa1
  unfold maxLen at hwa0 hwa1
  obtain ⟨n, q1, q2, q3, q4, q5⟩ := cut60 a0
  obtain ⟨m, p1, p2, p3, p4, p5⟩ := cut60 a1
  have hn0 : (0 : Int) ≤ (n : Int) := by omega
  have hm0 : (0 : Int) ≤ (m : Int) := by omega
  have HQ := Lib.hid q5
  have HP := Lib.hid p5
  clear q5 p5
  have HL : Hid (∀ B, Below w.heap.size w B → Laid B g) := Lib.hid fun B hb => hl.mono hb
  have HS0 := Lib.hid (sane_any g w hl)
  clear hl
  go_enter Tryd.func8, Tryd.ntmps8
  go_wp2_with fail
  refine HS0.out.mono ?_
  rintro e w1 ⟨rfl, hb1⟩
  have HB1 := Lib.hid hb1
  clear hb1
  go_upto_region 2 with fail
  go_quiet (fail)
  obtain ⟨w2, hw2⟩ : ∃ w2, w1.drewN nq = w2 := ⟨_, rfl⟩
  have HB2 : Hid (Below w.heap.size w w2) := Lib.hid (by rw [← hw2]; exact below_drewN HB1.out _)
  try rw [hw2]
  have HWS := Lib.hid hw2
  clear hw2
  obtain ⟨A, hA⟩ : ∃ A, a0.extract 0 n = A := ⟨_, rfl⟩
  obtain ⟨C, hC⟩ : ∃ C, a1.extract 0 m = C := ⟨_, rfl⟩
  rw [hA] at HQ
  rw [hC] at HP
  try rw [hA]
  try rw [hC]
  have hAs := HQ.out
  have hCs := HP.out
  have h10 : (⟨#[10]⟩ : ByteArray).size = 1 := rfl
  have hTs : (A ++ ⟨#[10]⟩ ++ C).size = n + 1 + m := by rw [ByteArray.size_append, ByteArray.size_append, hAs, hCs, h10]
  have HLT := Lib.hid fun V (hV : Below w.heap.size w V) => olevels_any (A ++ ⟨#[10]⟩ ++ C) g V (HL.out V hV) (by omega)
  have HRT := Lib.hid fun V (hV : Below w.heap.size w V) => oright_any (A ++ ⟨#[10]⟩ ++ C) g V (HL.out V hV) (by omega)
  have HLA := Lib.hid fun V (hV : Below w.heap.size w V) => olevels_any A g V (HL.out V hV) (by omega)
  have HRA := Lib.hid fun V (hV : Below w.heap.size w V) => oright_any A g V (HL.out V hV) (by omega)
  rw [hTs] at HLT
  rw [hAs] at HLA
  have hline : (OP.levels (A ++ ⟨#[10]⟩ ++ C))[n]? = some (if OP.bse (A ++ ⟨#[10]⟩ ++ C) = 2 then 1 else 0) := by
    rw [OP.levels_get (by rw [hTs]; omega)]
    have h := OP.ch_mid A C
    rw [hAs] at h
    rw [OP.level_line (by rw [hTs]; omega) h]
  have HSB : Hid ((∃ k ∈ OP.sts A, k = 1 ∨ k = 2) → oright A = oright (A ++ ⟨#[10]⟩ ++ C)) := Lib.hid fun h => by
    unfold oright
    rw [show A ++ ⟨#[10]⟩ ++ C = A ++ (⟨#[10]⟩ ++ C) by rw [ByteArray.append_assoc], OP.bse_append h]
  have HLN : Hid ((OP.levels (A ++ ⟨#[10]⟩ ++ C)).length = n + 1 + m) := Lib.hid (by rw [OP.levels_len, hTs])
  have HLA2 : Hid ((OP.levels A).length = n) := Lib.hid (by rw [OP.levels_len, hAs])
  have hlb : (if OP.bse (A ++ ⟨#[10]⟩ ++ C) = 2 then (1 : Int) else 0) = if oright (A ++ ⟨#[10]⟩ ++ C) then 1 else 0 := by unfold oright; simp
  rw [hlb] at hline
  obtain ⟨LT, hLT⟩ : ∃ LT, OP.levels (A ++ ⟨#[10]⟩ ++ C) = LT := ⟨_, rfl⟩
  obtain ⟨LA, hLA⟩ : ∃ LA, OP.levels A = LA := ⟨_, rfl⟩
  obtain ⟨bT, hbT⟩ : ∃ bT, oright (A ++ ⟨#[10]⟩ ++ C) = bT := ⟨_, rfl⟩
  obtain ⟨bA, hbA⟩ : ∃ bA, oright A = bA := ⟨_, rfl⟩
  rw [hLT] at HLT HLN hline
  rw [hLA] at HLA HLA2
  rw [hbT] at HRT HSB hline
  rw [hbA] at HRA HSB
  have HLI := Lib.hid hline
  obtain ⟨N, hN⟩ : ∃ N, n + 1 + m = N := ⟨_, rfl⟩
  rw [hN] at HLT HLN
  have hNi : (N : Int) = (n : Int) + 1 + (m : Int) := by omega
  have hne : ((N : Int) != (n : Int) + 1 + (m : Int)) = false := by rw [hNi]; simp
  have hnN : (n : Int) < (N : Int) := by omega
  clear hA hC hTs hline hlb hLT hLA hbT hbA hN hNi
  go_wp2_with fail
  refine (HLT.out _ HB2.out).mono ?_
  rintro e w3 ⟨v3, rfl, ho3, hb3⟩
  obtain ⟨ta, tc, rfl⟩ := own_shape ho3
  have HRO := Lib.hid (row_own ho3 (by rw [List.length_map, HLN.out]))
  have HB3 := Lib.hid (bnext HB2.out hb3)
  clear ho3 hb3
  go_wp2_with fail
  refine (HLA.out _ HB3.out).mono ?_
  rintro e w4 ⟨v4, rfl, ho4, hb4⟩
  obtain ⟨fa, fc, rfl⟩ := own_shape ho4
  have HB34 := Lib.hid hb4
  have HB4 := Lib.hid (bnext HB3.out hb4)
  clear ho4 hb4
  go_wp2_with fail
  refine (HRT.out _ HB4.out).mono ?_
  rintro e w5 ⟨rfl, hb5⟩
  have HB5 := Lib.hid (bnext HB4.out hb5)
  have HB35 := Lib.hid (bnext HB34.out hb5)
  clear hb5
  cases bT
  · go_wp2_with fail
    go_loopw [9, 10] (fun v9 v10 wr => ∃ (i : Nat) (st : Bool), v9 = .bool st ∧ v10 = .int .i64 (i : Int) ∧ (st = true → ∃ k ∈ OP.sts A, k = 1 ∨ k = 2) ∧ Below w5.heap.size w5 wr) (fun _ v _ => n - (intOf v).toNat)
    case atStart => exact ⟨0, false, rfl, rfl, fun h => (by cases h), Below.refl _ _⟩
    case round =>
      obtain ⟨i, st, rfl, rfl, hst, hb⟩ := hrel
      by_cases hin : i < n
      · have hii : (i : Int) < (n : Int) := by omega
        have hi0 : (0 : Int) ≤ (i : Int) := by omega
        have hiA : i < A.size := by rw [HQ.out]; exact hin
        have hS := Lib.hid fun V => rstrong_any ((A[i].toNat : Nat) : Int) V
        have hmem : FC.stg ((A[i].toNat : Nat) : Int) ∈ OP.sts A := by
          have := OP.sts_get hiA
          rw [CP.ch_at hiA] at this
          exact List.mem_of_getElem? this
        have hxb := OP.stg_bd ((A[i].toNat : Nat) : Int)
        have hcb : ((A[i].toNat : Nat) : Int) ≤ 255 := by have := A[i].toNat_lt; omega
        obtain ⟨x, hx⟩ : ∃ x, FC.stg ((A[i].toNat : Nat) : Int) = x := ⟨_, rfl⟩
        rw [hx] at hS hmem hxb
        have HM := Lib.hid hmem
        have HST := Lib.hid hst
        have HBW := Lib.hid hb
        have HX := Lib.hid hxb
        clear hx hmem hst hb hxb
        go_wp2_with fail
        refine (hS.out _).mono ?_
        rintro e w6 ⟨rfl, hb6⟩
        have HB6 := Lib.hid (bnext HBW.out hb6)
        clear hb6
        have hxb := HX.out
        cases st
        · rcases hxb with rfl | rfl | rfl | rfl
          · go_wp2_with fail
            go_roundw
            case rel => exact ⟨i + 1, false, rfl, by go_num, fun h => (by cases h), HB6.out⟩
            case measure => simp [intOf]; omega
          · go_wp2_with fail
            go_roundw
            case rel => exact ⟨i + 1, true, rfl, by go_num, fun _ => ⟨1, HM.out, by omega⟩, HB6.out⟩
            case measure => simp [intOf]; omega
          · go_wp2_with fail
            go_roundw
            case rel => exact ⟨i + 1, true, rfl, by go_num, fun _ => ⟨2, HM.out, by omega⟩, HB6.out⟩
            case measure => simp [intOf]; omega
          · go_wp2_with fail
            go_roundw
            case rel => exact ⟨i + 1, false, rfl, by go_num, fun h => (by cases h), HB6.out⟩
            case measure => simp [intOf]; omega
        · go_wp2_with fail
          go_roundw
          case rel => exact ⟨i + 1, true, rfl, by go_num, fun _ => HST.out trivial, HB6.out⟩
          case measure => simp [intOf]; omega
      · have hii : ¬ (i : Int) < (n : Int) := by omega
        have HBW := Lib.hid hb
        obtain ⟨ag, ao, rfl, -, hc⟩ := (HRO.out.keep (bnext HB35.out hb)).cell (k := n) (by rw [List.length_map, HLN.out]; omega)
        rw [List.getElem_map, (List.getElem?_eq_some_iff.1 HLI.out).2] at hc
        have HST := Lib.hid hst
        clear hb hst
        cases st
        · go_wp2_with fail
          go_ret
          exact ⟨rfl, bnext HB5.out HBW.out⟩
        · have hee := HSB.out (HST.out rfl)
          subst hee
          clear hc
          go_wp2_with fail
          refine (HRA.out _ (bnext HB5.out HBW.out)).mono ?_
          rintro e w6 ⟨rfl, hb6⟩
          have HB6 := Lib.hid (bnext HBW.out hb6)
          clear hb6
          go_wp2_with fail
          refine (HRT.out _ (bnext HB5.out HB6.out)).mono ?_
          rintro e w7 ⟨rfl, hb7⟩
          have HB7 := Lib.hid (bnext HB6.out hb7)
          clear hb7
          obtain ⟨ag2, ao2, e3, -, hc⟩ := (HRO.out.keep (bnext HB35.out HB7.out)).cell (k := n) (by rw [List.length_map, HLN.out]; omega)
          rw [List.getElem_map, (List.getElem?_eq_some_iff.1 HLI.out).2] at hc
          simp at e3
          obtain ⟨rfl, rfl⟩ := e3
          go_wp2_with fail
          go_ret
          exact ⟨rfl, bnext HB5.out HB7.out⟩
  · go_wp2_with fail
    go_loopw [9, 10] (fun v9 v10 wr => ∃ (i : Nat) (st : Bool), v9 = .bool st ∧ v10 = .int .i64 (i : Int) ∧ (st = true → ∃ k ∈ OP.sts A, k = 1 ∨ k = 2) ∧ Below w5.heap.size w5 wr) (fun _ v _ => n - (intOf v).toNat)
    case atStart => exact ⟨0, false, rfl, rfl, fun h => (by cases h), Below.refl _ _⟩
    case round =>
      obtain ⟨i, st, rfl, rfl, hst, hb⟩ := hrel
      by_cases hin : i < n
      · have hii : (i : Int) < (n : Int) := by omega
        have hi0 : (0 : Int) ≤ (i : Int) := by omega
        have hiA : i < A.size := by rw [HQ.out]; exact hin
        have hS := Lib.hid fun V => rstrong_any ((A[i].toNat : Nat) : Int) V
        have hmem : FC.stg ((A[i].toNat : Nat) : Int) ∈ OP.sts A := by
          have := OP.sts_get hiA
          rw [CP.ch_at hiA] at this
          exact List.mem_of_getElem? this
        have hxb := OP.stg_bd ((A[i].toNat : Nat) : Int)
        have hcb : ((A[i].toNat : Nat) : Int) ≤ 255 := by have := A[i].toNat_lt; omega
        obtain ⟨x, hx⟩ : ∃ x, FC.stg ((A[i].toNat : Nat) : Int) = x := ⟨_, rfl⟩
        rw [hx] at hS hmem hxb
        have HM := Lib.hid hmem
        have HST := Lib.hid hst
        have HBW := Lib.hid hb
        have HX := Lib.hid hxb
        clear hx hmem hst hb hxb
        go_wp2_with fail
        refine (hS.out _).mono ?_
        rintro e w6 ⟨rfl, hb6⟩
        have HB6 := Lib.hid (bnext HBW.out hb6)
        clear hb6
        have hxb := HX.out
        cases st
        · rcases hxb with rfl | rfl | rfl | rfl
          · go_wp2_with fail
            go_roundw
            case rel => exact ⟨i + 1, false, rfl, by go_num, fun h => (by cases h), HB6.out⟩
            case measure => simp [intOf]; omega
          · go_wp2_with fail
            go_roundw
            case rel => exact ⟨i + 1, true, rfl, by go_num, fun _ => ⟨1, HM.out, by omega⟩, HB6.out⟩
            case measure => simp [intOf]; omega
          · go_wp2_with fail
            go_roundw
            case rel => exact ⟨i + 1, true, rfl, by go_num, fun _ => ⟨2, HM.out, by omega⟩, HB6.out⟩
            case measure => simp [intOf]; omega
          · go_wp2_with fail
            go_roundw
            case rel => exact ⟨i + 1, false, rfl, by go_num, fun h => (by cases h), HB6.out⟩
            case measure => simp [intOf]; omega
        · go_wp2_with fail
          go_roundw
          case rel => exact ⟨i + 1, true, rfl, by go_num, fun _ => HST.out trivial, HB6.out⟩
          case measure => simp [intOf]; omega
      · have hii : ¬ (i : Int) < (n : Int) := by omega
        have HBW := Lib.hid hb
        obtain ⟨ag, ao, rfl, -, hc⟩ := (HRO.out.keep (bnext HB35.out hb)).cell (k := n) (by rw [List.length_map, HLN.out]; omega)
        rw [List.getElem_map, (List.getElem?_eq_some_iff.1 HLI.out).2] at hc
        have HST := Lib.hid hst
        clear hb hst
        cases st
        · go_wp2_with fail
          go_ret
          exact ⟨rfl, bnext HB5.out HBW.out⟩
        · have hee := HSB.out (HST.out rfl)
          subst hee
          clear hc
          go_wp2_with fail
          refine (HRA.out _ (bnext HB5.out HBW.out)).mono ?_
          rintro e w6 ⟨rfl, hb6⟩
          have HB6 := Lib.hid (bnext HBW.out hb6)
          clear hb6
          go_wp2_with fail
          refine (HRT.out _ (bnext HB5.out HB6.out)).mono ?_
          rintro e w7 ⟨rfl, hb7⟩
          have HB7 := Lib.hid (bnext HB6.out hb7)
          clear hb7
          obtain ⟨ag2, ao2, e3, -, hc⟩ := (HRO.out.keep (bnext HB35.out HB7.out)).cell (k := n) (by rw [List.length_map, HLN.out]; omega)
          rw [List.getElem_map, (List.getElem?_eq_some_iff.1 HLI.out).2] at hc
          simp at e3
          obtain ⟨rfl, rfl⟩ := e3
          go_wp2_with fail
          go_ret
          exact ⟨rfl, bnext HB5.out HB7.out⟩

set_option maxRecDepth 100000 in
theorem lifted (os : Os) (started : os.Started) (H : Type) (enc : TypeId × Value → H) :
    ReturnsInHanded {} Tryd.checked os 8 .any (fun w args => (Rows.orderApartSpec.pre enc Tryd.prog Tryd.f8 [] false w args ∧ laidMetH Tryd.prog laidL w) ∧ sizedMet enc Tryd.prog Tryd.f8 (OpenSpec.ofChange Rows.orderApartSpec) false w args)
      (Rows.orderApartSpec.post enc Tryd.prog Tryd.f8 false true false false) := by
  refine returnsInHanded_of_change_and (C := Tryd.checked) (X := fun w _ => laidMetH Tryd.prog laidL w) (fun _ _ _ hh h => h.of_heap hh) own started (by kernel_rfl) Tryd.func8
    (ChangeSpec.witness_shaped (enc := enc) (C := Tryd.checked) (os := os) (X := fun w _ => laidMetH Tryd.prog laidL w) false (World.doorLaid Tryd.prog 46 os) #[.string ByteArray.empty, .string ByteArray.empty] 8 rfl (World.shaped_of_RefB (by kernel_rfl) (by kernel_rfl)) (by kernel_rfl) (by kernel_rfl) (by kernel_rfl) (door_met os _)) ?_
  intro W base args ds gs before hval0 hW _ _ hL _
  have hval : ∀ (j : Nat) t v, Tryd.f8.params[j]? = some t → args[j]? = some v → Value.okWide Tryd.prog W .any base t v := hval0
  have hW' := hW
  obtain ⟨p, q, hA0, hV, rfl, hfz, hnd⟩ := hW
  have hA : DataW.TrodAll enc Tryd.prog W 0 (fun _ => true) true Tryd.f8.params.toList args.toList ds p := hA0
  rw [Tryd.params8] at hA hval
  obtain ⟨v0, vs0, d0, ds0, p0, q0, hargs, rfl, rfl, h0, r0⟩ := trodAll_cons hA
  obtain ⟨v1, vs1, d1, ds1, p1, q1, rfl, rfl, rfl, h1, r1⟩ := trodAll_cons r0
  obtain ⟨rfl, rfl, rfl⟩ := trodAll_nil r1
  obtain rfl : args = #[v0, v1] := by cases args; simp_all
  obtain ⟨rfl, rfl⟩ := trodVars_none hV
  obtain ⟨g, hlaid⟩ := of_laid hL
  have k0 := h0
  have lt0 : ∀ x ∈ p0, x.block < W.heap.size := by obtain ⟨m, hm⟩ := k0; exact DataW.trod_lt m _ _ _ hm
  have k1 := h1
  have lt1 : ∀ x ∈ p1, x.block < W.heap.size := by obtain ⟨m, hm⟩ := k1; exact DataW.trod_lt m _ _ _ hm
  obtain ⟨a0, rfl, rfl, rfl, wa0⟩ := open_string Tryd.underlying9 (hval 0 9 v0 rfl rfl) h0
  obtain ⟨a1, rfl, rfl, rfl, wa1⟩ := open_string Tryd.underlying9 (hval 1 9 v1 rfl rfl) h1
  clear hA0 hval0
  refine (walk a0 a1 g wa0 wa1 W hlaid).mono fun e W' ⟨he, bel⟩ => ?_
  subst he
  exact ⟨_, rfl, _, _, _, [], _, [], hW', trodAll_mk1 (shut_bool Tryd.underlying4 _), (trodAll_cons_mk (Below.trod laidOut (by kernel_rfl) (of_decide_eq_true (by kernel_rfl)) k0 bel lt0) (trodAll_cons_mk (Below.trod laidOut (by kernel_rfl) (of_decide_eq_true (by kernel_rfl)) k1 bel lt1) trodAll_mk0)), rfl, bel.frame _, fun h => by cases h⟩

theorem over : Rows.orderApartRow.holds Tryd.pinned (OpenSpec.ofChange Rows.orderApartSpec) :=
  OpenClaim.holds_of_wide 8 Tryd.f8 rfl rfl rfl rfl rfl rfl rfl ⟨rfl, rfl, rfl, rfl, rfl⟩ rfl rfl rfl rfl rfl (by kernel_rfl) Tryd.func8 (by kernel_rfl)
    (of_decide_eq_true (by kernel_rfl)) (by unfold Func.isWrapper; first | (rw [if_pos (by decide +kernel)]; kernel_rfl) | (rw [if_neg (by decide +kernel)]; exact ⟨rfl, rfl⟩))
    (fun os started H enc _ => lifted os started H enc)

/-- The row's card, tied to the program's text. -/
theorem card : Rows.OrderApartCardSaid :=
  Claim7.holds_tied_plain_at .later [] [.data] true Rows.orderApartCard.stood.harness false
    over (fun _ h => by cases h) (by kernel_rfl) (fun _ h => by cases h) orderApart_row_tie rfl ⟨rfl, rfl⟩ (by kernel_rfl) rfl
    (fun f fn hf hfn => by
      obtain rfl : f = 8 := Option.some.inj ((show Tryd.prog.funcNamed "abugida/abugidalaw07.OrderApart" = some 8 by kernel_rfl).symm.trans hf) |>.symm
      obtain rfl : fn = Tryd.f8 := (Option.some.inj (Tryd.func8.symm.trans hfn)).symm
      exact ⟨by kernel_rfl, fun j t ht => by
        rw [Tryd.params8] at ht
        have hm : t ∈ [9, 9] := by simpa using Array.mem_of_getElem? ht
        have hall : ([9, 9].all fun u => !Tryd.prog.wantsStandIn u) = true := by kernel_rfl
        exact (show Tryd.prog.wantsStandIn t = false by simpa using List.all_eq_true.1 hall t hm)⟩)
    (by kernel_rfl)

end Go.Proofs.YtbgmbcngkmlfeaaDoor.orderApart
namespace Go.Proofs.YtbgmbcngkmlfeaaDoor
theorem orderApart_proved : Rows.OrderApartCardSaid := orderApart.card
#print axioms orderApart_proved
end Go.Proofs.YtbgmbcngkmlfeaaDoor
