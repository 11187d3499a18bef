/- For every list of lists of numbers AttachMarks returns true: a mark stands so that its Hang falls onto the anchor of its class of the last glyph before it that has one. No conditions. -/
import Derived.Test.YtpmmincophaaiaaAttFacts
namespace Go.Proofs.Ytpmmincophaaiaa.attachMarks
open Go.ChangeShapes Go.WideShapes Go.ChangeAt Go.RowKit Go.Joins Go.Deep
set_option linter.unusedVariables false

set_option maxRecDepth 100000 in
set_option maxHeartbeats 8000000 in
theorem walk (v0 : Value) (a0 : List (List Int))  (w : World) (H0 : LLAt w v0 a0) (L0 : a0.length ≤ maxLen ∧ ∀ a n c, v0 = .slice a n c → n ≤ c) :
    Calls Try.prog 5 #[v0] w fun e w' => e = .returned (.bool true) ∧ Below w.heap.size w w' := by
  have HM : Hid (∀ V, Below w.heap.size w V → LLAt V v0 a0) := Lib.hid fun V hV => H0.keep hV
  obtain ⟨va, vc, hv0⟩ : ∃ va vc, v0 = .slice va a0.length vc := by obtain ⟨va, vc, e, -⟩ := H0; exact ⟨va, vc, e⟩
  subst hv0
  have L0' := L0.1
  clear H0 L0
  go_enter Try.func5, Try.ntmps5
  go_wp2_with fail
  refine (sane_any _).mono ?_
  rintro e w1 ⟨rfl, k1⟩
  have HB1 := Lib.hid k1
  clear k1
  go_wp2_with fail
  refine (made_c a0 _ _ (HM.out _ HB1.out) L0').mono ?_
  rintro e w2 ⟨da, dc, rfl, hds, k2⟩
  have HA := Lib.hid (AT.made_anch a0)
  have HR := Lib.hid (AT.made_right a0)
  have hdl := AT.made_len a0
  have HPL := Lib.hid (AT.made_places a0)
  obtain ⟨D, hD⟩ : ∃ D, AT.made a0 = D := ⟨_, rfl⟩
  rw [hD] at hds hdl HA HR HPL ⊢
  have HDD := Lib.hid hD
  have HDS := Lib.hid hds
  have HB2 := Lib.hid (bnext HB1.out k2)
  clear k2 hds hD
  go_wp2_with fail
  refine (mplaces_c D _ _ (by omega) HA.out HDS.out).mono ?_
  rintro e w3 ⟨pa, pc, rfl, hp, k3⟩
  have hpl : (AT.places D).length = D.length := by rw [HPL.out]; exact AT.go_len D D.length (Nat.le_refl _)
  obtain ⟨n, hn⟩ : ∃ n, D.length = n := ⟨_, rfl⟩
  have HN := Lib.hid hn
  rw [hpl, hn] at hp ⊢
  rw [hn] at hdl HDS
  have HP := Lib.hid hp
  have HDS3 := Lib.hid (HDS.out.keep k3)
  have HB3 := Lib.hid (bnext HB2.out k3)
  have HPLEN := Lib.hid hpl
  clear k3 hp hpl hn
  have HRD : Hid (∀ d ∈ D, AT.right d = true) := Lib.hid (by have := HR.out; rwa [List.all_eq_true] at this)
  have HPC : Hid (∀ V, Below w3.heap.size w3 V → ∀ j p, (AT.places D)[j]? = some p → ∃ g2 o2, pa = some ⟨g2, o2, none⟩ ∧ g2 < w3.heap.size ∧ V.cell? ⟨g2, o2 + j * 2, none⟩ = some (.int .i64 p.1) ∧ V.cell? ⟨g2, o2 + j * 2 + 1, none⟩ = some (.int .i64 p.2)) := Lib.hid (by
    intro V hV j p hp
    obtain ⟨aq, cq, e1, hcq⟩ := HP.out
    rw [HPLEN.out, HN.out] at e1
    injection e1 with e1 e2 e3
    subst e1 e3
    rcases hcq with h | ⟨g2, o2, e4, hg2, hcl2⟩
    · rw [h] at hp
      simp at hp
    · obtain ⟨q0, q1⟩ := hcl2 j p hp
      exact ⟨g2, o2, e4, hg2, (hV.cell (p := ⟨g2, o2 + j * 2, none⟩) hg2).trans q0, (hV.cell (p := ⟨g2, o2 + j * 2 + 1, none⟩) hg2).trans q1⟩)
  have HDC : Hid (∀ V, Below w3.heap.size w3 V → ∀ k d, D[k]? = some d → ∃ g o ca cn cc aa ac, da = some ⟨g, o, none⟩ ∧ g < w3.heap.size ∧ AnAt V (.slice aa d.anchors.length ac) d.anchors ∧ V.cell? ⟨g, o + k * 6, none⟩ = some (.slice ca cn cc) ∧ V.cell? ⟨g, o + k * 6 + 1, none⟩ = some (.slice aa d.anchors.length ac) ∧ V.cell? ⟨g, o + k * 6 + 2, none⟩ = some (.int .i64 d.hang.1) ∧ V.cell? ⟨g, o + k * 6 + 3, none⟩ = some (.int .i64 d.hang.2.1) ∧ V.cell? ⟨g, o + k * 6 + 4, none⟩ = some (.int .i64 d.hang.2.2) ∧ V.cell? ⟨g, o + k * 6 + 5, none⟩ = some (.int .i64 d.adv)) := Lib.hid (by
    intro V hV k d hd
    obtain ⟨ad, cd, e1, hcw⟩ := HDS3.out.keep hV
    rw [HN.out] at e1
    injection e1 with e1 e2 e3
    subst e1 e3
    rcases hcw with h | ⟨g, o, e4, hg, hcl⟩
    · rw [h] at hd
      simp at hd
    · obtain ⟨ca, cn, cc, vv, ha, cells⟩ := hcl k d hd
      have ha' := ha
      obtain ⟨aa, ac, rfl, hal⟩ := ha
      have hg3 : g < w3.heap.size := by
        obtain ⟨ad, cd, e1, hcw⟩ := HDS3.out
        injection e1 with e1 e2 e3
        rw [e4] at e1
        subst e1
        rcases hcw with h | ⟨g', o', e5, hg', -⟩
        · rw [h] at hd
          simp at hd
        · have := Option.some.inj e5
          injection this with h1
          omega
      exact ⟨g, o, ca, cn, cc, aa, ac, e4, hg3, ha', cells⟩)
  go_wp2_with fail
  go_loopw [24] (fun v24 wr => ∃ k : Nat, v24 = .int .i64 (k : Int) ∧ k ≤ n ∧ Below w3.heap.size w3 wr) (fun v _ => n - (intOf v).toNat)
  case atStart => exact ⟨0, rfl, Nat.zero_le _, Below.refl _ _⟩
  case round =>
    obtain ⟨k, rfl, hk, hb⟩ := hrel
    obtain ⟨wo, hwo⟩ : ∃ wo, wo = wr := ⟨_, rfl⟩
    subst hwo
    have HBR := Lib.hid hb
    by_cases hin : k < n
    · have hii : (k : Int) < (n : Int) := by omega
      have hi0 : (0 : Int) ≤ (k : Int) := by omega
      obtain ⟨d, hd⟩ : ∃ d, D[k]? = some d := ⟨D[k]'(by rw [HN.out]; exact hin), List.getElem?_eq_getElem _⟩
      obtain ⟨g, o, ca, cn, cc, aa, ac, rfl, hg, ha, c0, c1, c2, c3, c4, c5⟩ := HDC.out wo hb k d hd
      obtain ⟨p, hp⟩ : ∃ p, (AT.places D)[k]? = some p := ⟨(AT.places D)[k]'(by rw [HPLEN.out, HN.out]; exact hin), List.getElem?_eq_getElem _⟩
      obtain ⟨g2, o2, rfl, hg2, q0, q1⟩ := HPC.out wo hb k p hp
      have HDK := Lib.hid hd
      have HPK := Lib.hid hp
      have hpb := AT.places_bd hp
      obtain ⟨-, hr2, hr3, -⟩ := AT.right_parts (HRD.out d (List.mem_of_getElem? hd))
      unfold AT.In at hpb
      obtain ⟨⟨hp1, hp2⟩, hp3, hp4⟩ := hpb
      clear hd hp hb q0 q1 ha
      by_cases hc0 : d.hang.1 = 0
      · have hq0 : (d.hang.1 == 0) = true := by simpa using hc0
        clear hc0
        go_wp2_with fail
        go_roundw
        case rel => exact ⟨k + 1, by go_num, hin, by first | exact balloc HBR.out _ | exact (balloc HBR.out _).drew⟩
        case measure => simp [intOf]; omega
      · have hq0 : (d.hang.1 == 0) = false := by simpa using hc0
        go_upto_region 10 with fail
        obtain ⟨W1, hW1⟩ : ∃ W1, wo.alloc (.cells #[.slice ca cn cc, .slice aa d.anchors.length ac, .int .i64 d.hang.1, .int .i64 d.hang.2.1, .int .i64 d.hang.2.2, .int .i64 d.adv] 35) = W1 := ⟨_, rfl⟩
        obtain ⟨G, hG⟩ : ∃ G, wo.heap.size = G := ⟨_, rfl⟩
        have hbx : DrB W1 G (.slice ca cn cc) (.slice aa d.anchors.length ac) d := by rw [← hW1, ← hG]; exact heap_alloc_new wo _
        have hbw : Below w3.heap.size w3 W1 := by rw [← hW1]; exact balloc HBR.out _
        rw [hW1, hG]
        have HBX := Lib.hid hbx
        have HB4 := Lib.hid hbw
        have HC0 := Lib.hid hc0
        clear hW1 hG hbx hbw c0 c1 c2 c3 c4 c5 hc0
        go_wp2_with fail
        go_loopw [8, 9] (fun v8 v9 wr => ∃ i : Nat, i ≤ k ∧ v9 = .int .i64 ((i : Int) - 1) ∧ ((v8 = .bool false ∧ Hid (AT.carrier D d.hang.1 k = AT.carrier D d.hang.1 i)) ∨ v8 = .bool true) ∧ Below W1.heap.size W1 wr) (fun _ v _ => (intOf v + 1).toNat)
        case atStart => exact ⟨k, Nat.le_refl _, rfl, .inl ⟨rfl, Lib.hid rfl⟩, Below.refl _ _⟩
        case round =>
          obtain ⟨i, hik, rfl, hst, hb5⟩ := hrel
          obtain ⟨wq, hwq⟩ : ∃ wq, wq = wr := ⟨_, rfl⟩
          subst hwq
          have HB5 := Lib.hid (bnext HB4.out hb5)
          have HX5 := Lib.hid (HBX.out.keep hb5)
          have HBI := Lib.hid hb5
          clear hb5
          obtain ⟨g2', o2', e2, -, q0, q1⟩ := HPC.out wq HB5.out k p HPK.out
          have e2' := Option.some.inj e2
          injection e2' with e3 e4
          subst e3 e4
          clear e2
          rcases hst with ⟨rfl, hcar⟩ | rfl
          · cases i with
            | zero =>
              have hp0 : p.2 = 0 := AT.mark_none HDK.out HPK.out HC0.out (by rw [hcar.out]; rfl)
              have hpz : (p.2 != 0) = false := by simpa using hp0
              clear hp0
              go_wp2_with fail
              go_roundw
              case rel => exact ⟨k + 1, by go_num, hin, by first | exact HB5.out | exact HB5.out.drew⟩
              case measure => simp [intOf]; omega
            | succ j =>
              have hjj : (((j + 1 : Nat) : Int) - 1) = (j : Int) := by omega
              rw [hjj]
              have hj0 : (0 : Int) ≤ (j : Int) := by omega
              have hjn : (j : Int) < (n : Int) := by omega
              obtain ⟨e, he⟩ : ∃ e, D[j]? = some e := ⟨D[j]'(by rw [HN.out]; omega), List.getElem?_eq_getElem _⟩
              obtain ⟨q, hq⟩ : ∃ q, (AT.places D)[j]? = some q := ⟨(AT.places D)[j]'(by rw [HPLEN.out, HN.out]; omega), List.getElem?_eq_getElem _⟩
              obtain ⟨g', o', ca', cn', cc', aa', ac', e5, -, han, -, x1, -, -, -, -⟩ := HDC.out wq HB5.out j e he
              have e5' := Option.some.inj e5
              injection e5' with e6 e7
              subst e6 e7
              clear e5
              have HAN := Lib.hid han
              have HE := Lib.hid he
              have HQ := Lib.hid hq
              have hqb := AT.places_bd hq
              unfold AT.In at hqb
              obtain ⟨⟨hq1, hq2⟩, hq3, hq4⟩ := hqb
              obtain ⟨m, hm⟩ : ∃ m, e.anchors.length = m := ⟨_, rfl⟩
              have HM2 := Lib.hid hm
              rw [hm] at x1 HAN
              have hm12 : m ≤ 1000000000000 := by have := HA.out e (List.mem_of_getElem? he); omega
              clear han he hq hm hjj
              go_wp2_with fail
              go_loopw [8, 49] (fun v8 v49 wr => ∃ t : Nat, v49 = .int .i64 (t : Int) ∧ v8 = .bool false ∧ t ≤ m ∧ Hid (∀ (s : Nat) (b : AT.An), s < t → e.anchors[s]? = some b → ¬ b.1 = d.hang.1) ∧ Below wq.heap.size wq wr) (fun _ v _ => m - (intOf v).toNat)
              case atStart => exact ⟨0, rfl, rfl, Nat.zero_le _, Lib.hid (fun s b hs => absurd hs (Nat.not_lt_zero _)), Below.refl _ _⟩
              case round =>
                obtain ⟨t, rfl, rfl, ht, hno, hb6⟩ := hrel
                have HB6 := Lib.hid (bnext HB5.out hb6)
                have HX6 := Lib.hid (HX5.out.keep hb6)
                have HBI6 := Lib.hid (bnext HBI.out hb6)
                by_cases htm : t < m
                · have htt : (t : Int) < (m : Int) := by omega
                  have ht0 : (0 : Int) ≤ (t : Int) := by omega
                  obtain ⟨z, hz⟩ : ∃ z, e.anchors[t]? = some z := ⟨e.anchors[t]'(by rw [HM2.out]; exact htm), List.getElem?_eq_getElem _⟩
                  obtain ⟨az, cz, e8, hcz⟩ := HAN.out.keep hb6
                  rw [HM2.out] at e8
                  injection e8 with e8 e9 e10
                  subst e8 e10
                  rcases hcz with h | ⟨g7, o7, rfl, hg7, hcl7⟩
                  · rw [h] at hz
                    simp at hz
                  obtain ⟨z1, z2, z3⟩ := hcl7 t z hz
                  obtain ⟨d0, d1, d2, d3, d4, d5⟩ := HX6.out.cells
                  have HZ := Lib.hid hz
                  have HBT := Lib.hid hb6
                  obtain ⟨-, -, -, hra⟩ := AT.right_parts (HRD.out e (List.mem_of_getElem? HE.out))
                  obtain ⟨hz2, hz3⟩ := hra z (List.mem_of_getElem? hz)
                  clear hcl7 hb6 hz hra d0 d1 d2 d3 d4 d5
                  go_upto_region 17 with fail
                  obtain ⟨W7, hW7⟩ : ∃ W7, wr.alloc (.cells #[.int .i64 z.1, .int .i64 z.2.1, .int .i64 z.2.2] 33) = W7 := ⟨_, rfl⟩
                  obtain ⟨GA, hGA⟩ : ∃ GA, wr.heap.size = GA := ⟨_, rfl⟩
                  have hk7 : Below wr.heap.size wr W7 := by rw [← hW7]; exact balloc (Below.refl _ _) _
                  have hab : AnB W7 GA z := by rw [← hW7, ← hGA]; exact heap_alloc_new wr _
                  rw [hW7, hGA]
                  have hx7 := HX6.out.keep hk7
                  obtain ⟨d0, d1, d2, d3, d4, d5⟩ := hx7.cells
                  obtain ⟨y5, y6, y7⟩ := hab.cells
                  have HB7 := Lib.hid (bnext HB6.out hk7)
                  have HBT7 := Lib.hid (bnext HBT.out hk7)
                  have HBI7 := Lib.hid (bnext HBI6.out hk7)
                  clear hW7 hGA hk7 hab hx7 z1 z2 z3
                  by_cases hzc : z.1 = d.hang.1
                  · have hqz : (z.1 == d.hang.1) = true := by simpa using hzc
                    have hcarr : AT.carrier D d.hang.1 k = some (j, z) := by
                      rw [hcar.out]
                      exact AT.car_hit HE.out (AT.own_first e.anchors d.hang.1 t z HZ.out hzc hno.out)
                    obtain ⟨hm1, hm2⟩ := AT.mark_at HDK.out HPK.out HC0.out hcarr HQ.out
                    have hn1 : (p.1 + d.hang.2.1 != q.1 + z.2.1) = false := by simpa using hm1
                    have hn2 : (p.2 + d.hang.2.2 != q.2 + z.2.2) = false := by simpa using hm2
                    have hw1 : IntKind.i64.wrap (p.1 + d.hang.2.1) = p.1 + d.hang.2.1 := by rw [IntKind.wrap_i64]; omega
                    have hw2 : IntKind.i64.wrap (q.1 + z.2.1) = q.1 + z.2.1 := by rw [IntKind.wrap_i64]; omega
                    have hw3 : IntKind.i64.wrap (p.2 + d.hang.2.2) = p.2 + d.hang.2.2 := by rw [IntKind.wrap_i64]; omega
                    have hw4 : IntKind.i64.wrap (q.2 + z.2.2) = q.2 + z.2.2 := by rw [IntKind.wrap_i64]; omega
                    obtain ⟨g2', o2', e2, -, y0, y1⟩ := HPC.out W7 HB7.out k p HPK.out
                    have e2' := Option.some.inj e2
                    injection e2' with e3 e4
                    subst e3 e4
                    clear e2
                    obtain ⟨g2', o2', e2, -, y2, y3⟩ := HPC.out W7 HB7.out j q HQ.out
                    have e2' := Option.some.inj e2
                    injection e2' with e3 e4
                    subst e3 e4
                    clear e2 hcarr hm1 hm2 hzc q0 q1 x1
                    go_upto_region 19 with fail
                    go_quiet (fail)
                    go_wp2_with fail
                    go_roundw
                    case rel => exact ⟨j, by omega, by go_num, .inr rfl, by first | exact HBI7.out | exact HBI7.out.drew | exact below_drewN HBI7.out _⟩
                    case measure => simp [intOf] <;> omega
                  · have hqz : (z.1 == d.hang.1) = false := by simpa using hzc
                    have HNO : Hid (∀ (s : Nat) (b : AT.An), s < t + 1 → e.anchors[s]? = some b → ¬ b.1 = d.hang.1) := Lib.hid fun s b hs hb => by
                      by_cases hst : s = t
                      · subst hst
                        rw [HZ.out] at hb
                        rw [← Option.some.inj hb]
                        exact hzc
                      · exact hno.out s b (by omega) hb
                    clear hzc
                    go_wp2_with fail
                    go_roundw
                    case rel => exact ⟨t + 1, by go_num, rfl, htm, HNO, by first | exact HBT7.out | exact HBT7.out.drew⟩
                    case measure => simp [intOf]; omega
                · obtain rfl : t = m := by omega
                  have HCA : Hid (AT.carrier D d.hang.1 k = AT.carrier D d.hang.1 j) := Lib.hid (by
                    rw [hcar.out]
                    exact AT.car_miss HE.out (AT.own_none (by rw [HM2.out]; exact hno.out)))
                  clear hb6
                  go_wp2_with fail
                  go_roundw
                  case rel => exact ⟨j, by omega, by go_num, .inl ⟨rfl, HCA⟩, by first | exact HBI6.out | exact HBI6.out.drew⟩
                  case measure => simp [intOf] <;> omega
          · cases i with
            | zero =>
              go_wp2_with fail
              go_roundw
              case rel => exact ⟨k + 1, by go_num, hin, by first | exact HB5.out | exact HB5.out.drew⟩
              case measure => simp [intOf]; omega
            | succ j =>
              have hjj : (((j + 1 : Nat) : Int) - 1) = (j : Int) := by omega
              rw [hjj]
              have hj0 : (0 : Int) ≤ (j : Int) := by omega
              go_wp2_with fail
              go_roundw
              case rel => exact ⟨k + 1, by go_num, hin, by first | exact HB5.out | exact HB5.out.drew⟩
              case measure => simp [intOf]; omega
    · obtain rfl : k = n := by omega
      clear hb
      go_wp2
      go_ret
      exact ⟨rfl, bnext HB3.out HBR.out⟩

set_option maxRecDepth 100000 in
theorem lifted (os : Os) (started : os.Started) (H : Type) (enc : TypeId × Value → H) :
    ReturnsInHanded {} Try.checked os 5 .any (Rows.attachMarksSpec.pre6 enc Try.prog Try.f5 Rows.attachMarksRow.domain false) (Rows.attachMarksSpec.post enc Try.prog Try.f5 false true false false) := by
  refine returnsInHanded_of_change (C := Try.checked) own started (by kernel_rfl) Try.func5
    (ChangeSpec.witness6 (enc := enc) (C := Try.checked) false ⟨#[], #[.slice none 0 0], []⟩ 8 (by kernel_rfl) (by kernel_rfl) (by kernel_rfl) (by kernel_rfl)) ?_
  intro W base args ds gs before hval0 hW hcnd _
  have hval : ∀ (j : Nat) t v, Try.f5.params[j]? = some t → args[j]? = some v → Value.okWide Try.prog W .any base t v := hval0
  have hW' := hW
  obtain ⟨p, q, hA0, hV, rfl, hfz, hnd⟩ := hW
  have hA : DataW.TrodAll enc Try.prog W 0 (fun _ => true) true Try.f5.params.toList args.toList ds p := hA0
  rw [Try.params5] at hA hval
  obtain ⟨v0, vs0, d0, ds0, p0, q0, hargs, rfl, rfl, h0, r0⟩ := trodAll_cons hA
  obtain ⟨rfl, rfl, rfl⟩ := trodAll_nil r0
  obtain rfl : args = #[v0] := by cases args; simp_all
  obtain ⟨rfl, rfl⟩ := trodVars_none hV
  have k0 := h0
  have lt0 : ∀ x ∈ p0, x.block < W.heap.size := by obtain ⟨m, hm⟩ := k0; exact DataW.trod_lt m _ _ _ hm
  obtain ⟨a0, H0, L0⟩ := open_lll (hval 0 22 v0 rfl rfl) h0
  clear hA0 hval0
  refine (walk v0 a0  W H0 L0).mono fun e W' ⟨he, bel⟩ => ?_
  subst he
  exact ⟨_, rfl, _, _, _, [], _, [], hW', trodAll_mk1 (shut_bool Try.underlying4 _), (trodAll_cons_mk (Below.trod laidOut (by kernel_rfl) (of_decide_eq_true (by kernel_rfl)) k0 bel lt0) trodAll_mk0), rfl, bel.frame _, fun h => by cases h⟩

theorem over : Rows.attachMarksRow.holds Try.pinned (OpenSpec.ofChange Rows.attachMarksSpec) :=
  OpenClaim.holds_of_wide 5 Try.f5 rfl rfl rfl rfl rfl rfl rfl ⟨rfl, rfl, rfl, rfl, rfl⟩ rfl rfl rfl rfl rfl (by kernel_rfl) Try.func5 (by kernel_rfl)
    (of_decide_eq_true (by kernel_rfl)) (by unfold Func.isWrapper; first | (rw [if_pos (by decide +kernel)]; kernel_rfl) | (rw [if_neg (by decide +kernel)]; exact ⟨rfl, rfl⟩))
    (fun os started H enc _ => lifted os started H enc)

end Go.Proofs.Ytpmmincophaaiaa.attachMarks
namespace Go.Proofs.Ytpmmincophaaiaa
theorem attachMarks_proved : Rows.AttachMarksSaid := attachMarks.over
#print axioms attachMarks_proved
end Go.Proofs.Ytpmmincophaaiaa
