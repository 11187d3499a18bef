/- For every list of numbers FormsPlaces returns true: the order has each place of a cluster once, but those of joiners and breakers; vowel signs that are shown before come first; all others increase. No conditions. -/
import Derived.Test.YtkacbmimmnlhlaaDoorFrmSane
import Derived.Test.YtkacbmimmnlhlaaDoorClsLaid
namespace Go.Proofs.YtkacbmimmnlhlaaDoor.formsPlaces
open Go.ChangeShapes Go.WideShapes Go.ChangeAt Go.RowKit Go.Joins Go.Deep
set_option linter.unusedVariables false

theorem text_of {v : Value} {a : List Int} {w W : World} (n : Nat) (hn : n ≤ 1000) (hv : RowAt w v (a.map (Value.int .i64))) (hL : a.length ≤ maxLen) (hE : ∀ x, x ∈ a → -9223372036854775808 ≤ x ∧ x ≤ 9223372036854775807) (hb : Below w.heap.size w W) :
    Calls Tryd.prog 10 #[v, .int .i64 n] W fun e W' => ∃ t : ByteArray, e = .returned (.string t) ∧ t.size ≤ n ∧ Below W.heap.size W W' :=
  text_any v a n W (hv.keep hb) hE hL hn
theorem order_src (s : ByteArray) (f t : Int) (g : Nat × Nat) (w : World) (hl : Laid w g) (hs : s.size ≤ 1000000000) :
    Calls Tryd.prog 15 #[.string s, .agg #[.int .i64 f, .int .i64 t]] w fun e W' => ∃ v', e = .returned v' ∧ Src W' v' ((FP.ord s f t).map (Value.int .i64)) ∧ Below w.heap.size w W' :=
  (order_any s f t g w hl hs).mono fun _ _ ⟨v', h1, h2, h3⟩ => ⟨v', h1, own_src h2 (by rw [List.length_map]), h3⟩
theorem count_take {L : List Int} {j : Nat} {z : Int} (x : Int) (h : L[j]? = some z) : (L.take (j + 1)).count x = (L.take j).count x + if z = x then 1 else 0 := by
  rw [List.take_add_one, h, List.count_append]
  by_cases e : z = x
  · subst e; simp
  · rw [if_neg e]; simp [e]
set_option maxRecDepth 100000 in
set_option maxHeartbeats 8000000 in
theorem walk (v0 : Value) (a0 : List Int) (g : Nat × Nat)  (w : World) (hl : Laid w g) (H0 : RowAt w v0 (a0.map (Value.int .i64))) (L0 : a0.length ≤ maxLen ∧ ∀ a n c, v0 = .slice a n c → n ≤ c) (E0 : ∀ x, x ∈ a0 → -9223372036854775808 ≤ x ∧ x ≤ 9223372036854775807) :
    Calls Tryd.prog 8 #[v0] w fun e w' => e = .returned (.bool true) ∧ Below w.heap.size w w' := by
  have HL : Hid (∀ B, Below w.heap.size w B → Laid B g) := Lib.hid fun B hb => hl.mono hb
  have acc0 : Below w.heap.size w w := Below.refl _ _
  have HM0 := Lib.hid (fun W (hb : Below w.heap.size w W) => text_of 60 (by omega) H0 L0.1 E0 hb)
  clear H0 E0
  go_enter Tryd.func8, Tryd.ntmps8
  go_wp2_with fail
  refine (sane_any g _ hl).mono ?_
  rintro e w1 ⟨rfl, hb1⟩
  have acc1 := bnext acc0 hb1
  clear hb1 acc0
  go_wp2_with fail
  refine (HM0.out _ acc1).mono ?_
  rintro e w2 ⟨t, rfl, ht, hb2⟩
  have acc2 := bnext acc1 hb2
  have ht1 : t.size ≤ 1000000000 := by omega
  clear hb2 acc1 HM0
  go_wp2_with fail
  refine (split_any t g _ (HL.out _ acc2) ht1).mono ?_
  rintro e w3 ⟨vc, rfl, oc, hb3⟩
  have acc3 := bnext acc2 hb3
  have hsp := own_srcP oc
  obtain ⟨ao, ac, rfl, hcc⟩ := id hsp
  have hlen := CP.split_length t
  have hmem := CP.sp_mem (CP.sp_split t)
  generalize CP.split t = l at hcc hlen hmem
  have hn1 : l.length ≤ 1000 := by omega
  have HMM := Lib.hid hmem
  have HCC := Lib.hid hcc
  have ACC := Lib.hid acc3
  have HO := Lib.hid fun (f u : Int) (W : World) (hW : Below w.heap.size w W) => order_src t f u g W (HL.out _ hW) ht1
  have HK := Lib.hid fun (j : Nat) (hj : j < t.size) (W : World) (hW : Below w.heap.size w W) => (show Calls Tryd.prog 22 #[.int .i64 (t[j].toNat : Int)] W fun e w' => e = .returned (.int .i64 (CP.cl t j)) ∧ Below W.heap.size W w' from by
    have := class_any (t[j].toNat : Int) g W (HL.out _ hW)
    rwa [show FC.cls (t[j].toNat : Int) = CP.cl t j by unfold CP.cl; rw [CP.ch_at hj]] at this)
  clear oc hb3 hsp acc2 acc3 hcc hmem hl HL
  go_wp2_with fail
  go_loopw [6] (fun v6 wr => ∃ i : Nat, v6 = .int .i64 i ∧ i ≤ l.length ∧ Below w3.heap.size w3 wr) (fun v _ => l.length - (intOf v).toNat)
  case atStart => exact ⟨0, rfl, Nat.zero_le _, Below.refl _ _⟩
  case round =>
    obtain ⟨i, rfl, hi, hb⟩ := hrel
    obtain ⟨wo, hwo⟩ : ∃ wo : World, wo = wr := ⟨_, rfl⟩
    subst hwo
    by_cases h1 : i < l.length
    · have h1i : (i : Int) < (l.length : Int) := by omega
      obtain ⟨x, hx⟩ : ∃ x, l[i]? = some x := ⟨_, List.getElem?_eq_getElem h1⟩
      have hp := HMM.out x (List.mem_of_getElem? hx)
      obtain ⟨g2, rfl, hg2, hcell⟩ := HCC.out.resolve_left (by intro e; rw [e] at h1; simp at h1)
      obtain ⟨e0, e1⟩ := hcell i x hx
      obtain ⟨f, u⟩ := x
      simp only at e0 e1 hp
      obtain ⟨hfu, hut⟩ := hp
      have c0 := (hb.cell (World.block_lt_of_cell? _ _ e0)).trans e0
      have c1 := (hb.cell (World.block_lt_of_cell? _ _ e1)).trans e1
      have hOC : Hid (∀ k, f ≤ k → k < u → (FP.ord t f u).count (k : Int) = if CP.cl t k = 13 ∨ CP.cl t k = 14 then 0 else 1) := Lib.hid fun k a b => FP.ord_count hfu hut a b
      have hST : Hid (∀ k, f ≤ k → FP.sn t f (k + 1) = FP.sn t f k + if CP.cl t k = 13 ∨ CP.cl t k = 14 then 0 else 1) := Lib.hid fun k a => FP.sn_step a
      have hSA : Hid (FP.sn t f u = (FP.ord t f u).length) := Lib.hid (FP.sn_all hfu hut)
      have hSL : Hid (∀ k, FP.sn t f k ≤ 2 * (k - f)) := Lib.hid fun k => by
        unfold FP.sn
        have a := FP.plc_length t FP.isB (k - f) f
        have b := FP.plc_length t FP.isR (k - f) f
        omega
      have hGE : Hid (∀ j, j < (FP.ord t f u).length → ∃ x : Nat, (FP.ord t f u)[j]? = some (x : Int) ∧ x < t.size) := Lib.hid fun j hj => FP.ord_get hfu hut hj
      have hAD : Hid (∀ j x y : Nat, (FP.ord t f u)[j]? = some (x : Int) → (FP.ord t f u)[j + 1]? = some (y : Int) → (CP.cl t y = 12 → CP.cl t x = 12) ∧ ((CP.cl t x = 12 ↔ CP.cl t y = 12) → x < y)) := Lib.hid fun j x y a b => FP.ord_adj hfu hut a b
      have hS0 : Hid (FP.sn t f f = 0) := Lib.hid (FP.sn_start t f)
      have HO2 := Lib.hid (HO.out (f : Int) (u : Int) wo (bnext ACC.out hb))
      have hll : (FP.ord t f u).length ≤ 1000 := by have := @FP.ord_length t f u; omega
      generalize FP.ord t f u = L at hOC hSA hGE hAD HO2 hll
      generalize FP.sn t f = sn at hST hSA hSL hS0
      have HB := Lib.hid hb
      clear hx hcell e0 e1 hb HMM HCC HO
      go_wp2_with fail
      refine HO2.out.mono ?_
      rintro e w5 ⟨vp, rfl, sp, hb5⟩
      replace c0 := (hb5.cell (World.block_lt_of_cell? _ _ c0)).trans c0
      replace c1 := (hb5.cell (World.block_lt_of_cell? _ _ c1)).trans c1
      have HB5 := Lib.hid (bnext HB.out hb5)
      obtain ⟨pa, pc, rfl, hpc⟩ := id sp
      have HC1 : Hid (∀ V, Below w5.heap.size w5 V → V.cell? ⟨g2, i * 2 + 1, none⟩ = some (.int .i64 (u : Int))) := Lib.hid fun V hV => (hV.cell (World.block_lt_of_cell? _ _ c1)).trans c1
      have HPC : Hid (∀ j z, L[j]? = some z → ∃ q o, pa = some ⟨q, o, none⟩ ∧ ∀ V, Below w5.heap.size w5 V → V.cell? ⟨q, o + j, none⟩ = some (.int .i64 z)) := Lib.hid fun j z hz => by
        have hj := (List.getElem?_eq_some_iff.1 hz).1
        rcases hpc with ⟨h, _⟩ | ⟨q, o, h, hq, hc⟩
        · have : L.length = 0 := by simpa using congrArg List.length h
          omega
        · refine ⟨q, o, h, fun V hV => ?_⟩
          have := hc j (by simpa using hj)
          rw [show ((L.map (Value.int .i64)).getD j (.bool false)) = .int .i64 z by simp [List.getD, hz]] at this
          exact (hV.cell (p := ⟨q, o + j, none⟩) hq).trans this
      rw [List.length_map]
      clear hb5 sp hpc HO2 c1
      go_wp2_with fail
      go_loopw [8, 9] (fun v8 v9 wr => ∃ k : Nat, v9 = .int .i64 k ∧ f ≤ k ∧ k ≤ u ∧ v8 = .int .i64 ((sn k : Nat) : Int) ∧ Below w5.heap.size w5 wr) (fun _ v _ => u - (intOf v).toNat)
      case atStart => exact ⟨f, rfl, Nat.le_refl _, by omega, by rw [hS0.out]; rfl, Below.refl _ _⟩
      case round =>
        obtain ⟨k, rfl, hk0, hk1, rfl, hb2⟩ := hrel
        obtain ⟨wp, hwp⟩ : ∃ wp : World, wp = wr := ⟨_, rfl⟩
        subst hwp
        have c1 := HC1.out wp hb2
        have HB2 := Lib.hid hb2
        by_cases h2 : k < u
        · have h2i : (k : Int) < (u : Int) := by omega
          have hkt : k < t.size := by omega
          have hkti : (k : Int) < (t.size : Int) := by omega
          have hby : (t[k].toNat : Int) ≤ 255 := by have := t[k].toNat_lt; omega
          have HCA := Lib.hid fun (V : World) (hV : Below w5.heap.size w5 V) => HK.out k hkt V (bnext ACC.out (bnext HB5.out hV))
          have hoc := hOC.out k hk0 h2
          have hst := hST.out k hk0
          have hsl := hSL.out k
          generalize CP.cl t k = c at HCA hoc hst
          have HOC := Lib.hid hoc
          have HST := Lib.hid hst
          clear hoc hst hb2
          go_wp2_with fail
          refine (HCA.out _ HB2.out).mono ?_
          rintro e w6 ⟨rfl, hb6⟩
          have HB6 := Lib.hid (bnext HB2.out hb6)
          clear hb6 HCA c1
          go_wp2_with fail
          go_loopw [11, 12] (fun v11 v12 wr => ∃ j : Nat, v12 = .int .i64 j ∧ j ≤ L.length ∧ v11 = .int .i64 (((L.take j).count (k : Int) : Nat) : Int) ∧ Below w6.heap.size w6 wr) (fun _ v _ => L.length - (intOf v).toNat)
          case atStart => exact ⟨0, rfl, Nat.zero_le _, rfl, Below.refl _ _⟩
          case round =>
            obtain ⟨j, rfl, hj, rfl, hb7⟩ := hrel
            by_cases h3 : j < L.length
            · have h3i : (j : Int) < (L.length : Int) := by omega
              obtain ⟨z, hz⟩ : ∃ z, L[j]? = some z := ⟨_, List.getElem?_eq_getElem h3⟩
              obtain ⟨q, o, rfl, hq⟩ := HPC.out j z hz
              have d := hq wr (bnext HB6.out hb7)
              have hct := count_take (k : Int) hz
              have hcl : (L.take j).count (k : Int) ≤ j := Nat.le_trans List.count_le_length (by rw [List.length_take]; omega)
              generalize (L.take j).count (k : Int) = m at hct hcl
              have HCT := Lib.hid hct
              have HB7 := Lib.hid hb7
              clear hz hct hb7 hq
              by_cases hzk : z = (k : Int)
              · have hze : (z == (k : Int)) = true := by simpa using hzk
                replace HCT := Lib.hid (show (L.take (j + 1)).count (k : Int) = m + 1 by rw [HCT.out, if_pos hzk])
                clear hzk
                go_wp2_with fail
                go_roundw
                case rel => exact ⟨j + 1, by go_num, h3, by rw [HCT.out]; go_num, HB7.out⟩
                case measure => simp [intOf]; omega
              · have hze : (z == (k : Int)) = false := by simpa using hzk
                replace HCT := Lib.hid (show (L.take (j + 1)).count (k : Int) = m by rw [HCT.out, if_neg hzk]; rfl)
                clear hzk
                go_wp2_with fail
                go_roundw
                case rel => exact ⟨j + 1, by go_num, h3, by rw [HCT.out], HB7.out⟩
                case measure => simp [intOf]; omega
            · obtain rfl : j = L.length := by omega
              rw [List.take_length]
              have HB7 := Lib.hid (bnext HB6.out hb7)
              by_cases c13 : c = 13
              · subst c13
                replace HOC := Lib.hid (show L.count (k : Int) = 0 from HOC.out)
                replace HST := Lib.hid (show sn (k + 1) = sn k from HST.out)
                rw [HOC.out]
                clear hb7 HOC
                go_wp2_with fail
                go_roundw
                case rel => exact ⟨k + 1, by go_num, by omega, h2, by rw [HST.out], HB7.out⟩
                case measure => simp [intOf]; omega
              · have b13 : (c == 13) = false := by simpa using c13
                by_cases c14 : c = 14
                · subst c14
                  replace HOC := Lib.hid (show L.count (k : Int) = 0 from HOC.out)
                  replace HST := Lib.hid (show sn (k + 1) = sn k from HST.out)
                  rw [HOC.out]
                  clear hb7 HOC
                  go_wp2_with fail
                  go_roundw
                  case rel => exact ⟨k + 1, by go_num, by omega, h2, by rw [HST.out], HB7.out⟩
                  case measure => simp [intOf]; omega
                · have b14 : (c == 14) = false := by simpa using c14
                  replace HOC := Lib.hid (show L.count (k : Int) = 1 by rw [HOC.out, if_neg (by omega)])
                  replace HST := Lib.hid (show sn (k + 1) = sn k + 1 by rw [HST.out, if_neg (by omega)])
                  rw [HOC.out]
                  clear hb7 HOC c13 c14
                  go_wp2_with fail
                  go_roundw
                  case rel => exact ⟨k + 1, by go_num, by omega, h2, by rw [HST.out]; go_num, HB7.out⟩
                  case measure => simp [intOf]; omega
        · obtain rfl : k = u := by omega
          rw [hSA.out]
          have hne : (((L.length : Nat) : Int) != (L.length : Int)) = false := by simp
          clear hb2
          go_wp2_with fail
          go_loopw [14] (fun v14 wr => ∃ j : Nat, v14 = .int .i64 j ∧ 1 ≤ j ∧ Below wp.heap.size wp wr) (fun v _ => L.length + 1 - (intOf v).toNat)
          case atStart => exact ⟨1, rfl, Nat.le_refl _, Below.refl _ _⟩
          case round =>
            obtain ⟨j, rfl, hj, hb7⟩ := hrel
            by_cases h3 : j < L.length
            · have h3i : (j : Int) < (L.length : Int) := by omega
              obtain ⟨j0, hj0, hj1⟩ : ∃ j0 : Nat, (j : Int) - 1 = (j0 : Int) ∧ j0 + 1 = j := ⟨j - 1, by omega, by omega⟩
              obtain ⟨x, hx, hxt⟩ := hGE.out j0 (by omega)
              obtain ⟨y, hy, hyt⟩ := hGE.out j h3
              obtain ⟨q, o, rfl, hq⟩ := HPC.out j0 (x : Int) hx
              obtain ⟨q', o', hqq, hq'⟩ := HPC.out j (y : Int) hy
              injection hqq with hqq
              injection hqq with hqa hqb
              subst hqa hqb
              obtain ⟨ad1, ad2⟩ := hAD.out j0 x y hx (by rw [hj1]; exact hy)
              have HX : Hid (∀ V, Below w5.heap.size w5 V → V.cell? ⟨q, o + j0, none⟩ = some (.int .i64 (x : Int)) ∧ V.cell? ⟨q, o + j, none⟩ = some (.int .i64 (y : Int))) := Lib.hid fun V hV => ⟨hq V hV, hq' V hV⟩
              have hxi : (x : Int) < (t.size : Int) := by omega
              have hyi : (y : Int) < (t.size : Int) := by omega
              have hbx : (t[x].toNat : Int) ≤ 255 := by have := t[x].toNat_lt; omega
              have hby : (t[y].toNat : Int) ≤ 255 := by have := t[y].toNat_lt; omega
              have HKX := Lib.hid fun (V : World) (hV : Below w5.heap.size w5 V) => HK.out x hxt V (bnext ACC.out (bnext HB5.out hV))
              have HKY := Lib.hid fun (V : World) (hV : Below w5.heap.size w5 V) => HK.out y hyt V (bnext ACC.out (bnext HB5.out hV))
              have HB7 := Lib.hid (bnext HB2.out hb7)
              generalize CP.cl t x = cx at HKX ad1 ad2
              generalize CP.cl t y = cy at HKY ad1 ad2
              have HW := Lib.hid hb7
              obtain ⟨d0, d1⟩ := HX.out wr HB7.out
              clear hx hy hq hq' hj1 hb7 hOC hST hSA hSL hGE hAD hS0 HK HPC c1 c0 HC1 hne
              have hxb : (0 : Int) ≤ (x : Int) := by omega
              have hyb : (0 : Int) ≤ (y : Int) := by omega
              go_wp2_with fail
              refine (HKX.out _ HB7.out).mono ?_
              rintro e w8 ⟨rfl, hb8⟩
              have HB8 := Lib.hid (bnext HB7.out hb8)
              have HW8 := Lib.hid (bnext HW.out hb8)
              obtain ⟨d0, d1⟩ := HX.out w8 HB8.out
              clear hb8 HKX
              go_wp2_with fail
              refine (HKY.out _ HB8.out).mono ?_
              rintro e w9 ⟨rfl, hb9⟩
              have HB9 := Lib.hid (bnext HB8.out hb9)
              have HW9 := Lib.hid (bnext HW8.out hb9)
              obtain ⟨d0, d1⟩ := HX.out w9 HB9.out
              clear hb9 HKY
              by_cases x12 : cx = 12
              · subst x12
                by_cases y12 : cy = 12
                · subst y12
                  have hlt : ¬ (y : Int) ≤ (x : Int) := by have := ad2 Iff.rfl; omega
                  clear ad1 ad2
                  go_wp2_with fail
                  go_quiet (fail)
                  go_wp2_with fail
                  go_roundw
                  case rel => exact ⟨j + 1, by go_num, by omega, by first | exact HW9.out | exact below_drewN HW9.out _⟩
                  case measure => simp [intOf]; omega
                · have by12 : (cy == 12) = false := by simpa using y12
                  clear ad1 ad2 y12
                  go_wp2_with fail
                  go_quiet (fail)
                  go_wp2_with fail
                  go_roundw
                  case rel => exact ⟨j + 1, by go_num, by omega, by first | exact HW9.out | exact below_drewN HW9.out _⟩
                  case measure => simp [intOf]; omega
              · have bx12 : (cx == 12) = false := by simpa using x12
                have y12 : cy ≠ 12 := fun h => x12 (ad1 h)
                have by12 : (cy == 12) = false := by simpa using y12
                have hlt : ¬ (y : Int) ≤ (x : Int) := by have := ad2 ⟨fun h => absurd h x12, fun h => absurd h y12⟩; omega
                clear ad1 ad2 x12 y12
                go_wp2_with fail
                go_quiet (fail)
                go_wp2_with fail
                go_roundw
                case rel => exact ⟨j + 1, by go_num, by omega, by first | exact HW9.out | exact below_drewN HW9.out _⟩
                case measure => simp [intOf]; omega
            · have h3i : ¬ (j : Int) < (L.length : Int) := by omega
              have HB7 := Lib.hid (bnext HB5.out (bnext HB2.out hb7))
              clear hb7
              go_wp2_with fail
              go_roundw
              case rel => exact ⟨i + 1, by go_num, h1, HB7.out⟩
              case measure => simp [intOf]; omega
    · obtain rfl : i = l.length := by omega
      go_wp2_with fail
      go_ret
      exact ⟨rfl, bnext ACC.out hb⟩

set_option maxRecDepth 100000 in
theorem lifted (os : Os) (started : os.Started) (H : Type) (enc : TypeId × Value → H) :
    ReturnsInHanded {} Tryd.checked os 8 .any (fun w args => (Rows.formsPlacesSpec.pre enc Tryd.prog Tryd.f8 [] false w args ∧ laidMetH Tryd.prog laidL w) ∧ sizedMet enc Tryd.prog Tryd.f8 (OpenSpec.ofChange Rows.formsPlacesSpec) false w args)
      (Rows.formsPlacesSpec.post enc Tryd.prog Tryd.f8 false true false false) := by
  refine returnsInHanded_of_change_and (C := Tryd.checked) (X := fun w _ => laidMetH Tryd.prog laidL w) (fun _ _ _ hh h => h.of_heap hh) own started (by kernel_rfl) Tryd.func8
    (ChangeSpec.witness_shaped (enc := enc) (C := Tryd.checked) (os := os) (X := fun w _ => laidMetH Tryd.prog laidL w) false (World.doorLaid Tryd.prog 46 os) #[.slice none 0 0] 8 rfl (World.shaped_of_RefB (by kernel_rfl) (by kernel_rfl)) (by kernel_rfl) (by kernel_rfl) (by kernel_rfl) (door_met os _)) ?_
  intro W base args ds gs before hval0 hW _ _ hL _
  have hval : ∀ (j : Nat) t v, Tryd.f8.params[j]? = some t → args[j]? = some v → Value.okWide Tryd.prog W .any base t v := hval0
  have hW' := hW
  obtain ⟨p, q, hA0, hV, rfl, hfz, hnd⟩ := hW
  have hA : DataW.TrodAll enc Tryd.prog W 0 (fun _ => true) true Tryd.f8.params.toList args.toList ds p := hA0
  rw [Tryd.params8] at hA hval
  obtain ⟨v0, vs0, d0, ds0, p0, q0, hargs, rfl, rfl, h0, r0⟩ := trodAll_cons hA
  obtain ⟨rfl, rfl, rfl⟩ := trodAll_nil r0
  obtain rfl : args = #[v0] := by cases args; simp_all
  obtain ⟨rfl, rfl⟩ := trodVars_none hV
  obtain ⟨g, hlaid⟩ := of_laid hL
  have k0 := h0
  have lt0 : ∀ x ∈ p0, x.block < W.heap.size := by obtain ⟨m, hm⟩ := k0; exact DataW.trod_lt m _ _ _ hm
  obtain ⟨a0, H0, L0, E0⟩ := open_l (hval 0 22 v0 rfl rfl) h0
  clear hA0 hval0
  refine (walk v0 a0 g  W hlaid H0 L0 E0).mono fun e W' ⟨he, bel⟩ => ?_
  subst he
  exact ⟨_, rfl, _, _, _, [], _, [], hW', trodAll_mk1 (shut_bool Tryd.underlying4 _), (trodAll_cons_mk (Below.trod laidOut (by kernel_rfl) (of_decide_eq_true (by kernel_rfl)) k0 bel lt0) trodAll_mk0), rfl, bel.frame _, fun h => by cases h⟩

theorem over : Rows.formsPlacesRow.holds Tryd.pinned (OpenSpec.ofChange Rows.formsPlacesSpec) :=
  OpenClaim.holds_of_wide 8 Tryd.f8 rfl rfl rfl rfl rfl rfl rfl ⟨rfl, rfl, rfl, rfl, rfl⟩ rfl rfl rfl rfl rfl (by kernel_rfl) Tryd.func8 (by kernel_rfl)
    (of_decide_eq_true (by kernel_rfl)) (by unfold Func.isWrapper; first | (rw [if_pos (by decide +kernel)]; kernel_rfl) | (rw [if_neg (by decide +kernel)]; exact ⟨rfl, rfl⟩))
    (fun os started H enc _ => lifted os started H enc)

/-- The row's card, tied to the program's text. -/
theorem card : Rows.FormsPlacesCardSaid :=
  Claim7.holds_tied_plain_at .later [] [.data] true Rows.formsPlacesCard.stood.harness false
    over (fun _ h => by cases h) (by kernel_rfl) (fun _ h => by cases h) formsPlaces_row_tie rfl ⟨rfl, rfl⟩ (by kernel_rfl) rfl
    (fun f fn hf hfn => by
      obtain rfl : f = 8 := Option.some.inj ((show Tryd.prog.funcNamed "abugida/abugidalaw17.FormsPlaces" = some 8 by kernel_rfl).symm.trans hf) |>.symm
      obtain rfl : fn = Tryd.f8 := (Option.some.inj (Tryd.func8.symm.trans hfn)).symm
      exact ⟨by kernel_rfl, fun j t ht => by
        rw [Tryd.params8] at ht
        have hm : t ∈ [22] := by simpa using Array.mem_of_getElem? ht
        have hall : ([22].all fun u => !Tryd.prog.wantsStandIn u) = true := by kernel_rfl
        exact (show Tryd.prog.wantsStandIn t = false by simpa using List.all_eq_true.1 hall t hm)⟩)
    (by kernel_rfl)

end Go.Proofs.YtkacbmimmnlhlaaDoor.formsPlaces
namespace Go.Proofs.YtkacbmimmnlhlaaDoor
theorem formsPlaces_proved : Rows.FormsPlacesCardSaid := formsPlaces.card
#print axioms formsPlaces_proved
end Go.Proofs.YtkacbmimmnlhlaaDoor
