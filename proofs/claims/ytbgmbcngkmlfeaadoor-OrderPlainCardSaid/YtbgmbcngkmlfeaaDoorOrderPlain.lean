/- For every text OrderPlain returns true: texts of one direction have one level, and like characters like levels. No conditions. -/
import Derived.Test.YtbgmbcngkmlfeaaDoorOrd24
import Derived.Test.YtbgmbcngkmlfeaaDoorClsLaid
import Derived.ChangeMaps5
namespace Go.Proofs.YtbgmbcngkmlfeaaDoor.orderPlain
open Go.ChangeShapes Go.WideShapes Go.ChangeAt Go.RowKit Go.Joins Go.Deep Go.ChangeMaps
set_option linter.unusedVariables false

attribute [local go_sem] conv_one
set_option maxRecDepth 100000 in
set_option maxHeartbeats 8000000 in
theorem walk (a0 : ByteArray) (g : Nat × Nat) (wa0 : a0.size ≤ maxLen) (w : World) (hl : Laid w g) :
    Calls Tryd.prog 4 #[.string a0] w fun e w' => e = .returned (.bool true) ∧ Below w.heap.size w w' := by
  have HL : Hid (∀ B, Below w.heap.size w B → Laid B g) := Lib.hid fun B hb => hl.mono hb
  have HS0 := Lib.hid (sane_any g w hl)
  clear hl
  go_enter Tryd.func4, Tryd.ntmps4
  go_wp2_with fail
  refine HS0.out.mono ?_
  rintro e w1 ⟨rfl, hb1⟩
  have HB1 := Lib.hid hb1
  clear hb1
  go_wp2_with fail
  refine (oshort_any a0 _ wa0).mono ?_
  rintro e w2 ⟨rfl, h2⟩
  have h2' := h2.symm
  subst h2'
  clear h2
  have hts := SH_size a0
  obtain ⟨t, ht⟩ : ∃ t, SH a0 = t := ⟨_, rfl⟩
  rw [ht] at hts ⊢
  obtain ⟨n, hn⟩ : ∃ n, t.size = n := ⟨_, rfl⟩
  have HN := Lib.hid hn
  rw [hn] at hts
  have hTS := hn
  have hem : ByteArray.empty.size = 0 := rfl
  clear ht hn hem
  go_wp2_with fail
  go_loopw [4, 5, 6, 7] (fun v4 v5 v6 v7 wr => ∃ (k : Nat) (one two three : ByteArray), v4 = .string one ∧ v5 = .string two ∧ v6 = .string three ∧ v7 = .int .i64 (k : Int) ∧ k ≤ n ∧ one.size ≤ k ∧ two.size ≤ k ∧ three.size = k ∧ (∀ i, i < one.size → FC.stg (CP.ch one i) ≠ 2) ∧ (∀ i, i < two.size → FC.stg (CP.ch two i) ≠ 1 ∧ FC.stg (CP.ch two i) ≠ 3) ∧ (∀ i, i < k → FC.cls (CP.ch three i) = FC.cls (CP.ch t i) ∧ FC.stg (CP.ch three i) = FC.stg (CP.ch t i)) ∧ Below w1.heap.size w1 wr) (fun _ _ _ v _ => n - (intOf v).toNat)
  case atStart => exact ⟨0, ⟨#[]⟩, ⟨#[]⟩, ⟨#[]⟩, rfl, rfl, rfl, rfl, Nat.zero_le _, Nat.le_refl 0, Nat.le_refl 0, rfl, fun i h => absurd h (Nat.not_lt_zero i), fun i h => absurd h (Nat.not_lt_zero i), fun i h => absurd h (Nat.not_lt_zero i), Below.refl _ _⟩
  case round =>
    obtain ⟨k, one, two, three, rfl, rfl, rfl, rfl, hk, h1s, h2s, h3s, h1, h2, h3, hb⟩ := hrel
    by_cases hkn : k < n
    · have hki : (k : Int) < (n : Int) := by omega
      have hk0 : (0 : Int) ≤ (k : Int) := by omega
      have hk1 : (k : Int) + 1 ≤ (n : Int) := by omega
      have hkA : k < t.size := by rw [HN.out]; exact hkn
      have hS := Lib.hid fun V => rstrong_any ((t[k].toNat : Nat) : Int) V
      have hC := Lib.hid fun V => rclass_any ((t[k].toNat : Nat) : Int) V
      have hP := Lib.hid fun V => rscript_any ((t[k].toNat : Nat) : Int) V
      have hxb := OP.stg_bd ((t[k].toNat : Nat) : Int)
      have hcb : ((t[k].toNat : Nat) : Int) ≤ 255 := by have := t[k].toNat_lt; omega
      have hc0 : (0 : Int) ≤ ((t[k].toNat : Nat) : Int) := by omega
      have hce : CP.ch t k = ((t[k].toNat : Nat) : Int) := CP.ch_at hkA
      have hE1 : (t.extract k (k + 1)).size = 1 := OP.one_size hkA
      have hE2 := OP.ch_one hkA
      obtain ⟨c, hc⟩ : ∃ c, ((t[k].toNat : Nat) : Int) = c := ⟨_, rfl⟩
      rw [hc] at hS hC hP hxb hcb hc0 hce
      obtain ⟨x, hx⟩ : ∃ x, FC.stg c = x := ⟨_, rfl⟩
      rw [hx] at hS hxb
      obtain ⟨p, hp⟩ : ∃ p, one.size = p := ⟨_, rfl⟩
      obtain ⟨q, hq⟩ : ∃ q, two.size = q := ⟨_, rfl⟩
      have HH := Lib.hid (⟨h1, h2, h3, hb⟩ : _ ∧ _ ∧ _ ∧ _)
      have HX := Lib.hid hx
      have HE := Lib.hid (hE2.trans hce)
      have HCE := Lib.hid hce
      have HXB := Lib.hid hxb
      have HZ := Lib.hid (⟨hp, hq, h3s⟩ : _ ∧ _ ∧ _)
      rw [hp] at h1s
      rw [hq] at h2s
      clear h1 h2 h3 hb hx hE2 hce hxb
      go_upto_region 9 with (go_at_call 19; refine (hS.out _).mono ?_; rintro e w2 ⟨rfl, hb2⟩; have HB2 := Lib.hid (bnext HH.out.2.2.2 hb2); clear hb2)
      rcases HXB.out with rfl | rfl | rfl | rfl
      · go_upto_region 14 with fail
        have HE1 := Lib.hid hE1
        have H1 : Hid ((one ++ t.extract k (k + 1)).size ≤ k + 1 ∧ ∀ i, i < (one ++ t.extract k (k + 1)).size → FC.stg (CP.ch (one ++ t.extract k (k + 1)) i) ≠ 2) := Lib.hid ⟨by rw [ByteArray.size_append, hp, hE1]; omega, OP.more_char (p := fun z => FC.stg z ≠ 2) HH.out.1 HE1.out HE.out (by rw [HX.out]; decide)⟩
        have H2 : Hid ((two ++ t.extract k (k + 1)).size ≤ k + 1 ∧ ∀ i, i < (two ++ t.extract k (k + 1)).size → FC.stg (CP.ch (two ++ t.extract k (k + 1)) i) ≠ 1 ∧ FC.stg (CP.ch (two ++ t.extract k (k + 1)) i) ≠ 3) := Lib.hid ⟨by rw [ByteArray.size_append, hq, hE1]; omega, OP.more_char (p := fun z => FC.stg z ≠ 1 ∧ FC.stg z ≠ 3) HH.out.2.1 HE1.out HE.out (by rw [HX.out]; decide)⟩
        obtain ⟨o1, ho1⟩ : ∃ o1, (one ++ t.extract k (k + 1)) = o1 := ⟨_, rfl⟩
        obtain ⟨o2, ho2⟩ : ∃ o2, (two ++ t.extract k (k + 1)) = o2 := ⟨_, rfl⟩
        rw [ho1] at H1
        rw [ho2] at H2
        try rw [ho1]
        try rw [ho2]
        clear ho1 ho2
        go_wp2_with (go_at_call 21; refine (hP.out _).mono ?_; rintro e w9 ⟨rfl, h9⟩; subst h9)
        refine (rcodes_any _ _).mono ?_
        rintro e w3 ⟨vd, rfl, hod, hb3⟩
        obtain ⟨da, dc, rfl⟩ := own_shape hod
        have HRO : Hid (RowAt w3 (.slice da (FC.codes (FC.scr c)).length dc) ((FC.codes (FC.scr c)).map (Value.int .i64))) := Lib.hid (row_own hod (by rw [List.length_map]))
        have HBD := Lib.hid fun d (hd : d ∈ FC.codes (FC.scr c)) => FC.codes_bd hd
        have HB3 := Lib.hid (bnext HB2.out hb3)
        obtain ⟨D, hD⟩ : ∃ D, FC.codes (FC.scr c) = D := ⟨_, rfl⟩
        have HDL : Hid (D.length ≤ 256) := Lib.hid (by rw [← hD]; exact FC.upto_le _ _)
        rw [hD] at HRO HBD ⊢
        obtain ⟨dl, hdl⟩ : ∃ dl, D.length = dl := ⟨_, rfl⟩
        have HDN := Lib.hid hdl
        rw [hdl] at HRO HDL ⊢
        have hdl9 := HDL.out
        clear hod hb3 hD hdl
        go_wp2_with fail
        go_loopw [10, 61] (fun v10 v61 wr => ∃ (j : Nat) (o : Int), v10 = .int .i64 o ∧ v61 = .int .i64 (j : Int) ∧ j ≤ dl ∧ (FC.cls o = FC.cls c ∧ FC.scr o = FC.scr c ∧ 0 ≤ o ∧ o ≤ 255) ∧ Below w3.heap.size w3 wr) (fun _ v _ => dl - (intOf v).toNat)
        case atStart => exact ⟨0, c, rfl, rfl, Nat.zero_le _, ⟨rfl, rfl, hc0, hcb⟩, Below.refl _ _⟩
        case round =>
          obtain ⟨j, o, rfl, rfl, hj, ⟨ho1, ho2, ho3, ho4⟩, hb⟩ := hrel
          by_cases hjd : j < dl
          · have hji : (j : Int) < (dl : Int) := by omega
            have hj0 : (0 : Int) ≤ (j : Int) := by omega
            obtain ⟨d, hd⟩ : ∃ d, D[j]? = some d := ⟨D[j]'(by rw [HDN.out]; exact hjd), List.getElem?_eq_getElem _⟩
            obtain ⟨ag, ao, rfl, -, hcl⟩ := (HRO.out.keep hb).cell (k := j) (by rw [List.length_map, HDN.out]; exact hjd)
            rw [List.getElem_map, (List.getElem?_eq_some_iff.1 hd).2] at hcl
            obtain ⟨d1, d2, d3⟩ := HBD.out d (List.mem_of_getElem? hd)
            have HO := Lib.hid (⟨ho1, ho2, ho3, ho4⟩ : _ ∧ _ ∧ _ ∧ _)
            have HD3 := Lib.hid (⟨d1, d2, d3⟩ : _ ∧ _ ∧ _)
            have HBW := Lib.hid hb
            clear hd ho1 ho2 ho3 ho4 d1 hb
            by_cases hcd : FC.cls d = FC.cls c
            · have HCD := Lib.hid hcd
              have hcc : (FC.cls d == FC.cls c) = true := by simp [hcd]
              clear hcd
              go_wp2_with (go_at_call 22; refine (rclass_any _ _).mono ?_; rintro e w9 ⟨rfl, h9⟩; subst h9)
              go_roundw
              case rel => exact ⟨j + 1, d, rfl, by go_num, hjd, ⟨HCD.out, HD3.out.1, HD3.out.2.1, HD3.out.2.2⟩, HBW.out⟩
              case measure => simp [intOf]; omega
            · have hcc : (FC.cls d == FC.cls c) = false := by simp [hcd]
              clear hcd
              go_wp2_with (go_at_call 22; refine (rclass_any _ _).mono ?_; rintro e w9 ⟨rfl, h9⟩; subst h9)
              go_roundw
              case rel => exact ⟨j + 1, o, rfl, by go_num, hjd, HO.out, HBW.out⟩
              case measure => simp [intOf]; omega
          · obtain rfl : dl = j := by omega
            have h3' := HZ.out.2.2
            have hpu : (ByteArray.empty.push (UInt8.ofNat o.toNat)).size = 1 := rfl
            have HLK := Lib.hid (OP.more_like HZ.out.2.2 HH.out.2.2.1 (OP.ch_push ho3 ho4) (by rw [HCE.out]; exact ⟨ho1, FC.stg_of ho1 ho2⟩))
            have HBW := Lib.hid (bnext HB3.out hb)
            clear ho1 ho2 hb
            go_wp2_with fail
            go_roundw
            case rel => exact ⟨k + 1, o1, o2, three ++ ByteArray.empty.push (UInt8.ofNat o.toNat), rfl, rfl, rfl, by go_num, hkn, H1.out.1, H2.out.1, by rw [ByteArray.size_append, h3', hpu], H1.out.2, H2.out.2, HLK.out, balloc HBW.out _⟩
            case measure => simp [intOf]; omega
      · go_upto_region 14 with fail
        have HE1 := Lib.hid hE1
        have H1 : Hid ((one ++ t.extract k (k + 1)).size ≤ k + 1 ∧ ∀ i, i < (one ++ t.extract k (k + 1)).size → FC.stg (CP.ch (one ++ t.extract k (k + 1)) i) ≠ 2) := Lib.hid ⟨by rw [ByteArray.size_append, hp, hE1]; omega, OP.more_char (p := fun z => FC.stg z ≠ 2) HH.out.1 HE1.out HE.out (by rw [HX.out]; decide)⟩
        have H2 : Hid (two.size ≤ k + 1 ∧ ∀ i, i < two.size → FC.stg (CP.ch two i) ≠ 1 ∧ FC.stg (CP.ch two i) ≠ 3) := Lib.hid ⟨by omega, HH.out.2.1⟩
        obtain ⟨o1, ho1⟩ : ∃ o1, (one ++ t.extract k (k + 1)) = o1 := ⟨_, rfl⟩
        obtain ⟨o2, ho2⟩ : ∃ o2, two = o2 := ⟨_, rfl⟩
        rw [ho1] at H1
        rw [ho2] at H2
        try rw [ho1]
        try rw [ho2]
        clear ho1 ho2
        go_wp2_with (go_at_call 21; refine (hP.out _).mono ?_; rintro e w9 ⟨rfl, h9⟩; subst h9)
        refine (rcodes_any _ _).mono ?_
        rintro e w3 ⟨vd, rfl, hod, hb3⟩
        obtain ⟨da, dc, rfl⟩ := own_shape hod
        have HRO : Hid (RowAt w3 (.slice da (FC.codes (FC.scr c)).length dc) ((FC.codes (FC.scr c)).map (Value.int .i64))) := Lib.hid (row_own hod (by rw [List.length_map]))
        have HBD := Lib.hid fun d (hd : d ∈ FC.codes (FC.scr c)) => FC.codes_bd hd
        have HB3 := Lib.hid (bnext HB2.out hb3)
        obtain ⟨D, hD⟩ : ∃ D, FC.codes (FC.scr c) = D := ⟨_, rfl⟩
        have HDL : Hid (D.length ≤ 256) := Lib.hid (by rw [← hD]; exact FC.upto_le _ _)
        rw [hD] at HRO HBD ⊢
        obtain ⟨dl, hdl⟩ : ∃ dl, D.length = dl := ⟨_, rfl⟩
        have HDN := Lib.hid hdl
        rw [hdl] at HRO HDL ⊢
        have hdl9 := HDL.out
        clear hod hb3 hD hdl
        go_wp2_with fail
        go_loopw [10, 61] (fun v10 v61 wr => ∃ (j : Nat) (o : Int), v10 = .int .i64 o ∧ v61 = .int .i64 (j : Int) ∧ j ≤ dl ∧ (FC.cls o = FC.cls c ∧ FC.scr o = FC.scr c ∧ 0 ≤ o ∧ o ≤ 255) ∧ Below w3.heap.size w3 wr) (fun _ v _ => dl - (intOf v).toNat)
        case atStart => exact ⟨0, c, rfl, rfl, Nat.zero_le _, ⟨rfl, rfl, hc0, hcb⟩, Below.refl _ _⟩
        case round =>
          obtain ⟨j, o, rfl, rfl, hj, ⟨ho1, ho2, ho3, ho4⟩, hb⟩ := hrel
          by_cases hjd : j < dl
          · have hji : (j : Int) < (dl : Int) := by omega
            have hj0 : (0 : Int) ≤ (j : Int) := by omega
            obtain ⟨d, hd⟩ : ∃ d, D[j]? = some d := ⟨D[j]'(by rw [HDN.out]; exact hjd), List.getElem?_eq_getElem _⟩
            obtain ⟨ag, ao, rfl, -, hcl⟩ := (HRO.out.keep hb).cell (k := j) (by rw [List.length_map, HDN.out]; exact hjd)
            rw [List.getElem_map, (List.getElem?_eq_some_iff.1 hd).2] at hcl
            obtain ⟨d1, d2, d3⟩ := HBD.out d (List.mem_of_getElem? hd)
            have HO := Lib.hid (⟨ho1, ho2, ho3, ho4⟩ : _ ∧ _ ∧ _ ∧ _)
            have HD3 := Lib.hid (⟨d1, d2, d3⟩ : _ ∧ _ ∧ _)
            have HBW := Lib.hid hb
            clear hd ho1 ho2 ho3 ho4 d1 hb
            by_cases hcd : FC.cls d = FC.cls c
            · have HCD := Lib.hid hcd
              have hcc : (FC.cls d == FC.cls c) = true := by simp [hcd]
              clear hcd
              go_wp2_with (go_at_call 22; refine (rclass_any _ _).mono ?_; rintro e w9 ⟨rfl, h9⟩; subst h9)
              go_roundw
              case rel => exact ⟨j + 1, d, rfl, by go_num, hjd, ⟨HCD.out, HD3.out.1, HD3.out.2.1, HD3.out.2.2⟩, HBW.out⟩
              case measure => simp [intOf]; omega
            · have hcc : (FC.cls d == FC.cls c) = false := by simp [hcd]
              clear hcd
              go_wp2_with (go_at_call 22; refine (rclass_any _ _).mono ?_; rintro e w9 ⟨rfl, h9⟩; subst h9)
              go_roundw
              case rel => exact ⟨j + 1, o, rfl, by go_num, hjd, HO.out, HBW.out⟩
              case measure => simp [intOf]; omega
          · obtain rfl : dl = j := by omega
            have h3' := HZ.out.2.2
            have hpu : (ByteArray.empty.push (UInt8.ofNat o.toNat)).size = 1 := rfl
            have HLK := Lib.hid (OP.more_like HZ.out.2.2 HH.out.2.2.1 (OP.ch_push ho3 ho4) (by rw [HCE.out]; exact ⟨ho1, FC.stg_of ho1 ho2⟩))
            have HBW := Lib.hid (bnext HB3.out hb)
            clear ho1 ho2 hb
            go_wp2_with fail
            go_roundw
            case rel => exact ⟨k + 1, o1, o2, three ++ ByteArray.empty.push (UInt8.ofNat o.toNat), rfl, rfl, rfl, by go_num, hkn, H1.out.1, H2.out.1, by rw [ByteArray.size_append, h3', hpu], H1.out.2, H2.out.2, HLK.out, balloc HBW.out _⟩
            case measure => simp [intOf]; omega
      · go_upto_region 14 with fail
        have HE1 := Lib.hid hE1
        have H1 : Hid (one.size ≤ k + 1 ∧ ∀ i, i < one.size → FC.stg (CP.ch one i) ≠ 2) := Lib.hid ⟨by omega, HH.out.1⟩
        have H2 : Hid ((two ++ t.extract k (k + 1)).size ≤ k + 1 ∧ ∀ i, i < (two ++ t.extract k (k + 1)).size → FC.stg (CP.ch (two ++ t.extract k (k + 1)) i) ≠ 1 ∧ FC.stg (CP.ch (two ++ t.extract k (k + 1)) i) ≠ 3) := Lib.hid ⟨by rw [ByteArray.size_append, hq, hE1]; omega, OP.more_char (p := fun z => FC.stg z ≠ 1 ∧ FC.stg z ≠ 3) HH.out.2.1 HE1.out HE.out (by rw [HX.out]; decide)⟩
        obtain ⟨o1, ho1⟩ : ∃ o1, one = o1 := ⟨_, rfl⟩
        obtain ⟨o2, ho2⟩ : ∃ o2, (two ++ t.extract k (k + 1)) = o2 := ⟨_, rfl⟩
        rw [ho1] at H1
        rw [ho2] at H2
        try rw [ho1]
        try rw [ho2]
        clear ho1 ho2
        go_wp2_with (go_at_call 21; refine (hP.out _).mono ?_; rintro e w9 ⟨rfl, h9⟩; subst h9)
        refine (rcodes_any _ _).mono ?_
        rintro e w3 ⟨vd, rfl, hod, hb3⟩
        obtain ⟨da, dc, rfl⟩ := own_shape hod
        have HRO : Hid (RowAt w3 (.slice da (FC.codes (FC.scr c)).length dc) ((FC.codes (FC.scr c)).map (Value.int .i64))) := Lib.hid (row_own hod (by rw [List.length_map]))
        have HBD := Lib.hid fun d (hd : d ∈ FC.codes (FC.scr c)) => FC.codes_bd hd
        have HB3 := Lib.hid (bnext HB2.out hb3)
        obtain ⟨D, hD⟩ : ∃ D, FC.codes (FC.scr c) = D := ⟨_, rfl⟩
        have HDL : Hid (D.length ≤ 256) := Lib.hid (by rw [← hD]; exact FC.upto_le _ _)
        rw [hD] at HRO HBD ⊢
        obtain ⟨dl, hdl⟩ : ∃ dl, D.length = dl := ⟨_, rfl⟩
        have HDN := Lib.hid hdl
        rw [hdl] at HRO HDL ⊢
        have hdl9 := HDL.out
        clear hod hb3 hD hdl
        go_wp2_with fail
        go_loopw [10, 61] (fun v10 v61 wr => ∃ (j : Nat) (o : Int), v10 = .int .i64 o ∧ v61 = .int .i64 (j : Int) ∧ j ≤ dl ∧ (FC.cls o = FC.cls c ∧ FC.scr o = FC.scr c ∧ 0 ≤ o ∧ o ≤ 255) ∧ Below w3.heap.size w3 wr) (fun _ v _ => dl - (intOf v).toNat)
        case atStart => exact ⟨0, c, rfl, rfl, Nat.zero_le _, ⟨rfl, rfl, hc0, hcb⟩, Below.refl _ _⟩
        case round =>
          obtain ⟨j, o, rfl, rfl, hj, ⟨ho1, ho2, ho3, ho4⟩, hb⟩ := hrel
          by_cases hjd : j < dl
          · have hji : (j : Int) < (dl : Int) := by omega
            have hj0 : (0 : Int) ≤ (j : Int) := by omega
            obtain ⟨d, hd⟩ : ∃ d, D[j]? = some d := ⟨D[j]'(by rw [HDN.out]; exact hjd), List.getElem?_eq_getElem _⟩
            obtain ⟨ag, ao, rfl, -, hcl⟩ := (HRO.out.keep hb).cell (k := j) (by rw [List.length_map, HDN.out]; exact hjd)
            rw [List.getElem_map, (List.getElem?_eq_some_iff.1 hd).2] at hcl
            obtain ⟨d1, d2, d3⟩ := HBD.out d (List.mem_of_getElem? hd)
            have HO := Lib.hid (⟨ho1, ho2, ho3, ho4⟩ : _ ∧ _ ∧ _ ∧ _)
            have HD3 := Lib.hid (⟨d1, d2, d3⟩ : _ ∧ _ ∧ _)
            have HBW := Lib.hid hb
            clear hd ho1 ho2 ho3 ho4 d1 hb
            by_cases hcd : FC.cls d = FC.cls c
            · have HCD := Lib.hid hcd
              have hcc : (FC.cls d == FC.cls c) = true := by simp [hcd]
              clear hcd
              go_wp2_with (go_at_call 22; refine (rclass_any _ _).mono ?_; rintro e w9 ⟨rfl, h9⟩; subst h9)
              go_roundw
              case rel => exact ⟨j + 1, d, rfl, by go_num, hjd, ⟨HCD.out, HD3.out.1, HD3.out.2.1, HD3.out.2.2⟩, HBW.out⟩
              case measure => simp [intOf]; omega
            · have hcc : (FC.cls d == FC.cls c) = false := by simp [hcd]
              clear hcd
              go_wp2_with (go_at_call 22; refine (rclass_any _ _).mono ?_; rintro e w9 ⟨rfl, h9⟩; subst h9)
              go_roundw
              case rel => exact ⟨j + 1, o, rfl, by go_num, hjd, HO.out, HBW.out⟩
              case measure => simp [intOf]; omega
          · obtain rfl : dl = j := by omega
            have h3' := HZ.out.2.2
            have hpu : (ByteArray.empty.push (UInt8.ofNat o.toNat)).size = 1 := rfl
            have HLK := Lib.hid (OP.more_like HZ.out.2.2 HH.out.2.2.1 (OP.ch_push ho3 ho4) (by rw [HCE.out]; exact ⟨ho1, FC.stg_of ho1 ho2⟩))
            have HBW := Lib.hid (bnext HB3.out hb)
            clear ho1 ho2 hb
            go_wp2_with fail
            go_roundw
            case rel => exact ⟨k + 1, o1, o2, three ++ ByteArray.empty.push (UInt8.ofNat o.toNat), rfl, rfl, rfl, by go_num, hkn, H1.out.1, H2.out.1, by rw [ByteArray.size_append, h3', hpu], H1.out.2, H2.out.2, HLK.out, balloc HBW.out _⟩
            case measure => simp [intOf]; omega
      · go_upto_region 14 with fail
        have HE1 := Lib.hid hE1
        have H1 : Hid ((one ++ t.extract k (k + 1)).size ≤ k + 1 ∧ ∀ i, i < (one ++ t.extract k (k + 1)).size → FC.stg (CP.ch (one ++ t.extract k (k + 1)) i) ≠ 2) := Lib.hid ⟨by rw [ByteArray.size_append, hp, hE1]; omega, OP.more_char (p := fun z => FC.stg z ≠ 2) HH.out.1 HE1.out HE.out (by rw [HX.out]; decide)⟩
        have H2 : Hid (two.size ≤ k + 1 ∧ ∀ i, i < two.size → FC.stg (CP.ch two i) ≠ 1 ∧ FC.stg (CP.ch two i) ≠ 3) := Lib.hid ⟨by omega, HH.out.2.1⟩
        obtain ⟨o1, ho1⟩ : ∃ o1, (one ++ t.extract k (k + 1)) = o1 := ⟨_, rfl⟩
        obtain ⟨o2, ho2⟩ : ∃ o2, two = o2 := ⟨_, rfl⟩
        rw [ho1] at H1
        rw [ho2] at H2
        try rw [ho1]
        try rw [ho2]
        clear ho1 ho2
        go_wp2_with (go_at_call 21; refine (hP.out _).mono ?_; rintro e w9 ⟨rfl, h9⟩; subst h9)
        refine (rcodes_any _ _).mono ?_
        rintro e w3 ⟨vd, rfl, hod, hb3⟩
        obtain ⟨da, dc, rfl⟩ := own_shape hod
        have HRO : Hid (RowAt w3 (.slice da (FC.codes (FC.scr c)).length dc) ((FC.codes (FC.scr c)).map (Value.int .i64))) := Lib.hid (row_own hod (by rw [List.length_map]))
        have HBD := Lib.hid fun d (hd : d ∈ FC.codes (FC.scr c)) => FC.codes_bd hd
        have HB3 := Lib.hid (bnext HB2.out hb3)
        obtain ⟨D, hD⟩ : ∃ D, FC.codes (FC.scr c) = D := ⟨_, rfl⟩
        have HDL : Hid (D.length ≤ 256) := Lib.hid (by rw [← hD]; exact FC.upto_le _ _)
        rw [hD] at HRO HBD ⊢
        obtain ⟨dl, hdl⟩ : ∃ dl, D.length = dl := ⟨_, rfl⟩
        have HDN := Lib.hid hdl
        rw [hdl] at HRO HDL ⊢
        have hdl9 := HDL.out
        clear hod hb3 hD hdl
        go_wp2_with fail
        go_loopw [10, 61] (fun v10 v61 wr => ∃ (j : Nat) (o : Int), v10 = .int .i64 o ∧ v61 = .int .i64 (j : Int) ∧ j ≤ dl ∧ (FC.cls o = FC.cls c ∧ FC.scr o = FC.scr c ∧ 0 ≤ o ∧ o ≤ 255) ∧ Below w3.heap.size w3 wr) (fun _ v _ => dl - (intOf v).toNat)
        case atStart => exact ⟨0, c, rfl, rfl, Nat.zero_le _, ⟨rfl, rfl, hc0, hcb⟩, Below.refl _ _⟩
        case round =>
          obtain ⟨j, o, rfl, rfl, hj, ⟨ho1, ho2, ho3, ho4⟩, hb⟩ := hrel
          by_cases hjd : j < dl
          · have hji : (j : Int) < (dl : Int) := by omega
            have hj0 : (0 : Int) ≤ (j : Int) := by omega
            obtain ⟨d, hd⟩ : ∃ d, D[j]? = some d := ⟨D[j]'(by rw [HDN.out]; exact hjd), List.getElem?_eq_getElem _⟩
            obtain ⟨ag, ao, rfl, -, hcl⟩ := (HRO.out.keep hb).cell (k := j) (by rw [List.length_map, HDN.out]; exact hjd)
            rw [List.getElem_map, (List.getElem?_eq_some_iff.1 hd).2] at hcl
            obtain ⟨d1, d2, d3⟩ := HBD.out d (List.mem_of_getElem? hd)
            have HO := Lib.hid (⟨ho1, ho2, ho3, ho4⟩ : _ ∧ _ ∧ _ ∧ _)
            have HD3 := Lib.hid (⟨d1, d2, d3⟩ : _ ∧ _ ∧ _)
            have HBW := Lib.hid hb
            clear hd ho1 ho2 ho3 ho4 d1 hb
            by_cases hcd : FC.cls d = FC.cls c
            · have HCD := Lib.hid hcd
              have hcc : (FC.cls d == FC.cls c) = true := by simp [hcd]
              clear hcd
              go_wp2_with (go_at_call 22; refine (rclass_any _ _).mono ?_; rintro e w9 ⟨rfl, h9⟩; subst h9)
              go_roundw
              case rel => exact ⟨j + 1, d, rfl, by go_num, hjd, ⟨HCD.out, HD3.out.1, HD3.out.2.1, HD3.out.2.2⟩, HBW.out⟩
              case measure => simp [intOf]; omega
            · have hcc : (FC.cls d == FC.cls c) = false := by simp [hcd]
              clear hcd
              go_wp2_with (go_at_call 22; refine (rclass_any _ _).mono ?_; rintro e w9 ⟨rfl, h9⟩; subst h9)
              go_roundw
              case rel => exact ⟨j + 1, o, rfl, by go_num, hjd, HO.out, HBW.out⟩
              case measure => simp [intOf]; omega
          · obtain rfl : dl = j := by omega
            have h3' := HZ.out.2.2
            have hpu : (ByteArray.empty.push (UInt8.ofNat o.toNat)).size = 1 := rfl
            have HLK := Lib.hid (OP.more_like HZ.out.2.2 HH.out.2.2.1 (OP.ch_push ho3 ho4) (by rw [HCE.out]; exact ⟨ho1, FC.stg_of ho1 ho2⟩))
            have HBW := Lib.hid (bnext HB3.out hb)
            clear ho1 ho2 hb
            go_wp2_with fail
            go_roundw
            case rel => exact ⟨k + 1, o1, o2, three ++ ByteArray.empty.push (UInt8.ofNat o.toNat), rfl, rfl, rfl, by go_num, hkn, H1.out.1, H2.out.1, by rw [ByteArray.size_append, h3', hpu], H1.out.2, H2.out.2, HLK.out, balloc HBW.out _⟩
            case measure => simp [intOf]; omega
    · obtain rfl : n = k := by omega
      have HL3 : Hid (OP.levels three = OP.levels t) := Lib.hid (OP.levels_like (by rw [h3s, HN.out]) (by rw [h3s]; exact h3))
      have H1 := Lib.hid h1
      have H2 := Lib.hid h2
      have HBR := Lib.hid (bnext HB1.out hb)
      obtain ⟨p, hp⟩ : ∃ p, one.size = p := ⟨_, rfl⟩
      obtain ⟨q, hq⟩ : ∃ q, two.size = q := ⟨_, rfl⟩
      have HP := Lib.hid hp
      have HQ := Lib.hid hq
      have H3S := Lib.hid h3s
      rw [hp] at h1s
      rw [hq] at h2s
      clear h1 h2 h3 hb h3s hp
      obtain ⟨wy, hwy⟩ : ∃ wy, wy = wr := ⟨_, rfl⟩
      subst hwy
      go_wp2_with fail
      go_loopw [13, 14] (fun v13 v14 wr => ∃ (i : Nat) (st : Bool), v13 = .bool st ∧ v14 = .int .i64 (i : Int) ∧ i ≤ q ∧ (st = true ↔ ∃ j, j < i ∧ FC.stg (CP.ch two j) = 2) ∧ Below wy.heap.size wy wr) (fun _ v _ => q - (intOf v).toNat)
      case atStart => exact ⟨0, false, rfl, rfl, Nat.zero_le _, ⟨fun h => (by cases h), fun ⟨j, h, _⟩ => absurd h (Nat.not_lt_zero j)⟩, Below.refl _ _⟩
      case round =>
        obtain ⟨i, st, rfl, rfl, hiq, hst, hb⟩ := hrel
        by_cases hin : i < q
        · have hii : (i : Int) < (q : Int) := by omega
          have hi0 : (0 : Int) ≤ (i : Int) := by omega
          have hiA : i < two.size := by rw [HQ.out]; exact hin
          have hS := Lib.hid fun V => rstrong_any ((two[i].toNat : Nat) : Int) V
          have hcb : ((two[i].toNat : Nat) : Int) ≤ 255 := by have := two[i].toNat_lt; omega
          have hce : CP.ch two i = ((two[i].toNat : Nat) : Int) := CP.ch_at hiA
          obtain ⟨x, hx⟩ : ∃ x, FC.stg ((two[i].toNat : Nat) : Int) = x := ⟨_, rfl⟩
          rw [hx] at hS
          have HCX := Lib.hid (show FC.stg (CP.ch two i) = x by rw [hce]; exact hx)
          have HST := Lib.hid hst
          have HBW := Lib.hid hb
          clear hst hb hce hx
          cases st
          · by_cases hx2 : x = 2
            · subst hx2
              go_wp2_with (go_at_call 19; refine (hS.out _).mono ?_; rintro e w6 ⟨rfl, hb6⟩)
              have HB6 := Lib.hid (bnext HBW.out hb6)
              clear hb6
              go_roundw
              case rel => exact ⟨i + 1, true, rfl, by go_num, hin, ⟨fun _ => ⟨i, by omega, HCX.out⟩, fun _ => rfl⟩, HB6.out⟩
              case measure => simp [intOf]; omega
            · have HX2 := Lib.hid hx2
              have hxx : (x == 2) = false := by simp [hx2]
              clear hx2
              go_wp2_with (go_at_call 19; refine (hS.out _).mono ?_; rintro e w6 ⟨rfl, hb6⟩)
              have HB6 := Lib.hid (bnext HBW.out hb6)
              clear hb6
              go_roundw
              case rel => exact ⟨i + 1, false, rfl, by go_num, hin, ⟨fun h => (by cases h), fun ⟨j, h1, h2⟩ => by
                by_cases e : j = i
                · subst e; exact absurd (HCX.out.symm.trans h2) HX2.out
                · exact HST.out.2 ⟨j, by omega, h2⟩⟩, HB6.out⟩
              case measure => simp [intOf]; omega
          · go_wp2_with fail
            go_roundw
            case rel => exact ⟨i + 1, true, rfl, by go_num, hin, ⟨fun _ => by
              obtain ⟨j, h1, h2⟩ := HST.out.1 rfl
              exact ⟨j, by omega, h2⟩, fun _ => rfl⟩, HBW.out⟩
            case measure => simp [intOf]; omega
        · obtain rfl : q = i := by omega
          have L1 := OP.left_only H1.out
          have LR1 : Hid (oright one = false) := Lib.hid (by unfold oright; rw [L1.1]; rfl)
          have LL1 : Hid (∀ (j : Nat) (d : Int), (OP.levels one)[j]? = some d → d = 0) := Lib.hid fun j d hd => by
            have hj : j < one.size := by have := (List.getElem?_eq_some_iff.1 hd).1; rwa [OP.levels_len] at this
            rw [OP.levels_get hj] at hd
            rw [← Option.some.inj hd, L1.2 j hj]
          have L2 : Hid (oright two = st ∧ ∀ (j : Nat) (d : Int), (OP.levels two)[j]? = some d → d = if st then 1 else 0) := Lib.hid (by
            cases st
            · have L2 := OP.left_only (s := two) fun j hj e => by
                have := hst.2 ⟨j, by omega, e⟩
                cases this
              refine ⟨by unfold oright; rw [L2.1]; rfl, fun j d hd => ?_⟩
              have hj : j < two.size := by have := (List.getElem?_eq_some_iff.1 hd).1; rwa [OP.levels_len] at this
              rw [OP.levels_get hj] at hd
              rw [← Option.some.inj hd, L2.2 j hj]; rfl
            · obtain ⟨j0, g1, g2⟩ := hst.1 rfl
              have L2 := OP.right_only H2.out ⟨j0, by omega, g2⟩
              refine ⟨by unfold oright; rw [L2.1]; rfl, fun j d hd => ?_⟩
              have hj : j < two.size := by have := (List.getElem?_eq_some_iff.1 hd).1; rwa [OP.levels_len] at this
              rw [OP.levels_get hj] at hd
              rw [← Option.some.inj hd, L2.2 j hj]; rfl)
          have HR1 := Lib.hid fun V (hV : Below w.heap.size w V) => oright_any one g V (HL.out V hV) (by rw [HP.out]; omega)
          have HR2 := Lib.hid fun V (hV : Below w.heap.size w V) => oright_any two g V (HL.out V hV) (by rw [HQ.out]; omega)
          have HV1 := Lib.hid fun V (hV : Below w.heap.size w V) => olevels_any one g V (HL.out V hV) (by rw [HP.out]; omega)
          have HV2 := Lib.hid fun V (hV : Below w.heap.size w V) => olevels_any two g V (HL.out V hV) (by rw [HQ.out]; omega)
          have HV3 := Lib.hid fun V (hV : Below w.heap.size w V) => olevels_any three g V (HL.out V hV) (by rw [H3S.out]; omega)
          have HV4 := Lib.hid fun V (hV : Below w.heap.size w V) => olevels_any t g V (HL.out V hV) (by rw [HN.out]; omega)
          have HLN1 := Lib.hid (OP.levels_len one)
          have HLN2 := Lib.hid (OP.levels_len two)
          have HLN4 := Lib.hid (OP.levels_len t)
          rw [LR1.out] at HR1
          rw [L2.out.1] at HR2
          rw [HL3.out, H3S.out] at HV3
          rw [HN.out] at HV4 HLN4
          rw [HP.out] at HV1 HLN1
          rw [HQ.out] at HV2 HLN2
          have LL2 := Lib.hid L2.out.2
          have HBW := Lib.hid (bnext HBR.out hb)
          obtain ⟨X1, hX1⟩ : ∃ X, OP.levels one = X := ⟨_, rfl⟩
          obtain ⟨X2, hX2⟩ : ∃ X, OP.levels two = X := ⟨_, rfl⟩
          obtain ⟨X4, hX4⟩ : ∃ X, OP.levels t = X := ⟨_, rfl⟩
          rw [hX1] at HV1 HLN1 LL1
          rw [hX2] at HV2 HLN2 LL2
          rw [hX4] at HV3 HV4 HLN4
          have HTX := Lib.hid hTS
          clear hst hb L1 L2 hX1 hX2 hX4 LR1 HL3
          go_wp2_with fail
          refine (HV1.out _ HBW.out).mono ?_
          rintro e w3 ⟨v3, rfl, ho3, hb3⟩
          obtain ⟨ta, tc, rfl⟩ := own_shape ho3
          have HRO := Lib.hid (row_own ho3 (by rw [List.length_map, HLN1.out]))
          have HB3 := Lib.hid (bnext HBW.out hb3)
          clear ho3 hb3
          go_wp2_with fail
          go_loopw [96] (fun v96 wr => ∃ j : Nat, v96 = .int .i64 (j : Int) ∧ j ≤ p ∧ Below w3.heap.size w3 wr) (fun v _ => p - (intOf v).toNat)
          case atStart => exact ⟨0, rfl, Nat.zero_le _, Below.refl _ _⟩
          case round =>
            obtain ⟨j, rfl, hj, hb⟩ := hrel
            by_cases hjp : j < p
            · have hji : (j : Int) < (p : Int) := by omega
              have hj0 : (0 : Int) ≤ (j : Int) := by omega
              obtain ⟨d, hd⟩ : ∃ d, X1[j]? = some d := ⟨X1[j]'(by rw [HLN1.out]; exact hjp), List.getElem?_eq_getElem _⟩
              obtain ⟨ag, ao, rfl, -, hcl⟩ := (HRO.out.keep hb).cell (k := j) (by rw [List.length_map, HLN1.out]; exact hjp)
              rw [List.getElem_map, (List.getElem?_eq_some_iff.1 hd).2] at hcl
              have hd0 := LL1.out j d hd
              subst hd0
              have HB6 := Lib.hid hb
              clear hd hb
              go_wp2_with fail
              go_roundw
              case rel => exact ⟨j + 1, by go_num, hjp, HB6.out⟩
              case measure => simp [intOf]; omega
            · obtain rfl : p = j := by omega
              have HB4 := Lib.hid (bnext HB3.out hb)
              clear hb
              go_wp2_with fail
              refine (HV2.out _ HB4.out).mono ?_
              rintro e w4 ⟨v4, rfl, ho4, hb4⟩
              obtain ⟨sa, sc, rfl⟩ := own_shape ho4
              have HRO2 := Lib.hid (row_own ho4 (by rw [List.length_map, HLN2.out]))
              have HB5 := Lib.hid (bnext HB4.out hb4)
              clear ho4 hb4
              go_wp2_with fail
              go_loopw [106] (fun v106 wr => ∃ j : Nat, v106 = .int .i64 (j : Int) ∧ j ≤ q ∧ Below w4.heap.size w4 wr) (fun v _ => q - (intOf v).toNat)
              case atStart => exact ⟨0, rfl, Nat.zero_le _, Below.refl _ _⟩
              case round =>
                obtain ⟨j, rfl, hj, hb⟩ := hrel
                by_cases hjq : j < q
                · have hji : (j : Int) < (q : Int) := by omega
                  have hj0 : (0 : Int) ≤ (j : Int) := by omega
                  obtain ⟨d, hd⟩ : ∃ d, X2[j]? = some d := ⟨X2[j]'(by rw [HLN2.out]; exact hjq), List.getElem?_eq_getElem _⟩
                  obtain ⟨ag, ao, rfl, -, hcl⟩ := (HRO2.out.keep hb).cell (k := j) (by rw [List.length_map, HLN2.out]; exact hjq)
                  rw [List.getElem_map, (List.getElem?_eq_some_iff.1 hd).2] at hcl
                  have hd0 := LL2.out j d hd
                  have HB6 := Lib.hid hb
                  clear hd hb
                  cases st
                  · have hd1 : d = 0 := hd0
                    subst hd1
                    clear hd0
                    go_wp2_with fail
                    go_roundw
                    case rel => exact ⟨j + 1, by go_num, hjq, HB6.out⟩
                    case measure => simp [intOf]; omega
                  · have hd1 : d = 1 := hd0
                    subst hd1
                    clear hd0
                    go_wp2_with fail
                    go_roundw
                    case rel => exact ⟨j + 1, by go_num, hjq, HB6.out⟩
                    case measure => simp [intOf]; omega
                · obtain rfl : q = j := by omega
                  have HB6 := Lib.hid (bnext HB5.out hb)
                  have hss : (st == st) = true := by simp
                  clear hb
                  go_wp2_with fail
                  refine (HR1.out _ HB6.out).mono ?_
                  rintro e w5 ⟨rfl, hb7⟩
                  have HB7 := Lib.hid (bnext HB6.out hb7)
                  clear hb7
                  go_wp2_with fail
                  refine (HR2.out _ HB7.out).mono ?_
                  rintro e w6 ⟨rfl, hb8⟩
                  have HB8 := Lib.hid (bnext HB7.out hb8)
                  clear hb8
                  go_wp2_with fail
                  refine (HV3.out _ HB8.out).mono ?_
                  rintro e w7 ⟨v7, rfl, ho7, hb9⟩
                  obtain ⟨ra, rc, rfl⟩ := own_shape ho7
                  have HRA := Lib.hid (row_own ho7 (by rw [List.length_map, HLN4.out]))
                  have HB9 := Lib.hid (bnext HB8.out hb9)
                  clear ho7 hb9
                  go_wp2_with fail
                  refine (HV4.out _ HB9.out).mono ?_
                  rintro e w8 ⟨v8, rfl, ho8, hb10⟩
                  obtain ⟨xa, xc, rfl⟩ := own_shape ho8
                  have HRB := Lib.hid (row_own ho8 (by rw [List.length_map, HLN4.out]))
                  have HRA2 := Lib.hid (HRA.out.keep hb10)
                  have HB10 := Lib.hid (bnext HB9.out hb10)
                  clear ho8 hb10
                  go_wp2_with fail
                  refine (oequal_any _ _ X4 _ HRA2.out HRB.out (by rw [HLN4.out]; omega)).mono ?_
                  rintro e w9 ⟨rfl, hb11⟩
                  have HB11 := Lib.hid (bnext HB10.out hb11)
                  clear hb11
                  go_wp2_with fail
                  go_ret
                  exact ⟨rfl, HB11.out⟩

set_option maxRecDepth 100000 in
theorem lifted (os : Os) (started : os.Started) (H : Type) (enc : TypeId × Value → H) :
    ReturnsInHanded {} Tryd.checked os 4 .any (fun w args => (Rows.orderPlainSpec.pre enc Tryd.prog Tryd.f4 [] false w args ∧ laidMetH Tryd.prog laidL w) ∧ sizedMet enc Tryd.prog Tryd.f4 (OpenSpec.ofChange Rows.orderPlainSpec) false w args)
      (Rows.orderPlainSpec.post enc Tryd.prog Tryd.f4 false true false false) := by
  refine returnsInHanded_of_change_and (C := Tryd.checked) (X := fun w _ => laidMetH Tryd.prog laidL w) (fun _ _ _ hh h => h.of_heap hh) own started (by kernel_rfl) Tryd.func4
    (ChangeSpec.witness_shaped (enc := enc) (C := Tryd.checked) (os := os) (X := fun w _ => laidMetH Tryd.prog laidL w) false (World.doorLaid Tryd.prog 46 os) #[.string ByteArray.empty] 8 rfl (World.shaped_of_RefB (by kernel_rfl) (by kernel_rfl)) (by kernel_rfl) (by kernel_rfl) (by kernel_rfl) (door_met os _)) ?_
  intro W base args ds gs before hval0 hW _ _ hL _
  have hval : ∀ (j : Nat) t v, Tryd.f4.params[j]? = some t → args[j]? = some v → Value.okWide Tryd.prog W .any base t v := hval0
  have hW' := hW
  obtain ⟨p, q, hA0, hV, rfl, hfz, hnd⟩ := hW
  have hA : DataW.TrodAll enc Tryd.prog W 0 (fun _ => true) true Tryd.f4.params.toList args.toList ds p := hA0
  rw [Tryd.params4] at hA hval
  obtain ⟨v0, vs0, d0, ds0, p0, q0, hargs, rfl, rfl, h0, r0⟩ := trodAll_cons hA
  obtain ⟨rfl, rfl, rfl⟩ := trodAll_nil r0
  obtain rfl : args = #[v0] := by cases args; simp_all
  obtain ⟨rfl, rfl⟩ := trodVars_none hV
  obtain ⟨g, hlaid⟩ := of_laid hL
  have k0 := h0
  have lt0 : ∀ x ∈ p0, x.block < W.heap.size := by obtain ⟨m, hm⟩ := k0; exact DataW.trod_lt m _ _ _ hm
  obtain ⟨a0, rfl, rfl, rfl, wa0⟩ := open_string Tryd.underlying9 (hval 0 9 v0 rfl rfl) h0
  clear hA0 hval0
  refine (walk a0 g wa0 W hlaid).mono fun e W' ⟨he, bel⟩ => ?_
  subst he
  exact ⟨_, rfl, _, _, _, [], _, [], hW', trodAll_mk1 (shut_bool Tryd.underlying4 _), (trodAll_cons_mk (Below.trod laidOut (by kernel_rfl) (of_decide_eq_true (by kernel_rfl)) k0 bel lt0) trodAll_mk0), rfl, bel.frame _, fun h => by cases h⟩

theorem over : Rows.orderPlainRow.holds Tryd.pinned (OpenSpec.ofChange Rows.orderPlainSpec) :=
  OpenClaim.holds_of_wide 4 Tryd.f4 rfl rfl rfl rfl rfl rfl rfl ⟨rfl, rfl, rfl, rfl, rfl⟩ rfl rfl rfl rfl rfl (by kernel_rfl) Tryd.func4 (by kernel_rfl)
    (of_decide_eq_true (by kernel_rfl)) (by unfold Func.isWrapper; first | (rw [if_pos (by decide +kernel)]; kernel_rfl) | (rw [if_neg (by decide +kernel)]; exact ⟨rfl, rfl⟩))
    (fun os started H enc _ => lifted os started H enc)

/-- The row's card, tied to the program's text. -/
theorem card : Rows.OrderPlainCardSaid :=
  Claim7.holds_tied_plain_at .later [] [.data] true Rows.orderPlainCard.stood.harness false
    over (fun _ h => by cases h) (by kernel_rfl) (fun _ h => by cases h) orderPlain_row_tie rfl ⟨rfl, rfl⟩ (by kernel_rfl) rfl
    (fun f fn hf hfn => by
      obtain rfl : f = 4 := Option.some.inj ((show Tryd.prog.funcNamed "abugida/abugidalaw07.OrderPlain" = some 4 by kernel_rfl).symm.trans hf) |>.symm
      obtain rfl : fn = Tryd.f4 := (Option.some.inj (Tryd.func4.symm.trans hfn)).symm
      exact ⟨by kernel_rfl, fun j t ht => by
        rw [Tryd.params4] at ht
        have hm : t ∈ [9] := by simpa using Array.mem_of_getElem? ht
        have hall : ([9].all fun u => !Tryd.prog.wantsStandIn u) = true := by kernel_rfl
        exact (show Tryd.prog.wantsStandIn t = false by simpa using List.all_eq_true.1 hall t hm)⟩)
    (by kernel_rfl)

end Go.Proofs.YtbgmbcngkmlfeaaDoor.orderPlain
namespace Go.Proofs.YtbgmbcngkmlfeaaDoor
theorem orderPlain_proved : Rows.OrderPlainCardSaid := orderPlain.card
#print axioms orderPlain_proved
end Go.Proofs.YtbgmbcngkmlfeaaDoor
