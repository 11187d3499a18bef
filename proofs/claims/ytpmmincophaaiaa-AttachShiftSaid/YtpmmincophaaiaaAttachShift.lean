/- For every list of lists of numbers, every class and every amount AttachShift returns true: if all anchors of a class, and all Hangs of this class, are moved by the same amount, the places stay. No conditions. -/
import Derived.Test.YtpmmincophaaiaaAttSh1
namespace Go.Proofs.Ytpmmincophaaiaa.attachShift
open Go.ChangeShapes Go.WideShapes Go.ChangeAt Go.RowKit Go.Joins Go.Deep
set_option linter.unusedVariables false

set_option maxRecDepth 100000 in
set_option maxHeartbeats 8000000 in
theorem walk (v0 : Value) (a0 : List (List Int)) (a1 : Int) (a2 : Int) (b2 : Int) (wa1 : (Lit.int .u8 a1).wf = true) (wa2 : (Lit.int .i64 a2).wf = true) (wb2 : (Lit.int .i64 b2).wf = true) (w : World) (H0 : LLAt w v0 a0) (L0 : a0.length ≤ maxLen ∧ ∀ a n c, v0 = .slice a n c → n ≤ c) :
    Calls Try.prog 8 #[v0, .int .u8 a1, .agg #[.int .i64 a2, .int .i64 b2]] w fun e w' => e = .returned (.bool true) ∧ Below w.heap.size w w' := by
  have HM : Hid (∀ V, Below w.heap.size w V → LLAt V v0 a0) := Lib.hid fun V hV => H0.keep hV
  obtain ⟨va, vc, hv0⟩ : ∃ va vc, v0 = .slice va a0.length vc := by obtain ⟨va, vc, e, -⟩ := H0; exact ⟨va, vc, e⟩
  subst hv0
  have L0' := L0.1
  obtain ⟨y1, y2⟩ := bd8 wa1
  obtain ⟨cn, hcn⟩ : ∃ cn : Nat, a1 % 3 = (cn : Int) := ⟨(a1 % 3).toNat, by omega⟩
  have hcn3 : cn < 3 := by omega
  obtain ⟨c, hc⟩ : ∃ c, 1 + (cn : Int) = c := ⟨_, rfl⟩
  have hc0 : c ≠ 0 := by omega
  have hc1 : 1 ≤ c ∧ c ≤ 3 := by omega
  have hrem : a1.tmod 3 = (cn : Int) := by rw [Int.tmod_eq_emod_of_nonneg y1]; exact hcn
  obtain ⟨x, hx⟩ : ∃ x, a2 % 1000 = x := ⟨_, rfl⟩
  obtain ⟨y, hy⟩ : ∃ y, b2 % 1000 = y := ⟨_, rfl⟩
  have hx1 : 0 ≤ x ∧ x < 1000 := by omega
  have hy1 : 0 ≤ y ∧ y < 1000 := by omega
  have HX1 := Lib.hid hx1
  have HY1 := Lib.hid hy1
  obtain ⟨hx2, hx3⟩ := hx1
  obtain ⟨hy2, hy3⟩ := hy1
  clear L0 H0 hcn wa1 wa2 wb2
  go_enter Try.func8, Try.ntmps8
  go_wp2_with fail
  obtain ⟨W0, hW0⟩ : ∃ W0, w.alloc (.cells #[.int .i64 a2, .int .i64 b2] 37) = W0 := ⟨_, rfl⟩
  obtain ⟨Bp, hBp⟩ : ∃ Bp, w.heap.size = Bp := ⟨_, rfl⟩
  have hpb : PtB W0 Bp (a2, b2) := by rw [← hW0, ← hBp]; exact heap_alloc_new w _
  have hb0 : Below w.heap.size w W0 := by rw [← hW0]; exact balloc (Below.refl _ _) _
  rw [hW0, hBp]
  have HB0 := Lib.hid hb0
  have HPB := Lib.hid hpb
  clear hW0 hBp hb0 hpb
  refine (sane_any _).mono ?_
  rintro e w1 ⟨rfl, k1⟩
  have HB1 := Lib.hid (bnext HB0.out k1)
  obtain ⟨p0, p1⟩ := (HPB.out.keep k1).cells
  clear k1
  go_upto_region 3 with fail
  go_region_held3 (fun w' => w'.cell? ⟨Bp, 0, none⟩ = some (.int .i64 a2) ∧ w'.cell? ⟨Bp, 1, none⟩ = some (.int .i64 b2)) (go_keep) (first | (go_at_call 15; refine (mod_any _ _ _ (by omega) (by omega)).mono ?_; rintro e w' ⟨rfl, rfl⟩))
  clear p0 p1 hx hy hc hrem
  have HBd := Lib.hid (show Below w.heap.size w w1.drew from HB1.out.drew)
  obtain ⟨W1, hW1⟩ : ∃ W1, w1.drew = W1 := ⟨_, rfl⟩
  rw [hW1] at HBd ⊢
  clear hW1
  go_wp2_with fail
  refine (made_k a0 _ _ (HM.out _ HBd.out) L0').mono ?_
  rintro e w2 ⟨da, dc, rfl, hds, -, k2⟩
  have HB2 := Lib.hid (bnext HBd.out k2)
  have HDS := Lib.hid hds
  clear k2 hds
  go_wp2_with fail
  refine (made_any a0 _ _ (HM.out _ HB2.out) L0').mono ?_
  rintro e w3 ⟨u, X, rfl, ho, hm, k3⟩
  have HB3 := Lib.hid (bnext HB2.out k3)
  have HDS3 := Lib.hid (HDS.out.keep k3)
  have hn0 : X.length = (AT.made a0).length := by rw [← hm, List.length_map]
  have hdl := AT.made_len a0
  obtain ⟨n, hn⟩ : ∃ n, (AT.made a0).length = n := ⟨_, rfl⟩
  rw [hn] at hn0 hdl HDS3 ⊢
  obtain ⟨ma, mc, rfl⟩ := own_shape ho.1
  rw [hn0] at ho ⊢
  have HN := Lib.hid hn
  have HN0 := Lib.hid hn0
  have HMX := Lib.hid hm
  have HOX := Lib.hid ho
  have HK3 := Lib.hid k3
  clear k3 hn0 hn hm ho
  go_wp2_with fail
  go_loopw [32] (fun v32 wr => ∃ (k : Nat) (X' : List (AT.Dr × Value)), v32 = .int .i64 (k : Int) ∧ k ≤ n ∧ X'.length = n ∧ OwnD wr w2.heap.size (.slice ma n mc) X' ∧ Hid (∀ j, X'[j]? = if j < k then (X[j]?).map (fun e => (AT.shD c x y e.1, e.2)) else X[j]?) ∧ Below w2.heap.size w2 wr) (fun v _ => n - (intOf v).toNat)
  case atStart => exact ⟨0, X, rfl, Nat.zero_le _, HN0.out, HOX.out, Lib.hid (fun j => by rw [if_neg (Nat.not_lt_zero _)]), HK3.out⟩
  case round =>
    obtain ⟨k, X', rfl, hk, hXl, hown, hxj, hb⟩ := hrel
    obtain ⟨wo, hwo⟩ : ∃ wo, wo = wr := ⟨_, rfl⟩
    subst hwo
    have HOW := Lib.hid hown
    have HBR := Lib.hid hb
    clear hown hb
    by_cases hin : k < n
    · have hii : (k : Int) < (n : Int) := by omega
      have hi0 : (0 : Int) ≤ (k : Int) := by omega
      obtain ⟨⟨d, vd⟩, hd⟩ : ∃ e, X[k]? = some e := ⟨X[k]'(by rw [HN0.out]; exact hin), List.getElem?_eq_getElem _⟩
      have hd' : X'[k]? = some (d, vd) := by rw [hxj.out k, if_neg (Nat.lt_irrefl _)]; exact hd
      obtain ⟨g, aa, ac, rfl, rfl, hg, han, hfr, c1, c2, c3, c4⟩ := HOW.out.at' hXl hd'
      have hmk : ∃ L, d = AT.mkDr L := by
        have h1 := List.mem_map_of_mem (f := Prod.fst) (List.mem_of_getElem? hd)
        rw [HMX.out] at h1
        exact AT.made_mem h1
      obtain ⟨L, hL⟩ := hmk
      obtain ⟨i1, i2, i3, -⟩ := AT.mkDr_in L
      rw [← hL] at i1 i2 i3
      have hhb : (-20 ≤ d.hang.2.1 ∧ d.hang.2.1 ≤ 40) ∧ (-20 ≤ d.hang.2.2 ∧ d.hang.2.2 ≤ 40) := by
        rcases i3 with h | ⟨-, h2, h3⟩
        · rw [h]; simp
        · exact ⟨h2, h3⟩
      obtain ⟨⟨hh1, hh2⟩, hh3, hh4⟩ := hhb
      have f3 := hfr (k * 6 + 3)
      have f4 := hfr (k * 6 + 4)
      obtain ⟨m, hm⟩ : ∃ m, d.anchors.length = m := ⟨_, rfl⟩
      rw [hm] at c1 han hd hd' i1
      have HM2 := Lib.hid hm
      have HD := Lib.hid hd
      have HD' := Lib.hid hd'
      have HI2 := Lib.hid i2
      obtain ⟨d1, hd1⟩ : ∃ d1 : AT.Dr, d1 = ⟨d.anchors, AT.shA c x y d.hang, d.adv⟩ := ⟨_, rfl⟩
      have HD1 := Lib.hid hd1
      clear hL i3 hm hd hd' hd1 han hfr i2
      go_upto_if 42 with (fail)
      go_cut [] (fun wx => OwnD wx w2.heap.size (.slice (some ⟨g, 0, none⟩) n mc) (X'.set k (d1, .slice aa m ac)) ∧ Below w2.heap.size w2 wx)
      case first =>
        by_cases hcc : d.hang.1 = c
        · have hqc : (d.hang.1 == c) = true := by simpa using hcc
          have hst := (HOW.out.setHang hXl HD'.out (d.hang.2.1 + x) (d.hang.2.2 + y))
          have he : (⟨d.anchors, (d.hang.1, d.hang.2.1 + x, d.hang.2.2 + y), d.adv⟩ : AT.Dr) = d1 := by
            rw [HD1.out]
            unfold AT.shA
            rw [if_pos hcc]
          rw [he] at hst
          have HST := Lib.hid hst.1
          have HBS := Lib.hid (HBR.out.grown hst.2 HBR.out.size (fun q e => by have := Option.some.inj e; omega))
          clear hst he hcc
          go_wp2_with fail
          go_meet
          exact ⟨HST.out, HBS.out⟩
        · have hqc : (d.hang.1 == c) = false := by simpa using hcc
          have he : d = d1 := by
            rw [HD1.out]
            unfold AT.shA
            rw [if_neg hcc]
          have HST : Hid (OwnD wo w2.heap.size (.slice (some ⟨g, 0, none⟩) n mc) (X'.set k (d1, .slice aa m ac))) := Lib.hid (by
            rw [← he]
            have h1 := List.getElem?_eq_some_iff.1 HD'.out
            rw [← h1.2, List.set_getElem_self]
            exact HOW.out)
          clear he hcc
          go_wp2_with fail
          go_meet
          exact ⟨HST.out, HBR.out⟩
      case rest =>
        obtain ⟨hst, hbc⟩ := hcut
        have HKL : Hid (k < X'.length) := Lib.hid (by rw [hXl]; exact hin)
        have HSL : Hid (∀ e : AT.Dr × Value, (X'.set k e).length = n) := Lib.hid (fun e => by rw [List.length_set]; exact hXl)
        have HSG : Hid (∀ e : AT.Dr × Value, (X'.set k e)[k]? = some e) := Lib.hid (fun e => by rw [List.getElem?_set_self HKL.out])
        obtain ⟨g', aa', ac', e1, e2, -, -, -, x1, -, -, -⟩ := hst.at' (HSL.out _) (HSG.out _)
        have e1' := Option.some.inj e1
        injection e1' with e3 e4
        subst e3
        rw [← e2] at x1
        have HBC := Lib.hid hbc
        have hst0 : OwnD wc w2.heap.size (.slice (some ⟨g, 0, none⟩) n mc) (X'.set k (⟨(d.anchors.take 0).map (AT.shA c x y) ++ d.anchors.drop 0, AT.shA c x y d.hang, d.adv⟩, .slice aa m ac)) := by
          have h1 : (⟨(d.anchors.take 0).map (AT.shA c x y) ++ d.anchors.drop 0, AT.shA c x y d.hang, d.adv⟩ : AT.Dr) = d1 := by rw [HD1.out]; simp
          rw [h1]
          exact hst
        have HST0 := Lib.hid hst0
        clear hst hst0 hbc e1 e2
        (try clear e4)
        go_wp2_with fail
        go_loopw [71] (fun v71 wr => ∃ i : Nat, v71 = .int .i64 (i : Int) ∧ i ≤ m ∧ OwnD wr w2.heap.size (.slice (some ⟨g, 0, none⟩) n mc) (X'.set k (⟨(d.anchors.take i).map (AT.shA c x y) ++ d.anchors.drop i, AT.shA c x y d.hang, d.adv⟩, .slice aa m ac)) ∧ Below w2.heap.size w2 wr) (fun v _ => m - (intOf v).toNat)
        case atStart => exact ⟨0, rfl, Nat.zero_le _, HST0.out, HBC.out⟩
        case round =>
          obtain ⟨i, rfl, him, hst, hbi⟩ := hrel
          have HBI := Lib.hid hbi
          by_cases hi2 : i < m
          · have hii3 : (i : Int) < (m : Int) := by omega
            have hi3 : (0 : Int) ≤ (i : Int) := by omega
            obtain ⟨z, hz⟩ : ∃ z, d.anchors[i]? = some z := ⟨d.anchors[i]'(by rw [HM2.out]; exact hi2), List.getElem?_eq_getElem _⟩
            obtain ⟨hpa, hpl⟩ := part_at (f := AT.shA c x y) hz
            have hps := part_set (f := AT.shA c x y) hz
            have HPS2 : Hid (AT.shA c x y z = z → (d.anchors.take i).map (AT.shA c x y) ++ d.anchors.drop i = (d.anchors.take (i + 1)).map (AT.shA c x y) ++ d.anchors.drop (i + 1)) := Lib.hid (fun h => part_same hz h)
            obtain ⟨li, hli⟩ : ∃ li, (d.anchors.take i).map (AT.shA c x y) ++ d.anchors.drop i = li := ⟨_, rfl⟩
            rw [hli] at hst hpa hpl hps HPS2
            rw [HM2.out] at hpl
            obtain ⟨g', aa', ac', e1, e2, -, han, -, x1, -, -, -⟩ := hst.at' (HSL.out _) (HSG.out _)
            have e1' := Option.some.inj e1
            injection e1' with e3 e4
            subst e3
            simp only at e2 han x1
            rw [hpl] at e2 han x1
            injection e2 with e5 e6 e7
            subst e5 e7
            obtain ⟨q, rfl, hq, hfr, z1, z2, z3⟩ := an_at' han hpl hpa
            have hgq : g ≠ q := fun e => (hst.2.1 _ (List.mem_of_getElem? (HSG.out _))).2 q rfl (by rw [e]; rfl)
            have hqg : q ≠ g := fun e => hgq e.symm
            have fz2 := hfr (i * 3 + 1)
            have fz3 := hfr (i * 3 + 2)
            obtain ⟨-, ⟨hz2, hz3⟩, hz4, hz5⟩ := HI2.out z (List.mem_of_getElem? hz)
            have HST := Lib.hid hst
            have HPA := Lib.hid hpa
            have HPL := Lib.hid hpl
            have HPS := Lib.hid hps
            clear hz hpa hpl hps hli han hfr hst hbi e1
            (try clear e4)
            (try clear e6)
            by_cases hcc : z.1 = c
            · have hqc : (z.1 == c) = true := by simpa using hcc
              have hsa := HST.out.setAn (HSG.out _) HPL.out HPA.out (z.2.1 + x) (z.2.2 + y)
              have he : AT.shA c x y z = (z.1, z.2.1 + x, z.2.2 + y) := if_pos hcc
              rw [List.set_set] at hsa
              simp only at hsa
              rw [← he, HPS.out] at hsa
              have HSA := Lib.hid hsa.1
              have HBS := Lib.hid (HBI.out.grown hsa.2 HBI.out.size (fun r e => by have := Option.some.inj e; omega))
              clear hsa he hcc
              go_wp2_with fail
              go_roundw
              case rel => exact ⟨i + 1, by go_num, hi2, HSA.out, HBS.out⟩
              case measure => simp [intOf]; omega
            · have hqc : (z.1 == c) = false := by simpa using hcc
              have he := HPS2.out (if_neg hcc)
              have hst2 := HST.out
              rw [he] at hst2
              have HST2 := Lib.hid hst2
              clear hst2 he hcc
              go_wp2_with fail
              go_roundw
              case rel => exact ⟨i + 1, by go_num, hi2, HST2.out, HBI.out⟩
              case measure => simp [intOf]; omega
          · obtain rfl : i = m := by omega
            have hfin : (⟨(d.anchors.take i).map (AT.shA c x y) ++ d.anchors.drop i, AT.shA c x y d.hang, d.adv⟩ : AT.Dr) = AT.shD c x y d := by
              rw [← HM2.out, List.take_length, List.drop_length, List.append_nil]
              rfl
            rw [hfin] at hst
            have HST := Lib.hid hst
            have HXJ : Hid (∀ j, (X'.set k (AT.shD c x y d, .slice aa i ac))[j]? = if j < k + 1 then (X[j]?).map (fun e => (AT.shD c x y e.1, e.2)) else X[j]?) := Lib.hid (fun j => by
              by_cases hjk : k = j
              · subst hjk
                rw [HSG.out, if_pos (by omega), HD.out]
                rfl
              · rw [List.getElem?_set_ne hjk, hxj.out j]
                by_cases hlt : j < k
                · rw [if_pos hlt, if_pos (by omega)]
                · rw [if_neg hlt, if_neg (by omega)])
            clear hst hbi hfin
            go_wp2_with fail
            go_roundw
            case rel => exact ⟨k + 1, _, by go_num, hin, HSL.out _, HST.out, HXJ, HBI.out⟩
            case measure => simp [intOf]; omega
    · have hii : ¬ (k : Int) < (n : Int) := by omega
      have hfin : X'.map Prod.fst = (AT.made a0).map (AT.shD c x y) := by
        rw [← HMX.out, List.map_map]
        apply List.ext_getElem?
        intro j
        rw [List.getElem?_map, List.getElem?_map, hxj.out j]
        by_cases hj : j < k
        · rw [if_pos hj, Option.map_map]
          rfl
        · have hj2 : X[j]? = none := List.getElem?_eq_none (by rw [HN0.out]; omega)
          rw [if_neg hj, hj2]
          rfl
      have hpl : AT.places ((AT.made a0).map (AT.shD c x y)) = AT.places (AT.made a0) := AT.places_sh hc0 (by rw [HN.out]; omega) (AT.made_right a0) (AT.made_sh_right HX1.out HY1.out a0)
      have hdm := HOW.out.ds
      rw [hfin] at hdm
      have HDM := Lib.hid hdm
      have HPL := Lib.hid hpl
      have HAN : Hid (∀ d ∈ (AT.made a0).map (AT.shD c x y), d.anchors.length ≤ 1000000000000) := Lib.hid (fun d hd => by
        obtain ⟨e, he, rfl⟩ := List.mem_map.1 hd
        show (e.anchors.map (AT.shA c x y)).length ≤ _
        rw [List.length_map]
        exact AT.made_anch a0 e he)
      have HLE : Hid (((AT.made a0).map (AT.shD c x y)).length ≤ 1000000000000) := Lib.hid (by rw [List.length_map, HN.out]; omega)
      have HLE0 : Hid ((AT.made a0).length ≤ 1000000000000) := Lib.hid (by rw [HN.out]; omega)
      have HAN0 := Lib.hid (AT.made_anch a0)
      obtain ⟨D, hD⟩ : ∃ D, AT.made a0 = D := ⟨_, rfl⟩
      rw [hD] at HLE0 HAN0 HDS HDM HPL HAN HLE
      obtain ⟨D2, hD2⟩ : ∃ D2, D.map (AT.shD c x y) = D2 := ⟨_, rfl⟩
      rw [hD2] at HDM HPL HAN HLE
      have HDSo := Lib.hid (HDS.out.keep HBR.out)
      have HNL : Hid (D.length = n) := Lib.hid (by rw [← hD]; exact HN.out)
      rw [HNL.out] at HDSo
      have HBo := Lib.hid (bnext HB2.out HBR.out)
      clear hfin hpl hdm hD hD2 hxj
      go_wp2_with fail
      refine (mplaces_c D _ _ HLE0.out HAN0.out HDSo.out).mono ?_
      rintro e w5 ⟨pa, pc, rfl, hp, k5⟩
      have HB5 := Lib.hid (bnext HBo.out k5)
      have HP5 := Lib.hid hp
      have HDM5 := Lib.hid (HDM.out.keep k5)
      clear k5 hp
      go_wp2_with fail
      refine (mplaces_c D2 _ _ HLE.out HAN.out HDM5.out).mono ?_
      rintro e w6 ⟨qa, qc, rfl, hq, k6⟩
      rw [HPL.out] at hq ⊢
      have HB6 := Lib.hid (bnext HB5.out k6)
      have HP6 := Lib.hid (HP5.out.keep k6)
      have HQ6 := Lib.hid hq
      clear k6 hq
      go_wp2_with fail
      refine (same_c (AT.places D) _ _ _ HP6.out HQ6.out (by have := places_len D; omega)).mono ?_
      rintro e w7 ⟨rfl, k7⟩
      have HB7 := Lib.hid (bnext HB6.out k7)
      clear k7
      go_wp2
      go_ret
      exact ⟨rfl, HB7.out⟩

set_option maxRecDepth 100000 in
theorem lifted (os : Os) (started : os.Started) (H : Type) (enc : TypeId × Value → H) :
    ReturnsInHanded {} Try.checked os 8 .any (Rows.attachShiftSpec.pre6 enc Try.prog Try.f8 Rows.attachShiftRow.domain false) (Rows.attachShiftSpec.post enc Try.prog Try.f8 false true false false) := by
  refine returnsInHanded_of_change (C := Try.checked) own started (by kernel_rfl) Try.func8
    (ChangeSpec.witness6 (enc := enc) (C := Try.checked) false ⟨#[], #[.slice none 0 0, .int .u8 0, .agg #[.int .i64 0, .int .i64 0]], []⟩ 8 (by kernel_rfl) (by kernel_rfl) (by kernel_rfl) (by kernel_rfl)) ?_
  intro W base args ds gs before hval0 hW hcnd _
  have hval : ∀ (j : Nat) t v, Try.f8.params[j]? = some t → args[j]? = some v → Value.okWide Try.prog W .any base t v := hval0
  have hW' := hW
  obtain ⟨p, q, hA0, hV, rfl, hfz, hnd⟩ := hW
  have hA : DataW.TrodAll enc Try.prog W 0 (fun _ => true) true Try.f8.params.toList args.toList ds p := hA0
  rw [Try.params8] at hA hval
  obtain ⟨v0, vs0, d0, ds0, p0, q0, hargs, rfl, rfl, h0, r0⟩ := trodAll_cons hA
  obtain ⟨v1, vs1, d1, ds1, p1, q1, rfl, rfl, rfl, h1, r1⟩ := trodAll_cons r0
  obtain ⟨v2, vs2, d2, ds2, p2, q2, rfl, rfl, rfl, h2, r2⟩ := trodAll_cons r1
  obtain ⟨rfl, rfl, rfl⟩ := trodAll_nil r2
  obtain rfl : args = #[v0, v1, v2] := by cases args; simp_all
  obtain ⟨rfl, rfl⟩ := trodVars_none hV
  have k0 := h0
  have lt0 : ∀ x ∈ p0, x.block < W.heap.size := by obtain ⟨m, hm⟩ := k0; exact DataW.trod_lt m _ _ _ hm
  have k1 := h1
  have lt1 : ∀ x ∈ p1, x.block < W.heap.size := by obtain ⟨m, hm⟩ := k1; exact DataW.trod_lt m _ _ _ hm
  have k2 := h2
  have lt2 : ∀ x ∈ p2, x.block < W.heap.size := by obtain ⟨m, hm⟩ := k2; exact DataW.trod_lt m _ _ _ hm
  obtain ⟨a0, H0, L0⟩ := open_lll (hval 0 22 v0 rfl rfl) h0
  obtain ⟨a1, rfl, rfl, rfl, wa1⟩ := open_int Try.underlying5 (hval 1 5 v1 rfl rfl) h1
  obtain ⟨a2, b2, rfl, wa2, wb2⟩ := open_arr2 Try.underlying37 Try.underlying3 (by kernel_rfl) (by kernel_rfl) (hval 2 37 v2 rfl rfl) h2
  clear hA0 hval0
  refine (walk v0 a0 a1 a2 b2 wa1 wa2 wb2 W H0 L0).mono fun e W' ⟨he, bel⟩ => ?_
  subst he
  exact ⟨_, rfl, _, _, _, [], _, [], hW', trodAll_mk1 (shut_bool Try.underlying4 _), (trodAll_cons_mk (Below.trod laidOut (by kernel_rfl) (of_decide_eq_true (by kernel_rfl)) k0 bel lt0) (trodAll_cons_mk (Below.trod laidOut (by kernel_rfl) (of_decide_eq_true (by kernel_rfl)) k1 bel lt1) (trodAll_cons_mk (Below.trod laidOut (by kernel_rfl) (of_decide_eq_true (by kernel_rfl)) k2 bel lt2) trodAll_mk0))), rfl, bel.frame _, fun h => by cases h⟩

theorem over : Rows.attachShiftRow.holds Try.pinned (OpenSpec.ofChange Rows.attachShiftSpec) :=
  OpenClaim.holds_of_wide 8 Try.f8 rfl rfl rfl rfl rfl rfl rfl ⟨rfl, rfl, rfl, rfl, rfl⟩ rfl rfl rfl rfl rfl (by kernel_rfl) Try.func8 (by kernel_rfl)
    (of_decide_eq_true (by kernel_rfl)) (by unfold Func.isWrapper; first | (rw [if_pos (by decide +kernel)]; kernel_rfl) | (rw [if_neg (by decide +kernel)]; exact ⟨rfl, rfl⟩))
    (fun os started H enc _ => lifted os started H enc)

end Go.Proofs.Ytpmmincophaaiaa.attachShift
namespace Go.Proofs.Ytpmmincophaaiaa
theorem attachShift_proved : Rows.AttachShiftSaid := attachShift.over
#print axioms attachShift_proved
end Go.Proofs.Ytpmmincophaaiaa
