/- For every list of lists of numbers and every byte AttachBehind returns true: what stands behind a glyph does not change its place; without a mark that has no anchors, all others have the same places. No conditions. -/
import Derived.Test.YtpmmincophaaiaaAttDV
namespace Go.Proofs.Ytpmmincophaaiaa.attachBehind
open Go.ChangeShapes Go.WideShapes Go.ChangeAt Go.RowKit Go.Joins Go.Deep
set_option linter.unusedVariables false

set_option maxRecDepth 100000 in
set_option maxHeartbeats 8000000 in
theorem walk (v0 : Value) (a0 : List (List Int)) (a1 : Int) (wa1 : (Lit.int .u8 a1).wf = true) (w : World) (H0 : LLAt w v0 a0) (L0 : a0.length ≤ maxLen ∧ ∀ a n c, v0 = .slice a n c → n ≤ c) :
    Calls Try.prog 7 #[v0, .int .u8 a1] w fun e w' => e = .returned (.bool true) ∧ Below w.heap.size w w' := by
  have HM : Hid (∀ V, Below w.heap.size w V → LLAt V v0 a0) := Lib.hid fun V hV => H0.keep hV
  obtain ⟨va, vc, hv0⟩ : ∃ va vc, v0 = .slice va a0.length vc := by obtain ⟨va, vc, e, -⟩ := H0; exact ⟨va, vc, e⟩
  subst hv0
  have L0' := L0.1
  clear H0 L0
  go_enter Try.func7, Try.ntmps7
  go_wp2_with fail
  refine (sane_any _).mono ?_
  rintro e w1 ⟨rfl, k1⟩
  have HB1 := Lib.hid k1
  clear k1
  go_wp2_with fail
  refine (made_k a0 _ _ (HM.out _ HB1.out) L0').mono ?_
  rintro e w2 ⟨da, dc, rfl, hds, hcap, k2⟩
  have HA := Lib.hid (AT.made_anch a0)
  have HR := Lib.hid (AT.made_right a0)
  have hdl := AT.made_len a0
  have HPL := Lib.hid (AT.made_places a0)
  obtain ⟨D, hD⟩ : ∃ D, AT.made a0 = D := ⟨_, rfl⟩
  rw [hD] at hds hdl HA HR HPL hcap ⊢
  have HDD := Lib.hid hD
  have HDS := Lib.hid hds
  have HB2 := Lib.hid (bnext HB1.out k2)
  clear k2 hds hD
  obtain ⟨n, hn⟩ : ∃ n, D.length = n := ⟨_, rfl⟩
  have hpl : (AT.places D).length = D.length := by rw [HPL.out]; exact AT.go_len D D.length (Nat.le_refl _)
  have HN := Lib.hid hn
  rw [hn] at hdl HDS hcap hpl ⊢
  have HPLEN := Lib.hid hpl
  unfold maxLen at hcap
  obtain ⟨hcap1, hcap2⟩ := hcap
  obtain ⟨b1, b2⟩ := bd8 wa1
  clear hn hpl wa1
  by_cases hn0 : n = 0
  · have hni : ((n : Int) == 0) = true := by simpa using hn0
    clear hn0
    go_wp2
    go_ret
    exact ⟨rfl, HB2.out⟩
  · have hni : ((n : Int) == 0) = false := by simpa using hn0
    have hnp : (0 : Int) < (n : Int) := by omega
    have hnz : ¬ (n : Int) = 0 := by omega
    obtain ⟨k, hk⟩ : ∃ k : Nat, a1 % (n : Int) = (k : Int) := ⟨(a1 % (n : Int)).toNat, by have := Int.emod_nonneg a1 hnz; omega⟩
    have hkn : k < n := by have := Int.emod_lt_of_pos a1 hnp; omega
    have hrem : a1.tmod (n : Int) = (k : Int) := by rw [Int.tmod_eq_emod_of_nonneg b1]; exact hk
    have hki : (k : Int) < (n : Int) := by omega
    have hk0 : (0 : Int) ≤ (k : Int) := by omega
    clear hk
    go_wp2_with fail
    refine (mplaces_k D _ _ (by rw [HN.out]; omega) HA.out HDS.out).mono ?_
    rintro e w3 ⟨pa, pc, rfl, hp, hpc, k3⟩
    rw [HPLEN.out] at hp hpc ⊢
    obtain ⟨hpc1, hpc2⟩ := hpc
    unfold maxLen at hpc2
    have HP := Lib.hid hp
    have HDS3 := Lib.hid (HDS.out.keep k3)
    have HB3 := Lib.hid (bnext HB2.out k3)
    clear k3 hp
    go_wp2_with fail
    have hkn1 : k + 1 ≤ D.length := by rw [HN.out]; omega
    have HPT : Hid (AT.places (D.take (k + 1)) = (AT.places D).take (k + 1)) := Lib.hid (AT.places_take (by rw [HN.out]; omega) HR.out k (by rw [HN.out]; exact hkn))
    refine (mplaces_k (D.take (k + 1)) _ _ (by rw [List.length_take]; omega) (fun d hd => HA.out d (List.mem_of_mem_take hd)) (HDS3.out.take hkn1)).mono ?_
    rintro e w4 ⟨fa, fc, rfl, hf, -, k4⟩
    have hfl : (AT.places (D.take (k + 1))).length = k + 1 := by rw [HPT.out, List.length_take, HPLEN.out]; omega
    rw [hfl] at hf ⊢
    have hf2 : PtAt w4 (.slice fa (k + 1) fc) ((AT.places D).take (k + 1)) := by rw [HPT.out] at hf; exact hf
    have HF := Lib.hid hf2
    have HP4 := Lib.hid (HP.out.keep k4)
    have HDS4 := Lib.hid (HDS3.out.keep k4)
    have HB4 := Lib.hid (bnext HB3.out k4)
    clear k4 hf hf2 hfl
    go_wp2_with fail
    refine (same_c ((AT.places D).take (k + 1)) _ _ _ HF.out (HP4.out.take (by rw [HPLEN.out]; omega)) (by rw [List.length_take, HPLEN.out]; omega)).mono ?_
    rintro e w5 ⟨rfl, k5⟩
    have HB5 := Lib.hid (bnext HB4.out k5)
    have HP5 := Lib.hid (HP4.out.keep k5)
    have HDS5 := Lib.hid (HDS4.out.keep k5)
    clear k5
    obtain ⟨d, hd⟩ : ∃ d, D[k]? = some d := ⟨D[k]'(by rw [HN.out]; exact hkn), List.getElem?_eq_getElem _⟩
    obtain ⟨ad, cd, e1, hcw⟩ := HDS5.out
    rw [HN.out] at e1
    injection e1 with e1 e2 e3
    subst e1 e3
    rcases hcw with h | ⟨g, o, rfl, hg, hcl⟩
    · rw [h] at hd
      simp at hd
    obtain ⟨ca, cn, cc, vv, ha, c0, c1, c2, c3, c4, c5⟩ := hcl k d hd
    obtain ⟨aa, ac, rfl, hal⟩ := ha
    have HD := Lib.hid hd
    have HCL := Lib.hid hcl
    obtain ⟨m, hm⟩ : ∃ m, d.anchors.length = m := ⟨_, rfl⟩
    rw [hm] at c1
    have HM2 := Lib.hid hm
    clear hcl hal hd hm
    by_cases hc0 : d.hang.1 = 0
    · have hq0 : (d.hang.1 == 0) = true := by simpa using hc0
      clear hc0
      go_wp2
      go_ret
      exact ⟨rfl, HB5.out⟩
    · have hq0 : (d.hang.1 == 0) = false := by simpa using hc0
      have HC0 := Lib.hid hc0
      by_cases hm0 : 0 < m
      · have hmi : (0 : Int) < (m : Int) := by omega
        clear hc0
        go_wp2
        go_ret
        exact ⟨rfl, HB5.out⟩
      · have hmi : ¬ (0 : Int) < (m : Int) := by omega
        have hmz : m = 0 := by omega
        have HPD : Hid (AT.places (D.take k ++ D.drop (k + 1)) = (AT.places D).take k ++ (AT.places D).drop (k + 1)) := Lib.hid (AT.places_del (by rw [HN.out]; omega) HR.out HD.out (List.eq_nil_of_length_eq_zero (by rw [HM2.out]; exact hmz)) HC0.out)
        clear hc0 hm0 hmz
        obtain ⟨k1, hk1⟩ : ∃ k1, k1 = k + 1 := ⟨_, rfl⟩
        have HK1 := Lib.hid hk1
        have hwk : IntKind.i64.wrap ((k : Int) + 1) = (k1 : Int) := by rw [IntKind.wrap_i64]; omega
        have hk10 : (0 : Int) ≤ (k1 : Int) := by omega
        have hk1n : (k1 : Int) ≤ (n : Int) := by omega
        obtain ⟨adr, had, hadr⟩ : ∃ adr : Addr, (if dc = k1 then (some ⟨g, o, none⟩ : Option Addr) else some ⟨g, o + k1 * 6, none⟩) = some adr ∧ (k1 < n → adr = ⟨g, o + k1 * 6, none⟩) := by
          by_cases hcc : dc = k1
          · exact ⟨⟨g, o, none⟩, if_pos hcc, fun h => by omega⟩
          · exact ⟨⟨g, o + k1 * 6, none⟩, if_neg hcc, fun h => rfl⟩
        have HADR := Lib.hid hadr
        clear hk1 hadr
        have hdk : k ≤ dc := by omega
        have hdki : (k : Int) ≤ (dc : Int) := by omega
        have hkn2 : (k : Int) + 1 ≤ (n : Int) := by omega
        have hncc : (n : Int) ≤ (dc : Int) := by omega
        obtain ⟨hgw, U, hdv, hUc⟩ := ds_dv HDS5.out HN.out (by omega)
        have HDV := Lib.hid hdv
        have HUC := Lib.hid hUc
        obtain ⟨i0, hi, hz0, hz1, hz2⟩ := info_parts info_dr
        have hUl : U.length = n * 6 := by rw [HDV.out.1, HN.out]
        have HL1 : Hid ((U.take (k * 6)).length = k * 6) := Lib.hid (by rw [List.length_take]; omega)
        have HL2 : Hid ((U.drop (k1 * 6)).length = (n - k1) * 6) := Lib.hid (by rw [List.length_drop]; omega)
        have HO1 : Hid (∀ u ∈ U.take (k * 6), u.oneCell' = true) := Lib.hid (fun u hu => HDV.out.2.1 u (List.mem_of_mem_take hu))
        have HO2 : Hid (∀ u ∈ U.drop (k1 * 6), u.oneCell' = true) := Lib.hid (fun u hu => HDV.out.2.1 u (List.mem_of_mem_drop hu))
        have HU1 : Hid (∀ V, Below w5.heap.size w5 V → ∀ j u, (U.take (k * 6))[j]? = some u → V.cell? ((⟨g, o, none⟩ : Addr).add j) = some u) := Lib.hid (fun V hV j u hj => by
          rw [add_lit']
          rw [List.getElem?_take] at hj
          split at hj
          · exact (hV.cell (p := ⟨g, o + j, none⟩) hgw).trans (HUC.out j u hj)
          · simp at hj)
        have HU2 : Hid (∀ V, Below w5.heap.size w5 V → ∀ j u, (U.drop (k1 * 6))[j]? = some u → V.cell? (adr.add j) = some u) := Lib.hid (fun V hV j u hj => by
          have hj' := (List.getElem?_eq_some_iff.1 hj).1
          rw [HL2.out] at hj'
          rw [HADR.out (by omega), add_lit', Nat.add_assoc]
          rw [List.getElem?_drop] at hj
          exact (hV.cell (p := ⟨g, o + (k1 * 6 + j), none⟩) hgw).trans (HUC.out _ u hj))
        clear hdv hUc hUl
        go_upto_region 12 with fail
        refine wp_region_last #[{ dst := some 61, op := Op.buildSlice 24 0 #[], type := 24, pos := "law.go:133", after := #[], guard := none }, { dst := some 62, op := Op.move (Operand.tmp 6), type := 24, pos := "law.go:133", after := #[], guard := none }, { dst := some 63, op := Op.move (Operand.tmp 7), type := 3, pos := "law.go:133", after := #[], guard := none }, { dst := some 64, op := Op.slice 24 (Operand.tmp 62) none (some (Operand.tmp 63)) none, type := 24, pos := "law.go:133", after := #[{ on := 1, ground := Ground.data }, { on := 2, ground := Ground.data }], guard := none }, { dst := some 65, op := Op.call { callee := Callee.builtin Builtin.append, args := #[Operand.tmp 61, Operand.tmp 64], argTypes := #[24, 24] }, type := 24, pos := "law.go:133", after := #[{ on := 0, ground := Ground.data }, { on := 3, ground := Ground.data }], guard := none }, { dst := some 66, op := Op.move (Operand.tmp 6), type := 24, pos := "law.go:133", after := #[], guard := none }, { dst := some 67, op := Op.move (Operand.tmp 7), type := 3, pos := "law.go:133", after := #[], guard := none }, { dst := some 68, op := Op.binOp BinOp.add 3 (Operand.tmp 67) (Operand.const (Value.int IntKind.i64 1)) 3, type := 3, pos := "law.go:133", after := #[{ on := 6, ground := Ground.data }], guard := none }, { dst := some 69, op := Op.slice 24 (Operand.tmp 66) (some (Operand.tmp 68)) none none, type := 24, pos := "law.go:133", after := #[{ on := 5, ground := Ground.data }, { on := 7, ground := Ground.data }], guard := none }, { dst := some 70, op := Op.call { callee := Callee.builtin Builtin.append, args := #[Operand.tmp 65, Operand.tmp 69], argTypes := #[24, 24] }, type := 24, pos := "law.go:133", after := #[{ on := 4, ground := Ground.data }, { on := 8, ground := Ground.data }, { on := 4, ground := Ground.chain }], guard := none }] { dst := some 10, op := Op.assign (Operand.tmp 70), type := 24, pos := "law.go:133", after := #[{ on := 9, ground := Ground.data }, { on := 9, ground := Ground.chain }, { on := 0, ground := Ground.phase }, { on := 1, ground := Ground.phase }, { on := 2, ground := Ground.phase }, { on := 3, ground := Ground.phase }, { on := 4, ground := Ground.phase }, { on := 5, ground := Ground.phase }, { on := 6, ground := Ground.phase }, { on := 7, ground := Ground.phase }, { on := 8, ground := Ground.phase }, { on := 9, ground := Ground.phase }], guard := none } rfl (by kernel_rfl) (by kernel_rfl) (fun w' => Below w5.heap.size w5 w') ?_ (fun hHeld => ?_)
        · first | exact hb7 | exact hb6 | ((repeat' (first | exact Below.refl _ _ | (with_reducible assumption) | (refine bnext ?_ (by with_reducible assumption)) | (refine balloc ?_ _) | (refine below_drewN ?_ _) | (refine Below.drew ?_) | (refine bset ?_ (by simp; try omega) _))); done)
        refine wpAnyH_take (i := 1) (oi := { dst := some 62, op := Op.move (Operand.tmp 6), type := 24, pos := "law.go:133", after := #[], guard := none }) (v := ?_) rfl (by kernel_rfl) (by kernel_rfl) (by kernel_rfl) (fun _ _ _ h => h) (Or.inl ⟨by rfl, ?_⟩) (by assumption) ?_
        rotate_left
        · ((intro w hSw; (try dsimp only at hSw); go_simp; (try rw [if_neg (by omega)])); try with_reducible rfl)
        (try simp only [Act.put, List.setIfInBounds_toArray, List.set_cons_zero, List.set_cons_succ])
        refine wpAnyH_take (i := 2) (oi := { dst := some 63, op := Op.move (Operand.tmp 7), type := 3, pos := "law.go:133", after := #[], guard := none }) (v := ?_) rfl (by kernel_rfl) (by kernel_rfl) (by kernel_rfl) (fun _ _ _ h => h) (Or.inl ⟨by rfl, ?_⟩) (by assumption) ?_
        rotate_left
        · ((intro w hSw; (try dsimp only at hSw); go_simp; (try rw [if_neg (by omega)])); try with_reducible rfl)
        (try simp only [Act.put, List.setIfInBounds_toArray, List.set_cons_zero, List.set_cons_succ])
        refine wpAnyH_take (i := 3) (oi := { dst := some 64, op := Op.slice 24 (Operand.tmp 62) none (some (Operand.tmp 63)) none, type := 24, pos := "law.go:133", after := #[{ on := 1, ground := Ground.data }, { on := 2, ground := Ground.data }], guard := none }) (v := ?_) rfl (by kernel_rfl) (by kernel_rfl) (by kernel_rfl) (fun _ _ _ h => h) (Or.inl ⟨by rfl, ?_⟩) (by assumption) ?_
        rotate_left
        · ((intro w hSw; (try dsimp only at hSw); go_simp; (try rw [if_neg (by omega)])); try with_reducible rfl)
        (try simp only [Act.put, List.setIfInBounds_toArray, List.set_cons_zero, List.set_cons_succ])
        refine wpAnyH_take (i := 5) (oi := { dst := some 66, op := Op.move (Operand.tmp 6), type := 24, pos := "law.go:133", after := #[], guard := none }) (v := ?_) rfl (by kernel_rfl) (by kernel_rfl) (by kernel_rfl) (fun _ _ _ h => h) (Or.inl ⟨by rfl, ?_⟩) (by assumption) ?_
        rotate_left
        · ((intro w hSw; (try dsimp only at hSw); go_simp; (try rw [if_neg (by omega)])); try with_reducible rfl)
        (try simp only [Act.put, List.setIfInBounds_toArray, List.set_cons_zero, List.set_cons_succ])
        refine wpAnyH_take (i := 6) (oi := { dst := some 67, op := Op.move (Operand.tmp 7), type := 3, pos := "law.go:133", after := #[], guard := none }) (v := ?_) rfl (by kernel_rfl) (by kernel_rfl) (by kernel_rfl) (fun _ _ _ h => h) (Or.inl ⟨by rfl, ?_⟩) (by assumption) ?_
        rotate_left
        · ((intro w hSw; (try dsimp only at hSw); go_simp; (try rw [if_neg (by omega)])); try with_reducible rfl)
        (try simp only [Act.put, List.setIfInBounds_toArray, List.set_cons_zero, List.set_cons_succ])
        refine wpAnyH_take (i := 7) (oi := { dst := some 68, op := Op.binOp BinOp.add 3 (Operand.tmp 67) (Operand.const (Value.int IntKind.i64 1)) 3, type := 3, pos := "law.go:133", after := #[{ on := 6, ground := Ground.data }], guard := none }) (v := ?_) rfl (by kernel_rfl) (by kernel_rfl) (by kernel_rfl) (fun _ _ _ h => h) (Or.inl ⟨by rfl, ?_⟩) (by assumption) ?_
        rotate_left
        · ((intro w hSw; (try dsimp only at hSw); go_simp; (try rw [if_neg (by omega)])); try with_reducible rfl)
        (try simp only [Act.put, List.setIfInBounds_toArray, List.set_cons_zero, List.set_cons_succ])
        refine wpAnyH_take (i := 8) (oi := { dst := some 69, op := Op.slice 24 (Operand.tmp 66) (some (Operand.tmp 68)) none none, type := 24, pos := "law.go:133", after := #[{ on := 5, ground := Ground.data }, { on := 7, ground := Ground.data }], guard := none }) (v := ?_) rfl (by kernel_rfl) (by kernel_rfl) (by kernel_rfl) (fun _ _ _ h => h) (Or.inl ⟨by rfl, ?_⟩) (by assumption) ?_
        rotate_left
        · (intro w hSw; (try dsimp only at hSw); go_simp; (try rw [hwk]); (try simp only [Int.toNat_natCast]); (try rw [if_pos ⟨hk10, hk1n⟩]); (try rw [had]); (try with_reducible rfl))
        (try simp only [Act.put, List.setIfInBounds_toArray, List.set_cons_zero, List.set_cons_succ])
        refine wpAnyH_ready (rs := [0]) (by kernel_rfl) (by simp) ?_
        refine AllReadyH.cons (o := { dst := some 61, op := Op.buildSlice 24 0 #[], type := 24, pos := "law.go:133", after := #[], guard := none }) rfl (fun K hK => ?_) AllReadyH.nil
        go_simp
        refine hK.out _ _ ?_ (fun hHeld => ?_)
        · first | exact hb7 | exact hb6 | ((repeat' (first | exact Below.refl _ _ | (with_reducible assumption) | (refine bnext ?_ (by with_reducible assumption)) | (refine balloc ?_ _) | (refine below_drewN ?_ _) | (refine Below.drew ?_) | (refine bset ?_ (by simp; try omega) _))); done)
        clear hK K
        (try simp only [Act.put, List.setIfInBounds_toArray, List.set_cons_zero, List.set_cons_succ])
        refine wpAnyH_ready (rs := [4]) (by kernel_rfl) (by simp) ?_
        refine AllReadyH.cons (o := { dst := some 65, op := Op.call { callee := Callee.builtin Builtin.append, args := #[Operand.tmp 61, Operand.tmp 64], argTypes := #[24, 24] }, type := 24, pos := "law.go:133", after := #[{ on := 0, ground := Ground.data }, { on := 3, ground := Ground.data }], guard := none }) rfl (fun K hK => ?_) AllReadyH.nil
        (refine step_append_any (by rfl) _ _ _ (by rfl) w5.heap.size 35 i0 _ 6 80 Try.underlying24 hi hz0 hz1 hz2 rfl (by decide) (.slice (some ⟨w5.heap.size, 0, none⟩) 0 0) 0 [] (by rfl) (own_empty w5.drew 35 6 w5.heap.size (Nat.le_refl _)) ⟨g, o, none⟩ k dc (U.take (k * 6)) (by rfl) HL1.out (HU1.out _ (balloc (Below.drew (Below.refl _ w5)) _)) HO1.out (by unfold maxLen; omega) (by omega) (by simp) ?_; intro v6 w6 hown6 hgr6; have hb6 : Below w5.heap.size w5 w6 := (balloc (Below.drew (Below.refl _ w5)) _).grown hgr6 (by simp) (fun q e => by simp [Value.ownBlock] at e; omega); have hS6 := hb6)
        refine hK.out _ _ ?_ (fun hHeld => ?_)
        · first | exact hb7 | exact hb6 | ((repeat' (first | exact Below.refl _ _ | (with_reducible assumption) | (refine bnext ?_ (by with_reducible assumption)) | (refine balloc ?_ _) | (refine below_drewN ?_ _) | (refine Below.drew ?_) | (refine bset ?_ (by simp; try omega) _))); done)
        clear hK K
        (try simp only [Act.put, List.setIfInBounds_toArray, List.set_cons_zero, List.set_cons_succ])
        refine wpAnyH_ready (rs := [9]) (by kernel_rfl) (by simp) ?_
        refine AllReadyH.cons (o := { dst := some 70, op := Op.call { callee := Callee.builtin Builtin.append, args := #[Operand.tmp 65, Operand.tmp 69], argTypes := #[24, 24] }, type := 24, pos := "law.go:133", after := #[{ on := 4, ground := Ground.data }, { on := 8, ground := Ground.data }, { on := 4, ground := Ground.chain }], guard := none }) rfl (fun K hK => ?_) AllReadyH.nil
        (refine step_append_any (by rfl) _ _ _ (by rfl) w5.heap.size 35 i0 _ 6 80 Try.underlying24 hi hz0 hz1 hz2 rfl (by decide) v6 (0 + k) _ (by rfl) hown6 adr (n - k1) (dc - k1) (U.drop (k1 * 6)) (by rfl) HL2.out (HU2.out _ hb6) HO2.out (by unfold maxLen; omega) (by omega) hb6.size ?_; intro v7 w7 hown7 hgr7; have hb7 : Below w5.heap.size w5 w7 := hb6.grown hgr7 hb6.size (fun q e => (hown6.lt q e).1))
        refine hK.out _ _ ?_ (fun hHeld => ?_)
        · first | exact hb7 | exact hb6 | ((repeat' (first | exact Below.refl _ _ | (with_reducible assumption) | (refine bnext ?_ (by with_reducible assumption)) | (refine balloc ?_ _) | (refine below_drewN ?_ _) | (refine Below.drew ?_) | (refine bset ?_ (by simp; try omega) _))); done)
        clear hK K
        (try simp only [Act.put, List.setIfInBounds_toArray, List.set_cons_zero, List.set_cons_succ])
        refine wpAnyH_done (by kernel_rfl) ?_ _
        show Oper.wp _ _ _ _ _ _
        have hdv7 : DV w7 (([] ++ U.take (k * 6)) ++ U.drop (k1 * 6)) (D.take k ++ D.drop (k + 1)) := by
          have h1 := HDV.out.take k
          have h2 := HDV.out.drop (k + 1)
          rw [← HK1.out] at h2 ⊢
          exact (h1.app h2).keep hb7
        obtain ⟨r, hr⟩ : ∃ r, 0 + k + (n - k1) = r := ⟨_, rfl⟩
        have hrl : r = (D.take k ++ D.drop (k + 1)).length := by rw [← hr, List.length_append, List.length_take, List.length_drop, HN.out, HK1.out]; omega
        rw [hr] at hown7
        have hds7 := own_dv hown7 hdv7 hrl
        obtain ⟨ra, rc, rfl⟩ := own_shape hown7
        have HDS7 := Lib.hid hds7
        have HB7 := Lib.hid hb7
        have HRL := Lib.hid hrl
        clear hdv7 hr hown7 hgr7 hds7 hb7 hrl hown6 hgr6 hb6 hS6
        go_simp
        go_upto_region 13 with fail
        have hp7 := (HP5.out.keep HB7.out)
        obtain ⟨gp, op, hpa, hgp⟩ : ∃ gp op, pa = some ⟨gp, op, none⟩ ∧ gp < w7.heap.size := by
          obtain ⟨a', c', e, h⟩ := hp7
          injection e with e1 e2 e3
          rcases h with h | ⟨g', o', e4, hg, hc⟩
          · have := HPLEN.out
            rw [h] at this
            simp at this
            omega
          · exact ⟨g', o', by rw [e1, e4], hg⟩
        subst hpa
        have hpk : (k : Int) ≤ (pc : Int) := by omega
        have hnpc : (n : Int) ≤ (pc : Int) := by omega
        obtain ⟨adp, hap, hadp⟩ : ∃ adp : Addr, (if pc = k1 then (some ⟨gp, op, none⟩ : Option Addr) else some ⟨gp, op + k1 * 2, none⟩) = some adp ∧ (k1 < n → adp = ⟨gp, op + k1 * 2, none⟩) := by
          by_cases hcc : pc = k1
          · exact ⟨⟨gp, op, none⟩, if_pos hcc, fun h => by have := HK1.out; omega⟩
          · exact ⟨⟨gp, op + k1 * 2, none⟩, if_neg hcc, fun h => rfl⟩
        have HADP := Lib.hid hadp
        have hPC := pt_cells hp7
        obtain ⟨PV, hPV⟩ : ∃ PV, AT.ptc (AT.places D) = PV := ⟨_, rfl⟩
        have hPVl : PV.length = n * 2 := by rw [← hPV, AT.ptc_len, HPLEN.out]
        have hPV1 : ∀ u ∈ PV, u.oneCell' = true := by rw [← hPV]; exact ptc_one _
        rw [hPV] at hPC
        have HQL1 : Hid ((PV.take (k * 2)).length = k * 2) := Lib.hid (by rw [List.length_take]; omega)
        have HQL2 : Hid ((PV.drop (k1 * 2)).length = (n - k1) * 2) := Lib.hid (by rw [List.length_drop]; omega)
        have HQO1 : Hid (∀ u ∈ PV.take (k * 2), u.oneCell' = true) := Lib.hid (fun u hu => hPV1 u (List.mem_of_mem_take hu))
        have HQO2 : Hid (∀ u ∈ PV.drop (k1 * 2), u.oneCell' = true) := Lib.hid (fun u hu => hPV1 u (List.mem_of_mem_drop hu))
        have HPCC := Lib.hid hPC
        have HQ1 : Hid (∀ V, Below w7.heap.size w7 V → ∀ j u, (PV.take (k * 2))[j]? = some u → V.cell? ((⟨gp, op, none⟩ : Addr).add j) = some u) := Lib.hid (fun V hV j u hj => by
          rw [add_lit']
          rw [List.getElem?_take] at hj
          split at hj
          · exact (hV.cell (p := ⟨gp, op + j, none⟩) hgp).trans (HPCC.out j u hj)
          · simp at hj)
        have HQ2 : Hid (∀ V, Below w7.heap.size w7 V → ∀ j u, (PV.drop (k1 * 2))[j]? = some u → V.cell? (adp.add j) = some u) := Lib.hid (fun V hV j u hj => by
          have hj' := (List.getElem?_eq_some_iff.1 hj).1
          rw [HQL2.out] at hj'
          rw [HADP.out (by omega), add_lit', Nat.add_assoc]
          rw [List.getElem?_drop] at hj
          exact (hV.cell (p := ⟨gp, op + (k1 * 2 + j), none⟩) hgp).trans (HPCC.out _ u hj))
        obtain ⟨Q, hQ⟩ : ∃ Q, (AT.places D).take k ++ (AT.places D).drop k1 = Q := ⟨_, rfl⟩
        have HQ := Lib.hid hQ
        obtain ⟨ql, hql⟩ : ∃ ql, Q.length = ql := ⟨_, rfl⟩
        have HQLn := Lib.hid hql
        clear hQ hql
        have HQQ : Hid (([] ++ PV.take (k * 2)) ++ PV.drop (k1 * 2) = AT.ptc Q) := Lib.hid (by rw [← HQ.out, ← hPV, ptc_app, ptc_take, ptc_drop, List.nil_append])
        have HQN : Hid (0 + k + (n - k1) = Q.length) := Lib.hid (by rw [← HQ.out, List.length_append, List.length_take, List.length_drop, HPLEN.out]; have := HK1.out; omega)
        have HRES : Hid (∀ d ∈ D.take k ++ D.drop (k + 1), d.anchors.length ≤ 1000000000000) := Lib.hid (fun d hd => (List.mem_append.1 hd).elim (fun h => HA.out d (List.mem_of_mem_take h)) (fun h => HA.out d (List.mem_of_mem_drop h)))
        have HRLN : Hid ((D.take k ++ D.drop (k + 1)).length ≤ 1000000000000) := Lib.hid (by rw [← HRL.out]; have := HN.out; rw [HRL.out, List.length_append, List.length_take, List.length_drop]; omega)
        obtain ⟨i2, hi2, hx0, hx1, hx2⟩ := info_parts info_pair
        have HPD' : Hid (AT.places (D.take k ++ D.drop (k + 1)) = Q) := Lib.hid (by rw [HPD.out, ← HQ.out, HK1.out])
        have HQS : Hid (Q.length ≤ 1000000) := Lib.hid (by rw [← HQN.out]; omega)
        clear hp7 hadp hPC hPV hPVl hPV1
        refine wp_region_held_drew (S := (fun w' => Below w7.heap.size w7 w')) (by kernel_rfl) ?_ (fun hHeld => ?_)
        · (first | exact hb11 | exact hb10 | exact hb9 | exact hb8 | ((repeat' (first | exact Below.refl _ _ | (with_reducible assumption) | (refine bnext ?_ (by with_reducible assumption)) | (refine balloc ?_ _) | (refine below_drewN ?_ _) | (refine Below.drew ?_) | (refine bset ?_ (by simp; try omega) _))); done))
        refine wpAnyH_take (i := 0) (oi := { dst := some 71, op := Op.move (Operand.tmp 5), type := 4, pos := "law.go:134", after := #[], guard := none }) (v := ?_) rfl (by kernel_rfl) (by kernel_rfl) (by kernel_rfl) (fun _ _ _ h => h) (Or.inl ⟨by rfl, ?_⟩) (by assumption) ?_
        rotate_left
        · ((intro w hSw; (try dsimp only at hSw); go_simp; (try rw [if_neg (by omega)])); try with_reducible rfl)
        (try simp only [Act.put, List.setIfInBounds_toArray, List.set_cons_zero, List.set_cons_succ])
        refine wpAnyH_take (i := 1) (oi := { dst := some 72, op := Op.move (Operand.tmp 71), type := 4, pos := "law.go:134", after := #[{ on := 0, ground := Ground.data }], guard := none }) (v := ?_) rfl (by kernel_rfl) (by kernel_rfl) (by kernel_rfl) (fun _ _ _ h => h) (Or.inl ⟨by rfl, ?_⟩) (by assumption) ?_
        rotate_left
        · ((intro w hSw; (try dsimp only at hSw); go_simp; (try rw [if_neg (by omega)])); try with_reducible rfl)
        (try simp only [Act.put, List.setIfInBounds_toArray, List.set_cons_zero, List.set_cons_succ])
        refine wpAnyH_take (i := 2) (oi := { dst := some 73, op := Op.move (Operand.tmp 10), type := 24, pos := "law.go:134", after := #[{ on := 1, ground := Ground.guard }], guard := some (1, true) }) (v := ?_) rfl (by kernel_rfl) (by kernel_rfl) (by kernel_rfl) (fun _ _ _ h => h) (Or.inl ⟨by rfl, ?_⟩) (by assumption) ?_
        rotate_left
        · ((intro w hSw; (try dsimp only at hSw); go_simp; (try rw [if_neg (by omega)])); try with_reducible rfl)
        (try simp only [Act.put, List.setIfInBounds_toArray, List.set_cons_zero, List.set_cons_succ])
        refine wpAnyH_take (i := 5) (oi := { dst := some 76, op := Op.move (Operand.tmp 8), type := 27, pos := "law.go:134", after := #[{ on := 1, ground := Ground.guard }], guard := some (1, true) }) (v := ?_) rfl (by kernel_rfl) (by kernel_rfl) (by kernel_rfl) (fun _ _ _ h => h) (Or.inl ⟨by rfl, ?_⟩) (by assumption) ?_
        rotate_left
        · ((intro w hSw; (try dsimp only at hSw); go_simp; (try rw [if_neg (by omega)])); try with_reducible rfl)
        (try simp only [Act.put, List.setIfInBounds_toArray, List.set_cons_zero, List.set_cons_succ])
        refine wpAnyH_take (i := 6) (oi := { dst := some 77, op := Op.move (Operand.tmp 7), type := 3, pos := "law.go:134", after := #[{ on := 1, ground := Ground.guard }], guard := some (1, true) }) (v := ?_) rfl (by kernel_rfl) (by kernel_rfl) (by kernel_rfl) (fun _ _ _ h => h) (Or.inl ⟨by rfl, ?_⟩) (by assumption) ?_
        rotate_left
        · ((intro w hSw; (try dsimp only at hSw); go_simp; (try rw [if_neg (by omega)])); try with_reducible rfl)
        (try simp only [Act.put, List.setIfInBounds_toArray, List.set_cons_zero, List.set_cons_succ])
        refine wpAnyH_take (i := 7) (oi := { dst := some 78, op := Op.slice 27 (Operand.tmp 76) none (some (Operand.tmp 77)) none, type := 27, pos := "law.go:134", after := #[{ on := 5, ground := Ground.data }, { on := 6, ground := Ground.data }, { on := 1, ground := Ground.guard }], guard := some (1, true) }) (v := ?_) rfl (by kernel_rfl) (by kernel_rfl) (by kernel_rfl) (fun _ _ _ h => h) (Or.inl ⟨by rfl, ?_⟩) (by assumption) ?_
        rotate_left
        · ((intro w hSw; (try dsimp only at hSw); go_simp; (try rw [if_neg (by omega)])); try with_reducible rfl)
        (try simp only [Act.put, List.setIfInBounds_toArray, List.set_cons_zero, List.set_cons_succ])
        refine wpAnyH_take (i := 9) (oi := { dst := some 80, op := Op.move (Operand.tmp 8), type := 27, pos := "law.go:134", after := #[{ on := 1, ground := Ground.guard }], guard := some (1, true) }) (v := ?_) rfl (by kernel_rfl) (by kernel_rfl) (by kernel_rfl) (fun _ _ _ h => h) (Or.inl ⟨by rfl, ?_⟩) (by assumption) ?_
        rotate_left
        · ((intro w hSw; (try dsimp only at hSw); go_simp; (try rw [if_neg (by omega)])); try with_reducible rfl)
        (try simp only [Act.put, List.setIfInBounds_toArray, List.set_cons_zero, List.set_cons_succ])
        refine wpAnyH_take (i := 10) (oi := { dst := some 81, op := Op.move (Operand.tmp 7), type := 3, pos := "law.go:134", after := #[{ on := 1, ground := Ground.guard }], guard := some (1, true) }) (v := ?_) rfl (by kernel_rfl) (by kernel_rfl) (by kernel_rfl) (fun _ _ _ h => h) (Or.inl ⟨by rfl, ?_⟩) (by assumption) ?_
        rotate_left
        · ((intro w hSw; (try dsimp only at hSw); go_simp; (try rw [if_neg (by omega)])); try with_reducible rfl)
        (try simp only [Act.put, List.setIfInBounds_toArray, List.set_cons_zero, List.set_cons_succ])
        refine wpAnyH_take (i := 11) (oi := { dst := some 82, op := Op.binOp BinOp.add 3 (Operand.tmp 81) (Operand.const (Value.int IntKind.i64 1)) 3, type := 3, pos := "law.go:134", after := #[{ on := 10, ground := Ground.data }, { on := 1, ground := Ground.guard }], guard := some (1, true) }) (v := ?_) rfl (by kernel_rfl) (by kernel_rfl) (by kernel_rfl) (fun _ _ _ h => h) (Or.inl ⟨by rfl, ?_⟩) (by assumption) ?_
        rotate_left
        · ((intro w hSw; (try dsimp only at hSw); go_simp; (try rw [if_neg (by omega)])); try with_reducible rfl)
        (try simp only [Act.put, List.setIfInBounds_toArray, List.set_cons_zero, List.set_cons_succ])
        refine wpAnyH_take (i := 12) (oi := { dst := some 83, op := Op.slice 27 (Operand.tmp 80) (some (Operand.tmp 82)) none none, type := 27, pos := "law.go:134", after := #[{ on := 9, ground := Ground.data }, { on := 11, ground := Ground.data }, { on := 1, ground := Ground.guard }], guard := some (1, true) }) (v := ?_) rfl (by kernel_rfl) (by kernel_rfl) (by kernel_rfl) (fun _ _ _ h => h) (Or.inl ⟨by rfl, ?_⟩) (by assumption) ?_
        rotate_left
        · ((intro w hSw; (try dsimp only at hSw); go_simp; (try rw [if_neg (by omega)])); try with_reducible rfl)
        (try simp only [Act.put, List.setIfInBounds_toArray, List.set_cons_zero, List.set_cons_succ])
        refine wpAnyH_ready (rs := [3, 4]) (by kernel_rfl) (by simp) ?_
        refine AllReadyH.cons (o := { dst := some 74, op := Op.call { callee := Callee.value (Operand.func 13), args := #[Operand.tmp 73], argTypes := #[24] }, type := 27, pos := "law.go:134", after := #[{ on := 2, ground := Ground.data }, { on := 1, ground := Ground.chain }, { on := 1, ground := Ground.guard }], guard := some (1, true) }) rfl (fun K hK => ?_) ?_
        · (go_simp; go_at_call 13; refine (places_any (D.take k ++ D.drop (k + 1)) _ _ HRLN.out HRES.out (HDS7.out.keep (by (repeat' (first | exact Below.refl _ _ | (with_reducible assumption) | (refine bnext ?_ (by with_reducible assumption)) | (refine balloc ?_ _) | (refine below_drewN ?_ _) | (refine Below.drew ?_) | (refine bset ?_ (by simp; try omega) _)))))).mono ?_; rintro e w8 ⟨uy, rfl, ho, k8⟩; obtain ⟨ya, yc, rfl⟩ := own_shape ho; rw [HPD'.out, HQLn.out] at ho ⊢; replace ho := own_base ho (B' := w7.heap.size) (by simp); dsimp only)
          have hb8 : Below w7.heap.size w7 w8 := bnext (by (repeat' (first | exact Below.refl _ _ | (with_reducible assumption) | (refine bnext ?_ (by with_reducible assumption)) | (refine balloc ?_ _) | (refine below_drewN ?_ _) | (refine Below.drew ?_) | (refine bset ?_ (by simp; try omega) _)))) k8
          have HO8 := Lib.hid ho
          refine hK.out _ _ ?_ (fun hHeld => ?_)
          · (first | exact hb11 | exact hb10 | exact hb9 | exact hb8 | ((repeat' (first | exact Below.refl _ _ | (with_reducible assumption) | (refine bnext ?_ (by with_reducible assumption)) | (refine balloc ?_ _) | (refine below_drewN ?_ _) | (refine Below.drew ?_) | (refine bset ?_ (by simp; try omega) _))); done))
          clear hK K
          (try simp only [Act.put, List.setIfInBounds_toArray, List.set_cons_zero, List.set_cons_succ])
          refine wpAnyH_ready (rs := [4]) (by kernel_rfl) (by simp) ?_
          refine AllReadyH.cons (o := { dst := some 75, op := Op.buildSlice 27 0 #[], type := 27, pos := "law.go:134", after := #[{ on := 1, ground := Ground.guard }], guard := some (1, true) }) rfl (fun K hK => ?_) ?_
          · go_simp
            have hE8 := own_empty w8 37 2 w7.heap.size hb8.size
            replace ho := own_below ho (balloc (Below.refl _ w8) (.cells #[] 37))
            refine hK.out _ _ ?_ (fun hHeld => ?_)
            · (first | exact hb11 | exact hb10 | exact hb9 | exact hb8 | ((repeat' (first | exact Below.refl _ _ | (with_reducible assumption) | (refine bnext ?_ (by with_reducible assumption)) | (refine balloc ?_ _) | (refine below_drewN ?_ _) | (refine Below.drew ?_) | (refine bset ?_ (by simp; try omega) _))); done))
            clear hK K
            (try simp only [Act.put, List.setIfInBounds_toArray, List.set_cons_zero, List.set_cons_succ])
            refine wpAnyH_ready (rs := [8]) (by kernel_rfl) (by simp) ?_
            refine AllReadyH.cons (o := { dst := some 79, op := Op.call { callee := Callee.builtin Builtin.append, args := #[Operand.tmp 75, Operand.tmp 78], argTypes := #[27, 27] }, type := 27, pos := "law.go:134", after := #[{ on := 4, ground := Ground.data }, { on := 7, ground := Ground.data }, { on := 3, ground := Ground.chain }, { on := 1, ground := Ground.guard }], guard := some (1, true) }) rfl (fun K hK => ?_) ?_
            · (refine step_append_w (by rfl) _ _ _ (by rfl) w7.heap.size 37 i2 _ 2 16 Try.underlying27 hi2 hx0 hx1 hx2 rfl (by decide) (.slice (some ⟨w8.heap.size, 0, none⟩) 0 0) 0 [] (by rfl) hE8 ⟨gp, op, none⟩ k pc (PV.take (k * 2)) (by rfl) HQL1.out (HQ1.out _ (by (repeat' (first | exact Below.refl _ _ | (with_reducible assumption) | (refine bnext ?_ (by with_reducible assumption)) | (refine balloc ?_ _) | (refine below_drewN ?_ _) | (refine Below.drew ?_) | (refine bset ?_ (by simp; try omega) _))))) HQO1.out (by unfold maxLen; omega) (by omega) (by first | exact hb8.size | (have := hb8.size; simp; omega)) ?_; intro v9 w9 hown9 hgr9 hat9)
              have hb9 : Below w7.heap.size w7 w9 := Below.grown (w' := w9) (by (repeat' (first | exact Below.refl _ _ | (with_reducible assumption) | (refine bnext ?_ (by with_reducible assumption)) | (refine balloc ?_ _) | (refine below_drewN ?_ _) | (refine Below.drew ?_) | (refine bset ?_ (by simp; try omega) _)))) hgr9 (by first | exact hb8.size | (have := hb8.size; simp; omega)) (fun q e => by simp [Value.ownBlock] at e; have := hb8.size; omega)
              have hneq : ∀ q, (Value.slice ya ql yc).ownBlock = some q → (Value.slice (some ⟨w8.heap.size, 0, none⟩) 0 0).ownBlock ≠ some q := fun q hq e => by have hlt := HO8.out.lt q hq; simp [Value.ownBlock] at e; omega
              have ho9 := own_of_grown ho hgr9 hneq
              have hne9 : ∀ q, (Value.slice ya ql yc).ownBlock = some q → v9.ownBlock ≠ some q := fun q hq e => by
                rcases hat9 with h | h
                · exact hneq q hq (h.symm.trans e)
                · have hlt := (ho.lt q hq).2
                  have := Option.some.inj (h.symm.trans e)
                  omega
              refine hK.out _ _ ?_ (fun hHeld => ?_)
              · (first | exact hb11 | exact hb10 | exact hb9 | exact hb8 | ((repeat' (first | exact Below.refl _ _ | (with_reducible assumption) | (refine bnext ?_ (by with_reducible assumption)) | (refine balloc ?_ _) | (refine below_drewN ?_ _) | (refine Below.drew ?_) | (refine bset ?_ (by simp; try omega) _))); done))
              clear hK K
              (try simp only [Act.put, List.setIfInBounds_toArray, List.set_cons_zero, List.set_cons_succ])
              refine wpAnyH_ready (rs := [13]) (by kernel_rfl) (by simp) ?_
              refine AllReadyH.cons (o := { dst := some 84, op := Op.call { callee := Callee.builtin Builtin.append, args := #[Operand.tmp 79, Operand.tmp 83], argTypes := #[27, 27] }, type := 27, pos := "law.go:134", after := #[{ on := 8, ground := Ground.data }, { on := 12, ground := Ground.data }, { on := 8, ground := Ground.chain }, { on := 1, ground := Ground.guard }], guard := some (1, true) }) rfl (fun K hK => ?_) ?_
              · (refine step_append_w (by rfl) _ _ _ (by rfl) w7.heap.size 37 i2 _ 2 16 Try.underlying27 hi2 hx0 hx1 hx2 rfl (by decide) v9 (0 + k) _ (by rfl) hown9 adp (n - k1) (pc - k1) (PV.drop (k1 * 2)) (by rfl) HQL2.out (HQ2.out _ hb9) HQO2.out (by unfold maxLen; omega) (by omega) hb9.size ?_; intro v10 w10 hown10 hgr10 hat10)
                have hb10 : Below w7.heap.size w7 w10 := hb9.grown hgr10 hb9.size (fun q e => (hown9.lt q e).1)
                rw [HQQ.out] at hown10
                have hpt10 := own_pt HQN.out hown10
                have hy10 := own_pt HQLn.out.symm (own_of_grown ho9 hgr10 hne9)
                refine hK.out _ _ ?_ (fun hHeld => ?_)
                · (first | exact hb11 | exact hb10 | exact hb9 | exact hb8 | ((repeat' (first | exact Below.refl _ _ | (with_reducible assumption) | (refine bnext ?_ (by with_reducible assumption)) | (refine balloc ?_ _) | (refine below_drewN ?_ _) | (refine Below.drew ?_) | (refine bset ?_ (by simp; try omega) _))); done))
                clear hK K
                (try simp only [Act.put, List.setIfInBounds_toArray, List.set_cons_zero, List.set_cons_succ])
                refine wpAnyH_ready (rs := [14]) (by kernel_rfl) (by simp) ?_
                refine AllReadyH.cons (o := { dst := some 85, op := Op.call { callee := Callee.value (Operand.func 12), args := #[Operand.tmp 74, Operand.tmp 84], argTypes := #[27, 27] }, type := 4, pos := "law.go:134", after := #[{ on := 3, ground := Ground.data }, { on := 13, ground := Ground.data }, { on := 13, ground := Ground.chain }, { on := 1, ground := Ground.guard }], guard := some (1, true) }) rfl (fun K hK => ?_) ?_
                · (go_simp; go_at_call 12; refine (same_c Q _ _ _ hy10 hpt10 HQS.out).mono ?_; rintro e w11 ⟨rfl, k11⟩; dsimp only)
                  have hb11 := bnext hb10 k11
                  refine hK.out _ _ ?_ (fun hHeld => ?_)
                  · (first | exact hb11 | exact hb10 | exact hb9 | exact hb8 | ((repeat' (first | exact Below.refl _ _ | (with_reducible assumption) | (refine bnext ?_ (by with_reducible assumption)) | (refine balloc ?_ _) | (refine below_drewN ?_ _) | (refine Below.drew ?_) | (refine bset ?_ (by simp; try omega) _))); done))
                  clear hK K
                  (try simp only [Act.put, List.setIfInBounds_toArray, List.set_cons_zero, List.set_cons_succ])
                  refine wpAnyH_take (i := 15) (oi := { dst := some 86, op := Op.pick (Operand.tmp 72) (Operand.tmp 85) (Operand.const (Value.bool false)), type := 4, pos := "law.go:134", after := #[{ on := 1, ground := Ground.data }, { on := 14, ground := Ground.data }], guard := none }) (v := ?_) rfl (by kernel_rfl) (by kernel_rfl) (by kernel_rfl) (fun _ _ _ h => h) (Or.inl ⟨by rfl, ?_⟩) (by assumption) ?_
                  rotate_left
                  · ((intro w hSw; (try dsimp only at hSw); go_simp; (try rw [if_neg (by omega)])); try with_reducible rfl)
                  (try simp only [Act.put, List.setIfInBounds_toArray, List.set_cons_zero, List.set_cons_succ])
                  refine wpAnyH_take (i := 16) (oi := { dst := some 4, op := Op.assign (Operand.tmp 86), type := 4, pos := "law.go:134", after := #[{ on := 15, ground := Ground.data }, { on := 14, ground := Ground.chain }, { on := 0, ground := Ground.phase }, { on := 1, ground := Ground.phase }, { on := 2, ground := Ground.phase }, { on := 3, ground := Ground.phase }, { on := 4, ground := Ground.phase }, { on := 5, ground := Ground.phase }, { on := 6, ground := Ground.phase }, { on := 7, ground := Ground.phase }, { on := 8, ground := Ground.phase }, { on := 9, ground := Ground.phase }, { on := 10, ground := Ground.phase }, { on := 11, ground := Ground.phase }, { on := 12, ground := Ground.phase }, { on := 13, ground := Ground.phase }, { on := 14, ground := Ground.phase }, { on := 15, ground := Ground.phase }], guard := none }) (v := ?_) rfl (by kernel_rfl) (by kernel_rfl) (by kernel_rfl) (fun _ _ _ h => h) (Or.inl ⟨by rfl, ?_⟩) (by assumption) ?_
                  rotate_left
                  · ((intro w hSw; (try dsimp only at hSw); go_simp; (try rw [if_neg (by omega)])); try with_reducible rfl)
                  (try simp only [Act.put, List.setIfInBounds_toArray, List.set_cons_zero, List.set_cons_succ])
                  refine wpAnyH_done (by kernel_rfl) ?_ _
                  have HFIN := Lib.hid (bnext HB5.out (bnext HB7.out hb11))
                  clear hneq hne9 had hap
                  go_wp2
                  go_ret
                  exact ⟨rfl, by first | exact HFIN.out | exact HFIN.out.drew⟩
                exact AllReadyH.nil
              exact AllReadyH.nil
            exact AllReadyH.nil
          exact AllReadyH.nil
        refine AllReadyH.cons (o := { dst := some 75, op := Op.buildSlice 27 0 #[], type := 27, pos := "law.go:134", after := #[{ on := 1, ground := Ground.guard }], guard := some (1, true) }) rfl (fun K hK => ?_) ?_
        · go_simp
          have hE := own_empty w7.drew 37 2 w7.heap.size (Nat.le_refl _)
          refine hK.out _ _ ?_ (fun hHeld => ?_)
          · (first | exact hb11 | exact hb10 | exact hb9 | exact hb8 | ((repeat' (first | exact Below.refl _ _ | (with_reducible assumption) | (refine bnext ?_ (by with_reducible assumption)) | (refine balloc ?_ _) | (refine below_drewN ?_ _) | (refine Below.drew ?_) | (refine bset ?_ (by simp; try omega) _))); done))
          clear hK K
          (try simp only [Act.put, List.setIfInBounds_toArray, List.set_cons_zero, List.set_cons_succ])
          refine wpAnyH_ready (rs := [3]) (by kernel_rfl) (by simp) ?_
          refine AllReadyH.cons (o := { dst := some 74, op := Op.call { callee := Callee.value (Operand.func 13), args := #[Operand.tmp 73], argTypes := #[24] }, type := 27, pos := "law.go:134", after := #[{ on := 2, ground := Ground.data }, { on := 1, ground := Ground.chain }, { on := 1, ground := Ground.guard }], guard := some (1, true) }) rfl (fun K hK => ?_) ?_
          · (go_simp; go_at_call 13; refine (places_any (D.take k ++ D.drop (k + 1)) _ _ HRLN.out HRES.out (HDS7.out.keep (by (repeat' (first | exact Below.refl _ _ | (with_reducible assumption) | (refine bnext ?_ (by with_reducible assumption)) | (refine balloc ?_ _) | (refine below_drewN ?_ _) | (refine Below.drew ?_) | (refine bset ?_ (by simp; try omega) _)))))).mono ?_; rintro e w8 ⟨uy, rfl, ho, k8⟩; obtain ⟨ya, yc, rfl⟩ := own_shape ho; rw [HPD'.out, HQLn.out] at ho ⊢; replace ho := own_base ho (B' := w7.heap.size + 1) (by simp); dsimp only)
            have hb8 : Below w7.heap.size w7 w8 := bnext (by (repeat' (first | exact Below.refl _ _ | (with_reducible assumption) | (refine bnext ?_ (by with_reducible assumption)) | (refine balloc ?_ _) | (refine below_drewN ?_ _) | (refine Below.drew ?_) | (refine bset ?_ (by simp; try omega) _)))) k8
            have hE8 := own_below hE k8
            refine hK.out _ _ ?_ (fun hHeld => ?_)
            · (first | exact hb11 | exact hb10 | exact hb9 | exact hb8 | ((repeat' (first | exact Below.refl _ _ | (with_reducible assumption) | (refine bnext ?_ (by with_reducible assumption)) | (refine balloc ?_ _) | (refine below_drewN ?_ _) | (refine Below.drew ?_) | (refine bset ?_ (by simp; try omega) _))); done))
            clear hK K
            (try simp only [Act.put, List.setIfInBounds_toArray, List.set_cons_zero, List.set_cons_succ])
            refine wpAnyH_ready (rs := [8]) (by kernel_rfl) (by simp) ?_
            refine AllReadyH.cons (o := { dst := some 79, op := Op.call { callee := Callee.builtin Builtin.append, args := #[Operand.tmp 75, Operand.tmp 78], argTypes := #[27, 27] }, type := 27, pos := "law.go:134", after := #[{ on := 4, ground := Ground.data }, { on := 7, ground := Ground.data }, { on := 3, ground := Ground.chain }, { on := 1, ground := Ground.guard }], guard := some (1, true) }) rfl (fun K hK => ?_) ?_
            · (refine step_append_w (by rfl) _ _ _ (by rfl) w7.heap.size 37 i2 _ 2 16 Try.underlying27 hi2 hx0 hx1 hx2 rfl (by decide) (.slice (some ⟨w7.heap.size, 0, none⟩) 0 0) 0 [] (by rfl) hE8 ⟨gp, op, none⟩ k pc (PV.take (k * 2)) (by rfl) HQL1.out (HQ1.out _ (by (repeat' (first | exact Below.refl _ _ | (with_reducible assumption) | (refine bnext ?_ (by with_reducible assumption)) | (refine balloc ?_ _) | (refine below_drewN ?_ _) | (refine Below.drew ?_) | (refine bset ?_ (by simp; try omega) _))))) HQO1.out (by unfold maxLen; omega) (by omega) (by first | exact hb8.size | (have := hb8.size; simp; omega)) ?_; intro v9 w9 hown9 hgr9 hat9)
              have hb9 : Below w7.heap.size w7 w9 := Below.grown (w' := w9) (by (repeat' (first | exact Below.refl _ _ | (with_reducible assumption) | (refine bnext ?_ (by with_reducible assumption)) | (refine balloc ?_ _) | (refine below_drewN ?_ _) | (refine Below.drew ?_) | (refine bset ?_ (by simp; try omega) _)))) hgr9 (by first | exact hb8.size | (have := hb8.size; simp; omega)) (fun q e => by simp [Value.ownBlock] at e; have := hb8.size; omega)
              have hneq : ∀ q, (Value.slice ya ql yc).ownBlock = some q → (Value.slice (some ⟨w7.heap.size, 0, none⟩) 0 0).ownBlock ≠ some q := fun q hq e => by have hlt := ho.lt q hq; have h8 := hb8.size; simp [Value.ownBlock] at e; omega
              have ho9 := own_of_grown ho hgr9 hneq
              have hne9 : ∀ q, (Value.slice ya ql yc).ownBlock = some q → v9.ownBlock ≠ some q := fun q hq e => by
                rcases hat9 with h | h
                · exact hneq q hq (h.symm.trans e)
                · have hlt := (ho.lt q hq).2
                  have := Option.some.inj (h.symm.trans e)
                  omega
              refine hK.out _ _ ?_ (fun hHeld => ?_)
              · (first | exact hb11 | exact hb10 | exact hb9 | exact hb8 | ((repeat' (first | exact Below.refl _ _ | (with_reducible assumption) | (refine bnext ?_ (by with_reducible assumption)) | (refine balloc ?_ _) | (refine below_drewN ?_ _) | (refine Below.drew ?_) | (refine bset ?_ (by simp; try omega) _))); done))
              clear hK K
              (try simp only [Act.put, List.setIfInBounds_toArray, List.set_cons_zero, List.set_cons_succ])
              refine wpAnyH_ready (rs := [13]) (by kernel_rfl) (by simp) ?_
              refine AllReadyH.cons (o := { dst := some 84, op := Op.call { callee := Callee.builtin Builtin.append, args := #[Operand.tmp 79, Operand.tmp 83], argTypes := #[27, 27] }, type := 27, pos := "law.go:134", after := #[{ on := 8, ground := Ground.data }, { on := 12, ground := Ground.data }, { on := 8, ground := Ground.chain }, { on := 1, ground := Ground.guard }], guard := some (1, true) }) rfl (fun K hK => ?_) ?_
              · (refine step_append_w (by rfl) _ _ _ (by rfl) w7.heap.size 37 i2 _ 2 16 Try.underlying27 hi2 hx0 hx1 hx2 rfl (by decide) v9 (0 + k) _ (by rfl) hown9 adp (n - k1) (pc - k1) (PV.drop (k1 * 2)) (by rfl) HQL2.out (HQ2.out _ hb9) HQO2.out (by unfold maxLen; omega) (by omega) hb9.size ?_; intro v10 w10 hown10 hgr10 hat10)
                have hb10 : Below w7.heap.size w7 w10 := hb9.grown hgr10 hb9.size (fun q e => (hown9.lt q e).1)
                rw [HQQ.out] at hown10
                have hpt10 := own_pt HQN.out hown10
                have hy10 := own_pt HQLn.out.symm (own_of_grown ho9 hgr10 hne9)
                refine hK.out _ _ ?_ (fun hHeld => ?_)
                · (first | exact hb11 | exact hb10 | exact hb9 | exact hb8 | ((repeat' (first | exact Below.refl _ _ | (with_reducible assumption) | (refine bnext ?_ (by with_reducible assumption)) | (refine balloc ?_ _) | (refine below_drewN ?_ _) | (refine Below.drew ?_) | (refine bset ?_ (by simp; try omega) _))); done))
                clear hK K
                (try simp only [Act.put, List.setIfInBounds_toArray, List.set_cons_zero, List.set_cons_succ])
                refine wpAnyH_ready (rs := [14]) (by kernel_rfl) (by simp) ?_
                refine AllReadyH.cons (o := { dst := some 85, op := Op.call { callee := Callee.value (Operand.func 12), args := #[Operand.tmp 74, Operand.tmp 84], argTypes := #[27, 27] }, type := 4, pos := "law.go:134", after := #[{ on := 3, ground := Ground.data }, { on := 13, ground := Ground.data }, { on := 13, ground := Ground.chain }, { on := 1, ground := Ground.guard }], guard := some (1, true) }) rfl (fun K hK => ?_) ?_
                · (go_simp; go_at_call 12; refine (same_c Q _ _ _ hy10 hpt10 HQS.out).mono ?_; rintro e w11 ⟨rfl, k11⟩; dsimp only)
                  have hb11 := bnext hb10 k11
                  refine hK.out _ _ ?_ (fun hHeld => ?_)
                  · (first | exact hb11 | exact hb10 | exact hb9 | exact hb8 | ((repeat' (first | exact Below.refl _ _ | (with_reducible assumption) | (refine bnext ?_ (by with_reducible assumption)) | (refine balloc ?_ _) | (refine below_drewN ?_ _) | (refine Below.drew ?_) | (refine bset ?_ (by simp; try omega) _))); done))
                  clear hK K
                  (try simp only [Act.put, List.setIfInBounds_toArray, List.set_cons_zero, List.set_cons_succ])
                  refine wpAnyH_take (i := 15) (oi := { dst := some 86, op := Op.pick (Operand.tmp 72) (Operand.tmp 85) (Operand.const (Value.bool false)), type := 4, pos := "law.go:134", after := #[{ on := 1, ground := Ground.data }, { on := 14, ground := Ground.data }], guard := none }) (v := ?_) rfl (by kernel_rfl) (by kernel_rfl) (by kernel_rfl) (fun _ _ _ h => h) (Or.inl ⟨by rfl, ?_⟩) (by assumption) ?_
                  rotate_left
                  · ((intro w hSw; (try dsimp only at hSw); go_simp; (try rw [if_neg (by omega)])); try with_reducible rfl)
                  (try simp only [Act.put, List.setIfInBounds_toArray, List.set_cons_zero, List.set_cons_succ])
                  refine wpAnyH_take (i := 16) (oi := { dst := some 4, op := Op.assign (Operand.tmp 86), type := 4, pos := "law.go:134", after := #[{ on := 15, ground := Ground.data }, { on := 14, ground := Ground.chain }, { on := 0, ground := Ground.phase }, { on := 1, ground := Ground.phase }, { on := 2, ground := Ground.phase }, { on := 3, ground := Ground.phase }, { on := 4, ground := Ground.phase }, { on := 5, ground := Ground.phase }, { on := 6, ground := Ground.phase }, { on := 7, ground := Ground.phase }, { on := 8, ground := Ground.phase }, { on := 9, ground := Ground.phase }, { on := 10, ground := Ground.phase }, { on := 11, ground := Ground.phase }, { on := 12, ground := Ground.phase }, { on := 13, ground := Ground.phase }, { on := 14, ground := Ground.phase }, { on := 15, ground := Ground.phase }], guard := none }) (v := ?_) rfl (by kernel_rfl) (by kernel_rfl) (by kernel_rfl) (fun _ _ _ h => h) (Or.inl ⟨by rfl, ?_⟩) (by assumption) ?_
                  rotate_left
                  · ((intro w hSw; (try dsimp only at hSw); go_simp; (try rw [if_neg (by omega)])); try with_reducible rfl)
                  (try simp only [Act.put, List.setIfInBounds_toArray, List.set_cons_zero, List.set_cons_succ])
                  refine wpAnyH_done (by kernel_rfl) ?_ _
                  have HFIN := Lib.hid (bnext HB5.out (bnext HB7.out hb11))
                  clear hneq hne9 had hap
                  go_wp2
                  go_ret
                  exact ⟨rfl, by first | exact HFIN.out | exact HFIN.out.drew⟩
                exact AllReadyH.nil
              exact AllReadyH.nil
            exact AllReadyH.nil
          exact AllReadyH.nil
        exact AllReadyH.nil

set_option maxRecDepth 100000 in
theorem lifted (os : Os) (started : os.Started) (H : Type) (enc : TypeId × Value → H) :
    ReturnsInHanded {} Try.checked os 7 .any (Rows.attachBehindSpec.pre6 enc Try.prog Try.f7 Rows.attachBehindRow.domain false) (Rows.attachBehindSpec.post enc Try.prog Try.f7 false true false false) := by
  refine returnsInHanded_of_change (C := Try.checked) own started (by kernel_rfl) Try.func7
    (ChangeSpec.witness6 (enc := enc) (C := Try.checked) false ⟨#[], #[.slice none 0 0, .int .u8 0], []⟩ 8 (by kernel_rfl) (by kernel_rfl) (by kernel_rfl) (by kernel_rfl)) ?_
  intro W base args ds gs before hval0 hW hcnd _
  have hval : ∀ (j : Nat) t v, Try.f7.params[j]? = some t → args[j]? = some v → Value.okWide Try.prog W .any base t v := hval0
  have hW' := hW
  obtain ⟨p, q, hA0, hV, rfl, hfz, hnd⟩ := hW
  have hA : DataW.TrodAll enc Try.prog W 0 (fun _ => true) true Try.f7.params.toList args.toList ds p := hA0
  rw [Try.params7] at hA hval
  obtain ⟨v0, vs0, d0, ds0, p0, q0, hargs, rfl, rfl, h0, r0⟩ := trodAll_cons hA
  obtain ⟨v1, vs1, d1, ds1, p1, q1, rfl, rfl, rfl, h1, r1⟩ := trodAll_cons r0
  obtain ⟨rfl, rfl, rfl⟩ := trodAll_nil r1
  obtain rfl : args = #[v0, v1] := by cases args; simp_all
  obtain ⟨rfl, rfl⟩ := trodVars_none hV
  have k0 := h0
  have lt0 : ∀ x ∈ p0, x.block < W.heap.size := by obtain ⟨m, hm⟩ := k0; exact DataW.trod_lt m _ _ _ hm
  have k1 := h1
  have lt1 : ∀ x ∈ p1, x.block < W.heap.size := by obtain ⟨m, hm⟩ := k1; exact DataW.trod_lt m _ _ _ hm
  obtain ⟨a0, H0, L0⟩ := open_lll (hval 0 22 v0 rfl rfl) h0
  obtain ⟨a1, rfl, rfl, rfl, wa1⟩ := open_int Try.underlying5 (hval 1 5 v1 rfl rfl) h1
  clear hA0 hval0
  refine (walk v0 a0 a1 wa1 W H0 L0).mono fun e W' ⟨he, bel⟩ => ?_
  subst he
  exact ⟨_, rfl, _, _, _, [], _, [], hW', trodAll_mk1 (shut_bool Try.underlying4 _), (trodAll_cons_mk (Below.trod laidOut (by kernel_rfl) (of_decide_eq_true (by kernel_rfl)) k0 bel lt0) (trodAll_cons_mk (Below.trod laidOut (by kernel_rfl) (of_decide_eq_true (by kernel_rfl)) k1 bel lt1) trodAll_mk0)), rfl, bel.frame _, fun h => by cases h⟩

theorem over : Rows.attachBehindRow.holds Try.pinned (OpenSpec.ofChange Rows.attachBehindSpec) :=
  OpenClaim.holds_of_wide 7 Try.f7 rfl rfl rfl rfl rfl rfl rfl ⟨rfl, rfl, rfl, rfl, rfl⟩ rfl rfl rfl rfl rfl (by kernel_rfl) Try.func7 (by kernel_rfl)
    (of_decide_eq_true (by kernel_rfl)) (by unfold Func.isWrapper; first | (rw [if_pos (by decide +kernel)]; kernel_rfl) | (rw [if_neg (by decide +kernel)]; exact ⟨rfl, rfl⟩))
    (fun os started H enc _ => lifted os started H enc)

end Go.Proofs.Ytpmmincophaaiaa.attachBehind
namespace Go.Proofs.Ytpmmincophaaiaa
theorem attachBehind_proved : Rows.AttachBehindSaid := attachBehind.over
#print axioms attachBehind_proved
end Go.Proofs.Ytpmmincophaaiaa
