/- For all times LinesAlone returns true: without a script each message arrives once, at its time. No conditions. -/
import Derived.Test.YtgphdgalcbcamaaLn13
namespace Go.Proofs.Ytgphdgalcbcamaa.linesAlone
open Go.ChangeShapes Go.WideShapes Go.ChangeAt Go.RowKit Go.Joins Go.Deep
set_option linter.unusedVariables false

set_option maxRecDepth 100000 in
set_option maxHeartbeats 4000000 in
theorem walk (v0 : Value) (a0 : List Int)  (w : World) (H0 : RowAt w v0 (a0.map (Value.int .i64))) (L0 : a0.length ≤ maxLen ∧ ∀ a n c, v0 = .slice a n c → n ≤ c) (E0 : ∀ x, x ∈ a0 → -9223372036854775808 ≤ x ∧ x ≤ 9223372036854775807) :
    Calls Try.prog 5 #[v0] w fun e w' => e = .returned (.bool true) ∧ Below w.heap.size w w' := by
  have HM : Hid (∀ V, Below w.heap.size w V → RowAt V v0 (a0.map (Value.int .i64))) := Lib.hid fun V hV => H0.keep hV
  obtain ⟨va, vc, rfl, -⟩ := H0.out
  rw [List.length_map] at HM ⊢
  obtain ⟨N, hN⟩ : ∃ N, a0.length = N := ⟨_, rfl⟩
  rw [hN] at HM ⊢
  have hNl : N ≤ maxLen := by rw [← hN]; exact L0.1
  unfold maxLen at hNl
  have HNN := Lib.hid hN
  have HE0 := Lib.hid E0
  obtain ⟨i0, hi0, hz0, hz1, hz2⟩ := info_parts info_int
  clear H0 L0 hN E0
  go_enter Try.func5, Try.ntmps5
  go_wp2_with fail
  refine (sanity_any _).mono ?_
  rintro e w2 ⟨rfl, k2⟩
  have HB2 := Lib.hid k2
  clear k2
  go_wp2_with fail
  go_at_call 11
  refine (new_any w2 2 (.slice none 0 0) [] 0 rfl (by decide) (SrcN.nil 3 w2)).mono ?_
  rintro x w3 ⟨M, rfl, hls, hb3⟩
  have HB3 := Lib.hid (bnext HB2.out hb3)
  obtain ⟨F, hF⟩ : ∃ F, (fun b => w2.heap.size ≤ b ∧ b < w3.heap.size) = F := ⟨_, rfl⟩
  rw [hF] at hls
  have HLS := Lib.hid hls
  have HF0 : Hid (∀ b, F b → w.heap.size ≤ b) := Lib.hid fun b hb => by rw [← hF] at hb; exact Nat.le_trans HB2.out.size hb.1
  clear hls hF hb3
  go_upto_region 5 with fail
  go_loopw [5, 6] (fun v5 v6 wr => ∃ (i : Nat) (F' : Nat → Prop), v6 = .int .i64 (i : Int) ∧ i ≤ N ∧ i ≤ 40 ∧ wr.ownsRow 0 3 1 v5 i ((List.range i).map fun j => .int .i64 (LN.ta a0 j)) ∧ Hid (LS wr M 2 [] i (LN.PA a0 i) F') ∧ Hid (∀ b, F' b → w.heap.size ≤ b) ∧ Hid (∀ b, F' b → v5.ownBlock ≠ some b) ∧ Hid (Below w.heap.size w wr) ∧ Hid (∀ q, v5.ownBlock = some q → w.heap.size ≤ q)) (fun _ v _ => N - (intOf v).toNat)
  case atStart => exact ⟨0, F, rfl, by omega, by omega, World.ownsRow_nil _ _ _ _, HLS, HF0, Lib.hid (fun b hb e => by cases e), HB3, Lib.hid (fun q e => by cases e)⟩
  case round =>
    obtain ⟨i, F', rfl, hi, hi40, hown, HSR, HFW, HFN, HBW, HOWN⟩ := hrel
    obtain ⟨oa, oc, rfl⟩ := own_shape hown
    by_cases hin : i < N ∧ i < 40
    · obtain ⟨hin, hi4⟩ := hin
      have hii : (i : Int) < (N : Int) := by omega
      have hii4 : (i : Int) < 40 := by omega
      have hi0' : (0 : Int) ≤ (i : Int) := by omega
      obtain ⟨g0, o0, rfl, -, hcell⟩ := (HM.out wr HBW.out).cell (k := i) (by rw [List.length_map, HNN.out]; exact hin)
      have hcell' : wr.cell? ⟨g0, o0 + i, none⟩ = some (.int .i64 (a0.getD i 0)) := by
        rw [hcell, List.getElem_map, List.getD_eq_getElem?_getD, List.getElem?_eq_getElem (by rw [HNN.out]; exact hin)]
        rfl
      obtain ⟨z, hz⟩ : ∃ z, a0.getD i 0 = z := ⟨_, rfl⟩
      obtain ⟨t, ht⟩ : ∃ t, LN.ta a0 i = t := ⟨_, rfl⟩
      have htb := LN.ta_bd a0 i
      rw [ht] at htb
      obtain ⟨ht0, ht5⟩ := htb
      have HTA := Lib.hid ht
      have hmod := mod_any z 5 wr (by decide) (by decide)
      rw [show z % 5 = t by rw [← ht, ← hz]; rfl] at hmod
      have HMOD := Lib.hid hmod
      rw [hz] at hcell'
      obtain ⟨U, hU⟩ : ∃ U, ((List.range i).map fun j => Value.int .i64 (LN.ta a0 j)) = U := ⟨_, rfl⟩
      have HUN : Hid (((List.range (i + 1)).map fun j => Value.int .i64 (LN.ta a0 j)) = U ++ [.int .i64 t]) := Lib.hid (by rw [List.range_succ, List.map_append, hU, ← ht]; rfl)
      rw [hU] at hown
      have HOW := Lib.hid hown
      clear hown hU hmod hz ht hcell
      go_wp2_with fail
      go_at_call 17
      refine HMOD.out.mono ?_
      rintro x wx ⟨rfl, he⟩
      have he' := he.symm
      subst he'
      go_upto_region 8 with (at_builtin; refine wpList_appN _ rfl _ _ 37 rfl 0 3 i0 _ 1 8 Try.underlying37 hi0 hz0 hz1 hz2 rfl (by decide) (.slice oa i oc) i U rfl (own_below HOW.out (balloc (Below.refl _ _) _)) (.slice (some ⟨wr.heap.size, 0, none⟩) 1 1) 1 [.int .i64 t] rfl (srcN_new wr [.int .i64 t] 3 1 1 1 rfl) (by simp [Value.oneCell']) (by unfold maxLen; omega) (by omega) (Nat.zero_le _) ?_; intro v' w7 hown7 hgrow hat)
      have hb6 := balloc (Below.refl _ wr) (.cells #[.int .i64 t] 3)
      have hfg := (FrS.of (S := fun b => (Value.slice oa i oc).ownBlock = some b) hb6).trans (FrS.grown hgrow (fun r e => e))
      obtain ⟨pa', pc', rfl⟩ := own_shape hown7
      have HL7 := Lib.hid (HSR.out.kept hfg (fun b hb => HFN.out b hb))
      have HB7 : Hid (Below w.heap.size w w7) := Lib.hid ((balloc HBW.out _).grown hgrow (balloc HBW.out _).size (fun q e => HOWN.out q e))
      have HF7 : Hid (∀ b, F' b → (Value.slice pa' (i + 1) pc').ownBlock ≠ some b) := Lib.hid fun b hb e => by
        rcases hat with h | h
        · exact HFN.out b hb (h.symm.trans e)
        · rw [h] at e
          have := Option.some.inj e
          have h2 := HSR.out.lt b hb
          simp at this
          omega
      have HO7 : Hid (∀ q, (Value.slice pa' (i + 1) pc').ownBlock = some q → w.heap.size ≤ q) := Lib.hid fun q e => by
        rcases hat with h | h
        · exact HOWN.out q (h.symm.trans e)
        · rw [h] at e
          have := Option.some.inj e
          have h2 := HBW.out.size
          simp at this
          omega
      rw [← HUN.out] at hown7
      have HW7 := Lib.hid hown7
      obtain ⟨g, cc, hsl, -, -, hcl⟩ := own_at hown7 (by omega)
      have hck := hcl i (.int .i64 t) (by rw [List.getElem?_map, List.getElem?_range (by omega)]; show some (Value.int .i64 (LN.ta a0 i)) = _; rw [HTA.out])
      injection hsl with hsl _ hcc
      subst hsl hcc
      have HRK : Hid (∀ V, FrS F' w7 V → V.ownsRow 0 3 1 (.slice (some ⟨g, 0, none⟩) (i + 1) pc') (i + 1) ((List.range (i + 1)).map fun j => .int .i64 (LN.ta a0 j)) ∧ V.cell? ⟨g, i, none⟩ = some (.int .i64 t)) := Lib.hid fun V hV => by
        have h1 := hV.own HW7.out (fun q e h => HF7.out q h e)
        obtain ⟨g', cc', hsl', -, -, hcl'⟩ := own_at h1 (by omega)
        injection hsl' with hsl' _ _
        obtain rfl : g = g' := by simpa using hsl'
        exact ⟨h1, hcl' i (.int .i64 t) (by rw [List.getElem?_map, List.getElem?_range (by omega)]; show some (Value.int .i64 (LN.ta a0 i)) = _; rw [HTA.out])⟩
      have HWD0 := Below.drew (Below.refl w7.heap.size w7)
      obtain ⟨W0, hW0⟩ : ∃ W0, w7.drew = W0 := ⟨_, rfl⟩
      rw [hW0] at HWD0
      have HWD := Lib.hid HWD0
      have HW0 := Lib.hid hW0
      have HFD : Hid (FrS F' w7 W0) := Lib.hid (FrS.of HWD0)
      have mixed : Try.prog.follows .mixedOrders = true := by kernel_rfl
      have hu8 := u8_wrap i (by omega)
      have hir : (i : Int) < (i : Int) + 1 := by omega
      clear hb6 hfg hown7 hgrow hat hcl HWD0 hW0 hcell'
      refine wp_region_held_drew (S := (fun w' => w'.cell? ⟨g, i, none⟩ = some (.int .i64 t))) (by kernel_rfl) ?_ (fun hHeld => ?_)
      · (rw [HW0.out]; exact (HRK.out _ HFD.out).2)
      rw [HW0.out] at hHeld ⊢
      refine wpAnyH_take (i := 0) (oi := { dst := some 32, op := Op.move (Operand.tmp 4), type := 25, pos := "law.go:117", after := #[], guard := none }) (v := ?_) rfl (by kernel_rfl) (by kernel_rfl) (by kernel_rfl) (fun _ _ _ h => h) (Or.inl ⟨by rfl, ?_⟩) (by assumption) ?_
      rotate_left
      · ((intro w hSw; (try dsimp only at hSw); go_simp; (try rw [if_neg (by omega)])); try with_reducible rfl)
      (try simp only [Act.put, List.setIfInBounds_toArray, List.set_cons_zero, List.set_cons_succ])
      refine wpAnyH_take (i := 1) (oi := { dst := some 33, op := Op.move (Operand.tmp 5), type := 37, pos := "law.go:117", after := #[], guard := none }) (v := ?_) rfl (by kernel_rfl) (by kernel_rfl) (by kernel_rfl) (fun _ _ _ h => h) (Or.inl ⟨by rfl, ?_⟩) (by assumption) ?_
      rotate_left
      · ((intro w hSw; (try dsimp only at hSw); go_simp; (try rw [if_neg (by omega)])); try with_reducible rfl)
      (try simp only [Act.put, List.setIfInBounds_toArray, List.set_cons_zero, List.set_cons_succ])
      refine wpAnyH_take (i := 2) (oi := { dst := some 34, op := Op.move (Operand.tmp 6), type := 3, pos := "law.go:117", after := #[], guard := none }) (v := ?_) rfl (by kernel_rfl) (by kernel_rfl) (by kernel_rfl) (fun _ _ _ h => h) (Or.inl ⟨by rfl, ?_⟩) (by assumption) ?_
      rotate_left
      · ((intro w hSw; (try dsimp only at hSw); go_simp; (try rw [if_neg (by omega)])); try with_reducible rfl)
      (try simp only [Act.put, List.setIfInBounds_toArray, List.set_cons_zero, List.set_cons_succ])
      refine wpAnyH_take (i := 3) (oi := { dst := some 35, op := Op.indexAddr 37 (Operand.tmp 33) (Operand.tmp 34), type := 0, pos := "law.go:117", after := #[{ on := 1, ground := Ground.data }, { on := 2, ground := Ground.data }], guard := none }) (v := ?_) rfl (by kernel_rfl) (by kernel_rfl) (by kernel_rfl) (fun _ _ _ h => h) (Or.inl ⟨by rfl, ?_⟩) (by assumption) ?_
      rotate_left
      · ((intro w hSw; (try dsimp only at hSw); go_simp; (try rw [if_neg (by omega)])); try with_reducible rfl)
      (try simp only [Act.put, List.setIfInBounds_toArray, List.set_cons_zero, List.set_cons_succ])
      refine wpAnyH_take (i := 4) (oi := { dst := some 36, op := Op.load 3 (Operand.tmp 35), type := 3, pos := "law.go:117", after := #[{ on := 3, ground := Ground.data }], guard := none }) (v := ?_) rfl (by kernel_rfl) (by kernel_rfl) (by kernel_rfl) (fun _ _ _ h => h) (Or.inl ⟨by rfl, ?_⟩) (by assumption) ?_
      rotate_left
      · ((intro w hSw; (try dsimp only at hSw); go_simp; (try rw [if_neg (by omega)])); try with_reducible rfl)
      (try simp only [Act.put, List.setIfInBounds_toArray, List.set_cons_zero, List.set_cons_succ])
      refine wpAnyH_take (i := 5) (oi := { dst := some 37, op := Op.move (Operand.tmp 6), type := 3, pos := "law.go:117", after := #[], guard := none }) (v := ?_) rfl (by kernel_rfl) (by kernel_rfl) (by kernel_rfl) (fun _ _ _ h => h) (Or.inl ⟨by rfl, ?_⟩) (by assumption) ?_
      rotate_left
      · ((intro w hSw; (try dsimp only at hSw); go_simp; (try rw [if_neg (by omega)])); try with_reducible rfl)
      (try simp only [Act.put, List.setIfInBounds_toArray, List.set_cons_zero, List.set_cons_succ])
      refine wpAnyH_take (i := 6) (oi := { dst := some 38, op := Op.convert 3 5 (Operand.tmp 37), type := 5, pos := "law.go:117", after := #[{ on := 5, ground := Ground.data }], guard := none }) (v := ?_) rfl (by kernel_rfl) (by kernel_rfl) (by kernel_rfl) (fun _ _ _ h => h) (Or.inl ⟨by rfl, ?_⟩) (by assumption) ?_
      rotate_left
      · ((intro w hSw; (try dsimp only at hSw); go_simp; (try rw [if_neg (by omega)])); try with_reducible rfl)
      (try simp only [Act.put, List.setIfInBounds_toArray, List.set_cons_zero, List.set_cons_succ])
      refine wpAnyH_ready (rs := [7]) (by kernel_rfl) (by simp) ?_
      refine AllReadyH.cons (o := { dst := some 39, op := Op.buildSlice 40 1 #[(0, Operand.tmp 38)], type := 40, pos := "law.go:117", after := #[{ on := 6, ground := Ground.data }], guard := none }) rfl (fun K hK => ?_) ?_
      · (go_simp; have hcv := conv_new W0 i; have bz1 := balloc (Below.refl _ W0) (.cells #[.int .u8 (i : Int)] 5); obtain ⟨wz1, hq⟩ : ∃ w', W0.alloc (.cells #[.int .u8 (i : Int)] 5) = w' := ⟨_, rfl⟩; rw [hq] at hcv bz1; rw [hq]; clear hq)
        refine hK.out _ _ ?_ (fun hHeld => ?_)
        · exact (HRK.out _ (HFD.out.then bz1)).2
        clear hK K
        (try simp only [Act.put, List.setIfInBounds_toArray, List.set_cons_zero, List.set_cons_succ])
        refine wpAnyH_ready (rs := [8]) (by kernel_rfl) (by simp) ?_
        refine AllReadyH.cons (o := { dst := some 40, op := Op.convert 40 9 (Operand.tmp 39), type := 9, pos := "law.go:117", after := #[{ on := 7, ground := Ground.data }], guard := none }) rfl (fun K hK => ?_) ?_
        · (go_simp; clear hcv)
          refine hK.out _ _ ?_ (fun hHeld => ?_)
          · exact (HRK.out _ (HFD.out.then bz1)).2
          clear hK K
          (try simp only [Act.put, List.setIfInBounds_toArray, List.set_cons_zero, List.set_cons_succ])
          refine wpAnyH_ready (rs := [9]) (by kernel_rfl) (by simp) ?_
          refine AllReadyH.cons (o := { dst := some 41, op := Op.call { callee := Callee.value (Operand.func 18), args := #[Operand.tmp 40], argTypes := #[9] }, type := 31, pos := "law.go:117", after := #[{ on := 8, ground := Ground.data }], guard := none }) rfl (fun K hK => ?_) ?_
          · (go_simp; go_at_call 18; refine (told_any _ _).mono ?_; rintro u wz3 ⟨rfl, dz3⟩; have bz3 := bnext bz1 dz3; clear dz3; dsimp only)
            refine hK.out _ _ ?_ (fun hHeld => ?_)
            · exact (HRK.out _ (HFD.out.then bz3)).2
            clear hK K
            (try simp only [Act.put, List.setIfInBounds_toArray, List.set_cons_zero, List.set_cons_succ])
            refine wpAnyH_ready (rs := [10]) (by kernel_rfl) (by simp) ?_
            refine AllReadyH.cons (o := { dst := some 42, op := Op.call { callee := Callee.value (Operand.func 15), args := #[Operand.tmp 32, Operand.tmp 36, Operand.tmp 41], argTypes := #[25, 3, 31] }, type := 0, pos := "law.go:117", after := #[{ on := 0, ground := Ground.data }, { on := 4, ground := Ground.data }, { on := 9, ground := Ground.data }, { on := 9, ground := Ground.chain }], guard := none }) rfl (fun K hK => ?_) ?_
            · (go_simp; go_at_call 15; refine (send_any ((HL7.out.here.below HWD.out).below bz3) t 0 1 (LN.txt i) (by omega) (by rw [LN.PA_len]; omega)).mono ?_; rintro u wz4 ⟨rfl, h4⟩; have hf4 := h4.1; dsimp only)
              refine hK.out _ _ ?_ (fun hHeld => ?_)
              · exact (HRK.out _ hf4).2
              clear hK K
              (try simp only [Act.put, List.setIfInBounds_toArray, List.set_cons_zero, List.set_cons_succ])
              refine wpAnyH_done (by kernel_rfl) ?_ _
              have hsp := sendP_once a0 i
              rw [HTA.out] at hsp
              rw [hsp] at h4
              obtain ⟨f4, F4, l4, g4⟩ := h4
              have H4 := Lib.hid l4
              have HR4 := Lib.hid (HRK.out _ f4).1
              have HF4 : Hid (∀ b, F4 b → w.heap.size ≤ b) := Lib.hid fun b hb => (g4 b hb).elim (HFW.out b) (fun h => Nat.le_trans HB7.out.size h)
              have HN4 : Hid (∀ b, F4 b → (Value.slice (some ⟨g, 0, none⟩) (i + 1) pc').ownBlock ≠ some b) := Lib.hid fun b hb e => by
                rcases g4 b hb with h | h
                · exact HF7.out b h e
                · have := (HW7.out.lt b e).2
                  omega
              have HBW4 : Hid (Below w.heap.size w wz4) := Lib.hid (f4.below w HB7.out HFW.out)
              clear f4 l4 g4 hf4 bz1 bz3 hsp
              go_wp2
              go_roundw
              case rel => exact ⟨i + 1, F4, by go_num, hin, by omega, HR4.out, H4, HF4, HN4, HBW4, HO7⟩
              case measure => simp [intOf]; omega
            exact AllReadyH.nil
          exact AllReadyH.nil
        exact AllReadyH.nil
      exact AllReadyH.nil
    · by_cases hin2 : i < N
      · have hii : (i : Int) < (N : Int) := by omega
        have hii4 : ¬ (i : Int) < 40 := by omega
        clear hin hin2
        have HRS := Lib.hid hown
        clear hown
        obtain ⟨wy, hwy⟩ : ∃ wy, wy = wr := ⟨_, rfl⟩
        subst hwy
        have H0 : Hid (LSr wy F' wy M 2 [] i (LN.RA a0 i 0 0)) := Lib.hid (by rw [LN.RA_start]; exact HSR.out.here)
        have HROWS : Hid (∀ V, FrS F' wy V → V.ownsRow 0 3 1 (.slice oa i oc) i ((List.range i).map fun j => .int .i64 (LN.ta a0 j))) := Lib.hid fun V hV => hV.own HRS.out (fun q e h => HFN.out q h e)
        go_upto_region 10 with fail
        go_loopw [7] (fun v7 wr => ∃ A : Nat, v7 = .int .i64 (A : Int) ∧ A ≤ 5 ∧ Hid (LSr wy F' wr M 2 [] i (LN.RA a0 i A 0))) (fun v _ => 5 - (intOf v).toNat)
        case atStart => exact ⟨0, rfl, by omega, H0⟩
        case round =>
          obtain ⟨A, rfl, hA, HRA⟩ := hrel
          obtain ⟨wo, hwo⟩ : ∃ wo, wo = wr := ⟨_, rfl⟩
          subst hwo
          by_cases hA5 : A < 5
          · have hAA : (A : Int) < 5 := by omega
            go_upto_region 13 with fail
            go_loopw [8] (fun v8 wr => ∃ k : Nat, v8 = .int .i64 (k : Int) ∧ k ≤ i ∧ Hid (LSr wy F' wr M 2 [] i (LN.RA a0 i A k))) (fun v _ => i - (intOf v).toNat)
            case atStart => exact ⟨0, rfl, by omega, HRA⟩
            case round =>
              obtain ⟨k, rfl, hk, HRK⟩ := hrel
              by_cases hki : k < i
              · have hkk : (k : Int) < (i : Int) := by omega
                have hk0 : (0 : Int) ≤ (k : Int) := by omega
                have hrow := HROWS.out wr HRK.out.1
                obtain ⟨g, cc, hsl, -, -, hcell⟩ := own_at hrow (by omega)
                have hck : wr.cell? ⟨g, k, none⟩ = some (.int .i64 (LN.ta a0 k)) := hcell k _ (by simp [hki])
                injection hsl with hsl _ hcc
                subst hsl hcc
                obtain ⟨t, ht⟩ : ∃ t, LN.ta a0 k = t := ⟨_, rfl⟩
                rw [ht] at hck
                have HT := Lib.hid ht
                clear hrow hcell ht
                by_cases hta : t = (A : Int)
                · subst hta
                  obtain ⟨hg1, hg2⟩ := LN.RA_gives a0 i A k hki HT.out
                  have hgy := gives_yes (HRK.out.below (balloc (Below.refl _ wr) (.cells #[.int .u8 (k : Int)] 5))) (LN.RA_inc a0 i A k).ord (by have := LN.RA_len a0 i A k; omega) (LN.pa a0 k) hg1
                  rw [hg2, show (LN.pa a0 k).t = (A : Int) from HT.out, show (LN.pa a0 k).s = LN.txt k from rfl] at hgy
                  have HGY := Lib.hid hgy
                  have hu8 := u8_wrap k (by omega)
                  have hcv := conv_new wr k
                  clear hg1 hg2 hgy
                  go_wp2_with fail
                  go_at_call 21
                  refine HGY.out.mono ?_
                  rintro x wx ⟨rfl, hx⟩
                  have HX := Lib.hid hx
                  clear hx hcv
                  go_wp2
                  go_roundw
                  case rel => exact ⟨k + 1, by go_num, hki, HX⟩
                  case measure => simp [intOf]; omega
                · have htb : (t == (A : Int)) = false := by simpa using hta
                  have HX : Hid (LSr wy F' wr M 2 [] i (LN.RA a0 i A (k + 1))) := Lib.hid (by rw [← LN.RA_other a0 i A k (by rw [HT.out]; exact hta)]; exact HRK.out)
                  go_wp2
                  go_roundw
                  case rel => exact ⟨k + 1, by go_num, hki, HX⟩
                  case measure => simp [intOf]; omega
              · have hkk : ¬ (k : Int) < (i : Int) := by omega
                have HX : Hid (LSr wy F' wr M 2 [] i (LN.RA a0 i (A + 1) 0)) := Lib.hid (by rw [← LN.RA_up, show i = k by omega]; rw [show i = k by omega] at HRK; exact HRK.out)
                clear hki hk
                go_wp2
                go_roundw
                case rel => exact ⟨A + 1, by go_num, hA5, HX⟩
                case measure => simp [intOf]; omega
          · obtain rfl : A = 5 := by omega
            have hAA : ¬ ((5 : Nat) : Int) < 5 := by omega
            have HE : Hid (LSr wy F' wo M 2 [] i []) := Lib.hid (by rw [← LN.RA_end a0 i]; exact HRA.out)
            clear hA5 hA
            go_upto_region 17 with fail
            go_wp2_with fail
            go_at_call 20
            refine (next_none HE.out).mono ?_
            rintro x wx ⟨rfl, hx⟩
            have HX := Lib.hid ((hx.below (balloc (Below.refl _ wx) ms0C)).to_below HBW.out HFW.out)
            clear hx
            go_wp2
            go_ret
            exact ⟨rfl, HX.out⟩
      · have hii : ¬ (i : Int) < (N : Int) := by omega
        clear hin hin2
        have HRS := Lib.hid hown
        clear hown
        obtain ⟨wy, hwy⟩ : ∃ wy, wy = wr := ⟨_, rfl⟩
        subst hwy
        have H0 : Hid (LSr wy F' wy M 2 [] i (LN.RA a0 i 0 0)) := Lib.hid (by rw [LN.RA_start]; exact HSR.out.here)
        have HROWS : Hid (∀ V, FrS F' wy V → V.ownsRow 0 3 1 (.slice oa i oc) i ((List.range i).map fun j => .int .i64 (LN.ta a0 j))) := Lib.hid fun V hV => hV.own HRS.out (fun q e h => HFN.out q h e)
        go_upto_region 10 with fail
        go_loopw [7] (fun v7 wr => ∃ A : Nat, v7 = .int .i64 (A : Int) ∧ A ≤ 5 ∧ Hid (LSr wy F' wr M 2 [] i (LN.RA a0 i A 0))) (fun v _ => 5 - (intOf v).toNat)
        case atStart => exact ⟨0, rfl, by omega, H0⟩
        case round =>
          obtain ⟨A, rfl, hA, HRA⟩ := hrel
          obtain ⟨wo, hwo⟩ : ∃ wo, wo = wr := ⟨_, rfl⟩
          subst hwo
          by_cases hA5 : A < 5
          · have hAA : (A : Int) < 5 := by omega
            go_upto_region 13 with fail
            go_loopw [8] (fun v8 wr => ∃ k : Nat, v8 = .int .i64 (k : Int) ∧ k ≤ i ∧ Hid (LSr wy F' wr M 2 [] i (LN.RA a0 i A k))) (fun v _ => i - (intOf v).toNat)
            case atStart => exact ⟨0, rfl, by omega, HRA⟩
            case round =>
              obtain ⟨k, rfl, hk, HRK⟩ := hrel
              by_cases hki : k < i
              · have hkk : (k : Int) < (i : Int) := by omega
                have hk0 : (0 : Int) ≤ (k : Int) := by omega
                have hrow := HROWS.out wr HRK.out.1
                obtain ⟨g, cc, hsl, -, -, hcell⟩ := own_at hrow (by omega)
                have hck : wr.cell? ⟨g, k, none⟩ = some (.int .i64 (LN.ta a0 k)) := hcell k _ (by simp [hki])
                injection hsl with hsl _ hcc
                subst hsl hcc
                obtain ⟨t, ht⟩ : ∃ t, LN.ta a0 k = t := ⟨_, rfl⟩
                rw [ht] at hck
                have HT := Lib.hid ht
                clear hrow hcell ht
                by_cases hta : t = (A : Int)
                · subst hta
                  obtain ⟨hg1, hg2⟩ := LN.RA_gives a0 i A k hki HT.out
                  have hgy := gives_yes (HRK.out.below (balloc (Below.refl _ wr) (.cells #[.int .u8 (k : Int)] 5))) (LN.RA_inc a0 i A k).ord (by have := LN.RA_len a0 i A k; omega) (LN.pa a0 k) hg1
                  rw [hg2, show (LN.pa a0 k).t = (A : Int) from HT.out, show (LN.pa a0 k).s = LN.txt k from rfl] at hgy
                  have HGY := Lib.hid hgy
                  have hu8 := u8_wrap k (by omega)
                  have hcv := conv_new wr k
                  clear hg1 hg2 hgy
                  go_wp2_with fail
                  go_at_call 21
                  refine HGY.out.mono ?_
                  rintro x wx ⟨rfl, hx⟩
                  have HX := Lib.hid hx
                  clear hx hcv
                  go_wp2
                  go_roundw
                  case rel => exact ⟨k + 1, by go_num, hki, HX⟩
                  case measure => simp [intOf]; omega
                · have htb : (t == (A : Int)) = false := by simpa using hta
                  have HX : Hid (LSr wy F' wr M 2 [] i (LN.RA a0 i A (k + 1))) := Lib.hid (by rw [← LN.RA_other a0 i A k (by rw [HT.out]; exact hta)]; exact HRK.out)
                  go_wp2
                  go_roundw
                  case rel => exact ⟨k + 1, by go_num, hki, HX⟩
                  case measure => simp [intOf]; omega
              · have hkk : ¬ (k : Int) < (i : Int) := by omega
                have HX : Hid (LSr wy F' wr M 2 [] i (LN.RA a0 i (A + 1) 0)) := Lib.hid (by rw [← LN.RA_up, show i = k by omega]; rw [show i = k by omega] at HRK; exact HRK.out)
                clear hki hk
                go_wp2
                go_roundw
                case rel => exact ⟨A + 1, by go_num, hA5, HX⟩
                case measure => simp [intOf]; omega
          · obtain rfl : A = 5 := by omega
            have hAA : ¬ ((5 : Nat) : Int) < 5 := by omega
            have HE : Hid (LSr wy F' wo M 2 [] i []) := Lib.hid (by rw [← LN.RA_end a0 i]; exact HRA.out)
            clear hA5 hA
            go_upto_region 17 with fail
            go_wp2_with fail
            go_at_call 20
            refine (next_none HE.out).mono ?_
            rintro x wx ⟨rfl, hx⟩
            have HX := Lib.hid ((hx.below (balloc (Below.refl _ wx) ms0C)).to_below HBW.out HFW.out)
            clear hx
            go_wp2
            go_ret
            exact ⟨rfl, HX.out⟩

set_option maxRecDepth 100000 in
theorem lifted (os : Os) (started : os.Started) (H : Type) (enc : TypeId × Value → H) :
    ReturnsInHanded {} Try.checked os 5 .any (Rows.linesAloneSpec.pre6 enc Try.prog Try.f5 Rows.linesAloneRow.domain false) (Rows.linesAloneSpec.post enc Try.prog Try.f5 false true false false) := by
  refine returnsInHanded_of_change (C := Try.checked) own started (by kernel_rfl) Try.func5
    (ChangeSpec.witness6 (enc := enc) (C := Try.checked) false ⟨#[], #[.slice none 0 0], []⟩ 8 (by kernel_rfl) (by kernel_rfl) (by kernel_rfl) (by kernel_rfl)) ?_
  intro W base args ds gs before hval0 hW hcnd _
  have hval : ∀ (j : Nat) t v, Try.f5.params[j]? = some t → args[j]? = some v → Value.okWide Try.prog W .any base t v := hval0
  have hW' := hW
  obtain ⟨p, q, hA0, hV, rfl, hfz, hnd⟩ := hW
  have hA : DataW.TrodAll enc Try.prog W 0 (fun _ => true) true Try.f5.params.toList args.toList ds p := hA0
  rw [Try.params5] at hA hval
  obtain ⟨v0, vs0, d0, ds0, p0, q0, hargs, rfl, rfl, h0, r0⟩ := trodAll_cons hA
  obtain ⟨rfl, rfl, rfl⟩ := trodAll_nil r0
  obtain rfl : args = #[v0] := by cases args; simp_all
  obtain ⟨rfl, rfl⟩ := trodVars_none hV
  have k0 := h0
  have lt0 : ∀ x ∈ p0, x.block < W.heap.size := by obtain ⟨m, hm⟩ := k0; exact DataW.trod_lt m _ _ _ hm
  obtain ⟨a0, H0, L0, E0⟩ := open_l (hval 0 37 v0 rfl rfl) h0
  clear hA0 hval0
  refine (walk v0 a0  W H0 L0 E0).mono fun e W' ⟨he, bel⟩ => ?_
  subst he
  exact ⟨_, rfl, _, _, _, [], _, [], hW', trodAll_mk1 (shut_bool Try.underlying4 _), (trodAll_cons_mk (Below.trod laidOut (by kernel_rfl) (of_decide_eq_true (by kernel_rfl)) k0 bel lt0) trodAll_mk0), rfl, bel.frame _, fun h => by cases h⟩

theorem over : Rows.linesAloneRow.holds Try.pinned (OpenSpec.ofChange Rows.linesAloneSpec) :=
  OpenClaim.holds_of_wide 5 Try.f5 rfl rfl rfl rfl rfl rfl rfl ⟨rfl, rfl, rfl, rfl, rfl⟩ rfl rfl rfl rfl rfl (by kernel_rfl) Try.func5 (by kernel_rfl)
    (of_decide_eq_true (by kernel_rfl)) (by unfold Func.isWrapper; first | (rw [if_pos (by decide +kernel)]; kernel_rfl) | (rw [if_neg (by decide +kernel)]; exact ⟨rfl, rfl⟩))
    (fun os started H enc _ => lifted os started H enc)

end Go.Proofs.Ytgphdgalcbcamaa.linesAlone
namespace Go.Proofs.Ytgphdgalcbcamaa
theorem linesAlone_proved : Rows.LinesAloneSaid := linesAlone.over
#print axioms linesAlone_proved
end Go.Proofs.Ytgphdgalcbcamaa
