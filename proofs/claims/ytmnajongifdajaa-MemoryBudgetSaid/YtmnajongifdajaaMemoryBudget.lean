/- For every budget and all acts MemoryBudget returns true: the sizes of all keys add up to Used, which is not more than the budget. No conditions. -/
import Derived.Test.YtmnajongifdajaaMem42
namespace Go.Proofs.Ytmnajongifdajaa.memoryBudget
open Go.ChangeShapes Go.WideShapes Go.ChangeAt Go.RowKit Go.Joins Go.Deep ME
set_option linter.unusedVariables false

set_option maxRecDepth 100000 in
set_option maxHeartbeats 8000000 in
theorem walk (a0 : Int) (v1 : Value) (a1 : List Ac) (wa0 : (Lit.int .u8 a0).wf = true) (w : World) (H1 : AcArg w v1 a1) :
    Calls Try.prog 4 #[.int .u8 a0, v1] w fun e w' => e = .returned (.bool true) ∧ Below w.heap.size w w' := by
  have HM : Hid (∀ V, Below w.heap.size w V → AcArg V v1 a1) := Lib.hid fun V hV => H1.keep hV
  obtain ⟨va, vc, hv⟩ : ∃ va vc, v1 = .slice va a1.length vc := by obtain ⟨va, vc, e, -⟩ := H1.src; exact ⟨va, vc, e⟩
  subst hv
  have HA0 := Lib.hid H1
  have hlen := H1.len
  unfold maxLen at hlen
  obtain ⟨n, hn⟩ : ∃ n, a1.length = n := ⟨_, rfl⟩
  have HNN := Lib.hid hn
  rw [hn] at hlen HM HA0 ⊢
  clear H1 hn
  have h8 := bd8 wa0
  have hre : a0.tmod 64 = a0 % 64 := Int.tmod_eq_emod_of_nonneg h8.1
  obtain ⟨bu, hbu⟩ : ∃ bu, a0 % 64 = bu := ⟨_, rfl⟩
  have hbu0 : 0 ≤ bu := by omega
  have hbu1 : bu < 64 := by omega
  rw [hbu] at hre
  clear hbu
  go_enter Try.func4, Try.ntmps4
  go_wp2_with fail
  refine (sanity_any _).mono ?_
  rintro e w2 ⟨rfl, k2⟩
  have HB2 := Lib.hid k2
  clear k2
  go_wp2_with fail
  go_at_call 12
  refine (new_yes w2 bu hbu0 (by omega)).mono ?_
  rintro e w3 ⟨M, mb, root, rfl, hm3, k3⟩
  have HMS0 := MS.new hm3 hbu0 (by omega)
  obtain ⟨F, hF⟩ : ∃ F, (fun b => w2.heap.size ≤ b ∧ b < w3.heap.size) = F := ⟨_, rfl⟩
  have HF3 : Hid (∀ b, F b → w2.heap.size ≤ b) := Lib.hid fun b hb => by rw [← hF] at hb; exact hb.1
  have HFL : Hid (∀ b, F b → b < w3.heap.size) := Lib.hid fun b hb => by rw [← hF] at hb; exact hb.2
  rw [hF] at HMS0
  have HMS0 := Lib.hid HMS0
  have HB3 := Lib.hid (bnext HB2.out k3)
  have HK3 := Lib.hid k3.size
  clear hF hm3 k3
  have hmm := @run_makeMap Try.prog
  go_upto_region 5 with fail
  clear hmm
  have hb4 := balloc (Below.refl _ w3) (.map #[] 0)
  have z4 := MSz.made w3
  obtain ⟨A, hA⟩ : ∃ A, w3.heap.size = A := ⟨_, rfl⟩
  obtain ⟨W4, hW4⟩ : ∃ W4, w3.alloc (.map #[] 0) = W4 := ⟨_, rfl⟩
  rw [hA] at z4
  try rw [hA]
  rw [hW4] at hb4 z4
  rw [hW4]
  have HB4 : Hid (Bg w w2 A M mb root bu 1 0 [] 0 (ME.szs []) W4) := Lib.hid ⟨⟨F, (HMS0.out.below hb4).mono (by omega), fun b hb => ⟨HF3.out b hb, fun e => by have := HFL.out b hb; omega⟩⟩, z4, bnext HB3.out hb4, HB2.out.size, by rw [← hA]; exact HK3.out⟩
  clear hb4 z4 hW4 hA
  go_upto_region 6 with fail
  go_loopw [9] (fun v9 wr => ∃ (i : Nat) (P : List En) (m : Nat), v9 = .int .i64 (i : Int) ∧ i ≤ n ∧ i ≤ 60 ∧ m ≤ i ∧ Hid (Bg w w2 A M mb root bu (i + 1) m P P.length (ME.szs P) wr)) (fun v _ => n - (intOf v).toNat)
  case atStart => exact ⟨0, [], 0, rfl, Nat.zero_le _, by omega, Nat.le_refl _, HB4⟩
  case round =>
    obtain ⟨i, P, m, rfl, hi, hi60, hmi, HBR⟩ := hrel
    by_cases hin : i < n ∧ i < 60
    · obtain ⟨hin, hi6⟩ := hin
      have hii : (i : Int) < (n : Int) := by omega
      have hii6 : (i : Int) < 60 := by omega
      have hi0 : (0 : Int) ≤ (i : Int) := by omega
      obtain ⟨z, hz⟩ : ∃ z, a1[i]? = some z := ⟨a1[i]'(by rw [HNN.out]; exact hin), List.getElem?_eq_getElem _⟩
      have hs := HA0.out.src
      rw [HNN.out] at hs
      obtain ⟨g, o, rfl, hg, k0, k1, k2⟩ := ac_at hs hz hin
      obtain ⟨zb0, zb1, zb2⟩ := HA0.out.ok z (List.mem_of_getElem? hz)
      have HZ : Hid (∀ V, Below w.heap.size w V → V.cell? ⟨g, o + i * 3, none⟩ = some (.int .u8 z.1) ∧ V.cell? ⟨g, o + i * 3 + 1, none⟩ = some (.int .u8 z.2.1) ∧ V.cell? ⟨g, o + i * 3 + 2, none⟩ = some (.int .i64 z.2.2)) := Lib.hid fun V hV => ⟨(hV.cell (p := ⟨g, o + i * 3, none⟩) hg).trans k0, (hV.cell (p := ⟨g, o + i * 3 + 1, none⟩) hg).trans k1, (hV.cell (p := ⟨g, o + i * 3 + 2, none⟩) hg).trans k2⟩
      clear hs hz hg k0 k1 k2
      obtain ⟨k0, k1, k2⟩ := HZ.out wr HBR.out.bel
      have hz9 : z.2.1.tmod 9 = z.2.1 % 9 := Int.tmod_eq_emod_of_nonneg zb1.1
      have hz6 : z.1.tmod 6 = z.1 % 6 := Int.tmod_eq_emod_of_nonneg zb0.1
      obtain ⟨kx, hkx⟩ : ∃ kx, kyE (z.2.1 % 9) = kx := ⟨_, rfl⟩
      have HKX : Hid (K4ok kx) := Lib.hid (by rw [← hkx]; exact kyE_ok _ (by omega) (by omega))
      have HKZ := Lib.hid fun V => key_any (z.2.1 % 9) V (by omega) (by omega)
      rw [hkx] at HKZ
      clear hkx
      go_upto_region 9 with (go_at_call 13; refine (HKZ.out _).mono ?_; rintro e wk ⟨rfl, kk⟩)
      clear k0 k1 k2 hz9
      have hb6 := balloc (Below.refl _ wk) (.cells #[.int .i64 kx.1, .int .i64 kx.2.1, .int .i64 kx.2.2.1, .int .i64 kx.2.2.2] 34)
      have b6 := heap_alloc_new wk (.cells #[.int .i64 kx.1, .int .i64 kx.2.1, .int .i64 kx.2.2.1, .int .i64 kx.2.2.2] 34)
      obtain ⟨Y, hY⟩ : ∃ Y, wk.heap.size = Y := ⟨_, rfl⟩
      obtain ⟨W6, hW6⟩ : ∃ W6, wk.alloc (.cells #[.int .i64 kx.1, .int .i64 kx.2.1, .int .i64 kx.2.2.1, .int .i64 kx.2.2.2] 34) = W6 := ⟨_, rfl⟩
      rw [hW6] at hb6 b6
      rw [hW6]
      rw [hY] at b6
      try rw [hY]
      have HBG := Lib.hid ((HBR.out.below kk).below hb6)
      obtain ⟨F', hms', hFF'⟩ := (HBR.out.below kk).ms
      have HYF : Hid (¬ (F' Y ∨ Y = A)) := Lib.hid fun h => by
        have h1 := (HBR.out.below kk).mz.lt
        rcases h with h | h
        · have := hms'.lt Y h; omega
        · omega
      have HMS := Lib.hid (hms'.below hb6)
      have HFF := Lib.hid hFF'
      have HAW : Hid (A < W6.heap.size) := Lib.hid HBG.out.mz.lt
      have HQ : Hid (∀ V, FrS (fun b => F' b ∨ b = A) W6 V → V.cell? ⟨Y, 0, none⟩ = some (.int .i64 kx.1) ∧ V.cell? ⟨Y, 1, none⟩ = some (.int .i64 kx.2.1) ∧ V.cell? ⟨Y, 2, none⟩ = some (.int .i64 kx.2.2.1) ∧ V.cell? ⟨Y, 3, none⟩ = some (.int .i64 kx.2.2.2) ∧ V.cell? ⟨g, o + i * 3, none⟩ = some (.int .u8 z.1) ∧ V.cell? ⟨g, o + i * 3 + 1, none⟩ = some (.int .u8 z.2.1) ∧ V.cell? ⟨g, o + i * 3 + 2, none⟩ = some (.int .i64 z.2.2)) := Lib.hid fun V hV => by
        have q := hV.nd b6 HYF.out
        obtain ⟨k0, k1, k2⟩ := HZ.out V (hV.below w HBG.out.bel (fun b hb => by
          rcases hb with hb | hb
          · exact Nat.le_trans HBG.out.g1 (HFF.out b hb).1
          · rw [hb]; exact Nat.le_trans HBG.out.g1 HBG.out.g2))
        exact ⟨nd_cell q rfl, nd_cell q rfl, nd_cell q rfl, nd_cell q rfl, k0, k1, k2⟩
      clear hb6 b6 hY hW6 kk hms' hFF'
      obtain ⟨x0, x1, x2, x3, k0, -, -⟩ := HQ.out W6 (FrS.refl _ _)
      go_upto_block 2 with fail
      clear k0
      go_cut [11, 12, 13, 14, 16, 17, 18] from 32 to 130 (fun _ _ _ _ _ _ _ wx => ∃ (P' : List En) (m' : Nat), m' ≤ i + 1 ∧ Hid (Bg w w2 A M mb root bu (i + 2) m' P' P'.length (ME.szs P') wx))
      case first =>
        by_cases h3 : z.1 % 6 = 3
        · obtain ⟨d, hd⟩ : ∃ d, (ME.szs P kx).isSome = d := ⟨_, rfl⟩
          have hl := HBG.out.mz.look2 kx HKX.out
          rw [hd] at hl
          change (Instr.lookup 30 (.map (some A)) (.agg #[.int .i64 kx.1, .int .i64 kx.2.1, .int .i64 kx.2.2.1, .int .i64 kx.2.2.2]) true).run Try.prog W6 = .ok (.tuple #[.int .i64 ((ME.szs P kx).getD 0), .bool d]) W6 at hl
          obtain ⟨zz, hzz⟩ : ∃ zz, (ME.szs P kx).getD 0 = zz := ⟨_, rfl⟩
          rw [hzz] at hl
          have hu := use_s kx HKX.out HMS.out.here
          have hu2 : (ME.use kx P).2 = d := by rw [ME.use_two, ← hd]; unfold ME.szs; rw [Option.isSome_map]
          rw [hu2] at hu
          have HU := Lib.hid hu
          have HLN := Lib.hid (ME.use_len kx HBG.out.ok)
          clear hd hzz hu hu2
          go_upto_region 23 with fail
          clear hl
          go_wp2_with fail
          go_at_call 14
          refine HU.out.mono ?_
          rintro x w7 ⟨rfl, s7⟩
          have HB7 := Lib.hid (((HBG.out.done HFF.out s7).mono (show i + 1 ≤ i + 2 by omega)).re HLN.out.symm (ME.use_szs kx P).symm)
          clear s7 x0 x1 x2 x3 HU
          have hdd : (d != d) = false := by cases d <;> rfl
          go_wp2_with fail
          go_meet
          exact ⟨_, m, by omega, HB7⟩
        · by_cases h4 : z.1 % 6 = 4
          · obtain ⟨on, hon⟩ : ∃ on, decide (z.2.2.tmod 2 = 0) = on := ⟨_, rfl⟩
            have hon2 : (z.2.2.tmod 2 == 0) = on := by rw [← hon]; rfl
            clear hon
            go_upto_region 26 with fail
            clear h3 h4 x0 x1 x2 x3
            have hdr : Below W6.heap.size W6 W6.drew := Below.drew (Below.refl _ _)
            have hdf : FrS (fun b => F' b ∨ b = A) W6 W6.drew := FrS.of hdr
            refine wp_region_held_drew (S := (fun w' => (w'.cell? ⟨Y, 0, none⟩ = some (.int .i64 kx.1) ∧ w'.cell? ⟨Y, 1, none⟩ = some (.int .i64 kx.2.1) ∧ w'.cell? ⟨Y, 2, none⟩ = some (.int .i64 kx.2.2.1) ∧ w'.cell? ⟨Y, 3, none⟩ = some (.int .i64 kx.2.2.2)) ∧ w'.cell? ⟨g, o + i * 3 + 2, none⟩ = some (.int .i64 z.2.2))) (by kernel_rfl) ?_ (fun hHeld => ?_)
            · (obtain ⟨x0, x1, x2, x3, -, -, z2⟩ := HQ.out _ (hdf); exact ⟨⟨x0, x1, x2, x3⟩, z2⟩)
            refine wpAnyH_take (i := 0) (oi := { dst := some 113, op := Op.move (Operand.tmp 7), type := 24, pos := "law.go:94", after := #[], guard := none }) (v := ?_) rfl (by kernel_rfl) (by kernel_rfl) (by kernel_rfl) (fun _ _ _ h => h) (Or.inl ⟨by rfl, ?_⟩) (by assumption) ?_
            rotate_left
            · ((intro w hSw; (try dsimp only at hSw); go_simp; (try rw [if_neg (by omega)])); try with_reducible rfl)
            (try simp only [Act.put, List.setIfInBounds_toArray, List.set_cons_zero, List.set_cons_succ])
            refine wpAnyH_take (i := 1) (oi := { dst := some 114, op := Op.load 34 (Operand.tmp 10), type := 34, pos := "law.go:94", after := #[], guard := none }) (v := ?_) rfl (by kernel_rfl) (by kernel_rfl) (by kernel_rfl) (fun _ _ _ h => h) (Or.inl ⟨by rfl, ?_⟩) (by assumption) ?_
            rotate_left
            · ((intro w hSw; (try dsimp only at hSw); go_simp; (try rw [if_neg (by omega)])); try with_reducible rfl)
            (try simp only [Act.put, List.setIfInBounds_toArray, List.set_cons_zero, List.set_cons_succ])
            refine wpAnyH_take (i := 2) (oi := { dst := some 115, op := Op.move (Operand.tmp 1), type := 22, pos := "law.go:94", after := #[], guard := none }) (v := ?_) rfl (by kernel_rfl) (by kernel_rfl) (by kernel_rfl) (fun _ _ _ h => h) (Or.inl ⟨by rfl, ?_⟩) (by assumption) ?_
            rotate_left
            · ((intro w hSw; (try dsimp only at hSw); go_simp; (try rw [if_neg (by omega)])); try with_reducible rfl)
            (try simp only [Act.put, List.setIfInBounds_toArray, List.set_cons_zero, List.set_cons_succ])
            refine wpAnyH_take (i := 3) (oi := { dst := some 116, op := Op.move (Operand.tmp 9), type := 3, pos := "law.go:94", after := #[], guard := none }) (v := ?_) rfl (by kernel_rfl) (by kernel_rfl) (by kernel_rfl) (fun _ _ _ h => h) (Or.inl ⟨by rfl, ?_⟩) (by assumption) ?_
            rotate_left
            · ((intro w hSw; (try dsimp only at hSw); go_simp; (try rw [if_neg (by omega)])); try with_reducible rfl)
            (try simp only [Act.put, List.setIfInBounds_toArray, List.set_cons_zero, List.set_cons_succ])
            refine wpAnyH_take (i := 4) (oi := { dst := some 117, op := Op.indexAddr 22 (Operand.tmp 115) (Operand.tmp 116), type := 0, pos := "law.go:94", after := #[{ on := 2, ground := Ground.data }, { on := 3, ground := Ground.data }], guard := none }) (v := ?_) rfl (by kernel_rfl) (by kernel_rfl) (by kernel_rfl) (fun _ _ _ h => h) (Or.inl ⟨by rfl, ?_⟩) (by assumption) ?_
            rotate_left
            · ((intro w hSw; (try dsimp only at hSw); go_simp; (try rw [if_neg (by omega)])); try with_reducible rfl)
            (try simp only [Act.put, List.setIfInBounds_toArray, List.set_cons_zero, List.set_cons_succ])
            refine wpAnyH_take (i := 5) (oi := { dst := some 118, op := Op.fieldAddr 37 (Operand.tmp 117) 2, type := 0, pos := "law.go:94", after := #[{ on := 4, ground := Ground.data }], guard := none }) (v := ?_) rfl (by kernel_rfl) (by kernel_rfl) (by kernel_rfl) (fun _ _ _ h => h) (Or.inl ⟨by rfl, ?_⟩) (by assumption) ?_
            rotate_left
            · ((intro w hSw; (try dsimp only at hSw); go_simp; (try rw [if_neg (by omega)])); try with_reducible rfl)
            (try simp only [Act.put, List.setIfInBounds_toArray, List.set_cons_zero, List.set_cons_succ])
            refine wpAnyH_take (i := 6) (oi := { dst := some 119, op := Op.load 3 (Operand.tmp 118), type := 3, pos := "law.go:94", after := #[{ on := 5, ground := Ground.data }], guard := none }) (v := ?_) rfl (by kernel_rfl) (by kernel_rfl) (by kernel_rfl) (fun _ _ _ h => h) (Or.inl ⟨by rfl, ?_⟩) (by assumption) ?_
            rotate_left
            · ((intro w hSw; (try dsimp only at hSw); go_simp; (try rw [if_neg (by omega)])); try with_reducible rfl)
            (try simp only [Act.put, List.setIfInBounds_toArray, List.set_cons_zero, List.set_cons_succ])
            refine wpAnyH_take (i := 7) (oi := { dst := some 120, op := Op.binOp BinOp.rem 3 (Operand.tmp 119) (Operand.const (Value.int IntKind.i64 2)) 3, type := 3, pos := "law.go:94", after := #[{ on := 6, ground := Ground.data }], guard := none }) (v := ?_) rfl (by kernel_rfl) (by kernel_rfl) (by kernel_rfl) (fun _ _ _ h => h) (Or.inl ⟨by rfl, ?_⟩) (by assumption) ?_
            rotate_left
            · ((intro w hSw; (try dsimp only at hSw); go_simp; (try rw [if_neg (by omega)])); try with_reducible rfl)
            (try simp only [Act.put, List.setIfInBounds_toArray, List.set_cons_zero, List.set_cons_succ])
            refine wpAnyH_take (i := 8) (oi := { dst := some 121, op := Op.binOp BinOp.eql 3 (Operand.tmp 120) (Operand.const (Value.int IntKind.i64 0)) 3, type := 4, pos := "law.go:94", after := #[{ on := 7, ground := Ground.data }], guard := none }) (v := ?_) rfl (by kernel_rfl) (by kernel_rfl) (by kernel_rfl) (fun _ _ _ h => h) (Or.inl ⟨by rfl, ?_⟩) (by assumption) ?_
            rotate_left
            · ((intro w hSw; (try dsimp only at hSw); go_simp; (try rw [if_neg (by omega)])); try with_reducible rfl)
            (try simp only [Act.put, List.setIfInBounds_toArray, List.set_cons_zero, List.set_cons_succ])
            refine wpAnyH_ready (rs := [9]) (by kernel_rfl) (by simp) ?_
            refine AllReadyH.cons (o := { dst := some 122, op := Op.call { callee := Callee.value (Operand.func 15), args := #[Operand.tmp 113, Operand.tmp 114, Operand.tmp 121], argTypes := #[24, 34, 4] }, type := 40, pos := "law.go:94", after := #[{ on := 0, ground := Ground.data }, { on := 1, ground := Ground.data }, { on := 8, ground := Ground.data }], guard := none }) rfl (fun K hK => ?_) ?_
            · (go_simp; go_at_call 15; refine (pin_s kx on HKX.out (HMS.out.below hdr).here).mono ?_; rintro x w7 ⟨rfl, s7⟩; dsimp only)
              refine hK.out _ _ ?_ (fun hHeld => ?_)
              · (obtain ⟨x0, x1, x2, x3, -, -, z2⟩ := HQ.out _ (FrS.trans hdf (s7.1.mono (fun b hb => .inl hb))); exact ⟨⟨x0, x1, x2, x3⟩, z2⟩)
              clear hK K
              (try simp only [Act.put, List.setIfInBounds_toArray, List.set_cons_zero, List.set_cons_succ])
              refine wpAnyH_done (by kernel_rfl) ?_ _
              have HB7 := Lib.hid ((((HBG.out.below hdr).done HFF.out s7).mono (show i + 1 ≤ i + 2 by omega)).re (ME.pin_len kx on P).symm (ME.pin_szs kx on P).symm)
              clear s7 hdr hdf
              go_wp2_with fail
              go_meet
              exact ⟨_, m, by omega, HB7⟩
            exact AllReadyH.nil
          · by_cases h5 : z.1 % 6 = 5
            · have hds := ME.drop_szs HBG.out.ok.keys kx
              obtain ⟨DD, hDD⟩ : ∃ DD, ME.drop kx P = DD := ⟨_, rfl⟩
              have hdr := drop_s kx HKX.out HMS.out.here
              rw [hDD] at hds hdr
              obtain ⟨er, her⟩ : ∃ er, DD.2 = er := ⟨_, rfl⟩
              rw [her] at hds hdr
              have HDR := Lib.hid hdr
              clear hDD her hdr
              go_upto_region 28 with fail
              clear h3 h4 h5
              rcases hds with ⟨rfl, hs1, hs2, hs3⟩ | ⟨⟨er', her', hne⟩, hs2⟩
              · go_wp2_with fail
                go_at_call 16
                refine HDR.out.mono ?_
                rintro x w7 ⟨rfl, s7⟩
                clear x0 x1 x2 x3
                obtain ⟨x0, x1, x2, x3, -⟩ := HQ.out w7 (s7.1.mono (fun b hb => .inl hb))
                have hb7 := (HBG.out.done HFF.out s7).mono (show i + 1 ≤ i + 2 by omega)
                obtain ⟨w8, hrun, hz8, ht8⟩ := hb7.mz.del kx HKX.out 0
                change (Builtin.delete_ #[30, 34] 0 #[.map (some A), (.agg #[.int .i64 kx.1, .int .i64 kx.2.1, .int .i64 kx.2.2.1, .int .i64 kx.2.2.2])]).run Try.prog w7 = .ok (.tuple #[]) w8 at hrun
                have HB8 := Lib.hid ((hb7.turned hz8 ht8).re (c' := DD.1.length) (f' := ME.szs DD.1) (by rw [if_pos hs1, hs3]) (funext fun y => (hs2 y).symm))
                clear s7 hs1 hs2 hs3 hb7 hz8 ht8
                go_wp2_with fail
                go_meet
                exact ⟨_, m, by omega, HB8⟩
              · rw [← her'] at hne
                have hne' : (er == 0) = false := by simpa using hne
                clear her'
                go_wp2_with fail
                go_at_call 16
                refine HDR.out.mono ?_
                rintro x w7 ⟨rfl, s7⟩
                clear x0 x1 x2 x3
                have HB7 := Lib.hid (((HBG.out.done HFF.out s7).mono (show i + 1 ≤ i + 2 by omega)).re (congrArg List.length hs2).symm (congrArg ME.szs hs2).symm)
                clear s7 hs2 hne
                go_wp2_with fail
                go_meet
                exact ⟨_, m, by omega, HB7⟩
            · obtain ⟨PP, hPP⟩ : ∃ PP, ME.put bu kx z.2.2 P = PP := ⟨_, rfl⟩
              have hdr : Below W6.heap.size W6 W6.drew := Below.drew (Below.refl _ _)
              have hdf : FrS (fun b => F' b ∨ b = A) W6 W6.drew := FrS.of hdr
              have HPU := Lib.hid (put_s kx z.2.2 HKX.out (HMS.out.below hdr).here (by omega))
              rw [hPP] at HPU
              have HPP := Lib.hid hPP
              obtain ⟨p, hp⟩ : ∃ p, PP.2.1.length = p := ⟨_, rfl⟩
              obtain ⟨er, her⟩ : ∃ er, PP.2.2 = er := ⟨_, rfl⟩
              rw [hp, her] at HPU
              have HPM := Lib.hid hp
              have hpb : p ≤ 61 := by have h1 := (ME.put_len bu kx z.2.2 P).2; rw [HPP.out, hp] at h1; have := HBG.out.l1; omega
              have HER := Lib.hid her
              clear hPP hp her
              go_upto_region 10 with fail
              clear h3 h4 h5 x0 x1 x2 x3
              refine wp_region_held_drew (S := (fun w' => (w'.cell? ⟨Y, 0, none⟩ = some (.int .i64 kx.1) ∧ w'.cell? ⟨Y, 1, none⟩ = some (.int .i64 kx.2.1) ∧ w'.cell? ⟨Y, 2, none⟩ = some (.int .i64 kx.2.2.1) ∧ w'.cell? ⟨Y, 3, none⟩ = some (.int .i64 kx.2.2.2)) ∧ w'.cell? ⟨g, o + i * 3 + 2, none⟩ = some (.int .i64 z.2.2))) (by kernel_rfl) ?_ (fun hHeld => ?_)
              · (obtain ⟨x0, x1, x2, x3, -, -, z2⟩ := HQ.out _ (hdf); exact ⟨⟨x0, x1, x2, x3⟩, z2⟩)
              refine wpAnyH_take (i := 0) (oi := { dst := some 57, op := Op.move (Operand.tmp 7), type := 24, pos := "law.go:100", after := #[], guard := none }) (v := ?_) rfl (by kernel_rfl) (by kernel_rfl) (by kernel_rfl) (fun _ _ _ h => h) (Or.inl ⟨by rfl, ?_⟩) (by assumption) ?_
              rotate_left
              · ((intro w hSw; (try dsimp only at hSw); go_simp; (try rw [if_neg (by omega)])); try with_reducible rfl)
              (try simp only [Act.put, List.setIfInBounds_toArray, List.set_cons_zero, List.set_cons_succ])
              refine wpAnyH_take (i := 1) (oi := { dst := some 58, op := Op.load 34 (Operand.tmp 10), type := 34, pos := "law.go:100", after := #[], guard := none }) (v := ?_) rfl (by kernel_rfl) (by kernel_rfl) (by kernel_rfl) (fun _ _ _ h => h) (Or.inl ⟨by rfl, ?_⟩) (by assumption) ?_
              rotate_left
              · ((intro w hSw; (try dsimp only at hSw); go_simp; (try rw [if_neg (by omega)])); try with_reducible rfl)
              (try simp only [Act.put, List.setIfInBounds_toArray, List.set_cons_zero, List.set_cons_succ])
              refine wpAnyH_take (i := 2) (oi := { dst := some 59, op := Op.move (Operand.tmp 1), type := 22, pos := "law.go:100", after := #[], guard := none }) (v := ?_) rfl (by kernel_rfl) (by kernel_rfl) (by kernel_rfl) (fun _ _ _ h => h) (Or.inl ⟨by rfl, ?_⟩) (by assumption) ?_
              rotate_left
              · ((intro w hSw; (try dsimp only at hSw); go_simp; (try rw [if_neg (by omega)])); try with_reducible rfl)
              (try simp only [Act.put, List.setIfInBounds_toArray, List.set_cons_zero, List.set_cons_succ])
              refine wpAnyH_take (i := 3) (oi := { dst := some 60, op := Op.move (Operand.tmp 9), type := 3, pos := "law.go:100", after := #[], guard := none }) (v := ?_) rfl (by kernel_rfl) (by kernel_rfl) (by kernel_rfl) (fun _ _ _ h => h) (Or.inl ⟨by rfl, ?_⟩) (by assumption) ?_
              rotate_left
              · ((intro w hSw; (try dsimp only at hSw); go_simp; (try rw [if_neg (by omega)])); try with_reducible rfl)
              (try simp only [Act.put, List.setIfInBounds_toArray, List.set_cons_zero, List.set_cons_succ])
              refine wpAnyH_take (i := 4) (oi := { dst := some 61, op := Op.indexAddr 22 (Operand.tmp 59) (Operand.tmp 60), type := 0, pos := "law.go:100", after := #[{ on := 2, ground := Ground.data }, { on := 3, ground := Ground.data }], guard := none }) (v := ?_) rfl (by kernel_rfl) (by kernel_rfl) (by kernel_rfl) (fun _ _ _ h => h) (Or.inl ⟨by rfl, ?_⟩) (by assumption) ?_
              rotate_left
              · ((intro w hSw; (try dsimp only at hSw); go_simp; (try rw [if_neg (by omega)])); try with_reducible rfl)
              (try simp only [Act.put, List.setIfInBounds_toArray, List.set_cons_zero, List.set_cons_succ])
              refine wpAnyH_take (i := 5) (oi := { dst := some 62, op := Op.fieldAddr 37 (Operand.tmp 61) 2, type := 0, pos := "law.go:100", after := #[{ on := 4, ground := Ground.data }], guard := none }) (v := ?_) rfl (by kernel_rfl) (by kernel_rfl) (by kernel_rfl) (fun _ _ _ h => h) (Or.inl ⟨by rfl, ?_⟩) (by assumption) ?_
              rotate_left
              · ((intro w hSw; (try dsimp only at hSw); go_simp; (try rw [if_neg (by omega)])); try with_reducible rfl)
              (try simp only [Act.put, List.setIfInBounds_toArray, List.set_cons_zero, List.set_cons_succ])
              refine wpAnyH_take (i := 6) (oi := { dst := some 63, op := Op.load 3 (Operand.tmp 62), type := 3, pos := "law.go:100", after := #[{ on := 5, ground := Ground.data }], guard := none }) (v := ?_) rfl (by kernel_rfl) (by kernel_rfl) (by kernel_rfl) (fun _ _ _ h => h) (Or.inl ⟨by rfl, ?_⟩) (by assumption) ?_
              rotate_left
              · ((intro w hSw; (try dsimp only at hSw); go_simp; (try rw [if_neg (by omega)])); try with_reducible rfl)
              (try simp only [Act.put, List.setIfInBounds_toArray, List.set_cons_zero, List.set_cons_succ])
              refine wpAnyH_ready (rs := [7]) (by kernel_rfl) (by simp) ?_
              refine AllReadyH.cons (o := { dst := some 64, op := Op.call { callee := Callee.value (Operand.func 17), args := #[Operand.tmp 57, Operand.tmp 58, Operand.tmp 63], argTypes := #[24, 34, 3] }, type := 44, pos := "law.go:100", after := #[{ on := 0, ground := Ground.data }, { on := 1, ground := Ground.data }, { on := 6, ground := Ground.data }], guard := none }) rfl (fun K hK => ?_) ?_
              · (go_simp; go_at_call 17; refine HPU.out.mono ?_; rintro x w7 ⟨v7, rfl, row7, s7⟩; obtain ⟨ga, gc, rfl⟩ := own_shape row7; dsimp only)
                refine hK.out _ _ ?_ (fun hHeld => ?_)
                · (obtain ⟨x0, x1, x2, x3, -, -, z2⟩ := HQ.out _ (FrS.trans hdf (s7.1.mono (fun b hb => .inl hb))); exact ⟨⟨x0, x1, x2, x3⟩, z2⟩)
                clear hK K
                (try simp only [Act.put, List.setIfInBounds_toArray, List.set_cons_zero, List.set_cons_succ])
                refine wpAnyH_take (i := 8) (oi := { dst := some 56, op := Op.move (Operand.tmp 64), type := 44, pos := "law.go:100", after := #[{ on := 7, ground := Ground.data }], guard := none }) (v := ?_) rfl (by kernel_rfl) (by kernel_rfl) (by kernel_rfl) (fun _ _ _ h => h) (Or.inl ⟨by rfl, ?_⟩) (by assumption) ?_
                rotate_left
                · ((intro w hSw; (try dsimp only at hSw); go_simp; (try rw [if_neg (by omega)])); try with_reducible rfl)
                (try simp only [Act.put, List.setIfInBounds_toArray, List.set_cons_zero, List.set_cons_succ])
                refine wpAnyH_take (i := 9) (oi := { dst := some 65, op := Op.extract (Operand.tmp 56) 0, type := 43, pos := "law.go:100", after := #[{ on := 8, ground := Ground.data }], guard := none }) (v := ?_) rfl (by kernel_rfl) (by kernel_rfl) (by kernel_rfl) (fun _ _ _ h => h) (Or.inl ⟨by rfl, ?_⟩) (by assumption) ?_
                rotate_left
                · ((intro w hSw; (try dsimp only at hSw); go_simp; (try rw [if_neg (by omega)])); try with_reducible rfl)
                (try simp only [Act.put, List.setIfInBounds_toArray, List.set_cons_zero, List.set_cons_succ])
                refine wpAnyH_take (i := 10) (oi := { dst := some 66, op := Op.extract (Operand.tmp 56) 1, type := 40, pos := "law.go:100", after := #[{ on := 8, ground := Ground.data }, { on := 11, ground := Ground.gcOnly Departure.lateStores }], guard := none }) (v := ?_) rfl (by kernel_rfl) (by kernel_rfl) (by kernel_rfl) (fun _ _ _ h => h) (Or.inl ⟨by rfl, ?_⟩) (by assumption) ?_
                rotate_left
                · ((intro w hSw; (try dsimp only at hSw); go_simp; (try rw [if_neg (by omega)])); try with_reducible rfl)
                (try simp only [Act.put, List.setIfInBounds_toArray, List.set_cons_zero, List.set_cons_succ])
                refine wpAnyH_take (i := 11) (oi := { dst := some 13, op := Op.assign (Operand.tmp 65), type := 43, pos := "law.go:100", after := #[{ on := 9, ground := Ground.data }, { on := 7, ground := Ground.chain }, { on := 0, ground := Ground.phase }, { on := 1, ground := Ground.phase }, { on := 2, ground := Ground.phase }, { on := 3, ground := Ground.phase }, { on := 4, ground := Ground.phase }, { on := 5, ground := Ground.phase }, { on := 6, ground := Ground.phase }, { on := 7, ground := Ground.phase }, { on := 8, ground := Ground.phase }, { on := 9, ground := Ground.phase }, { on := 10, ground := Ground.textOnly Departure.lateStores }], guard := none }) (v := ?_) rfl (by kernel_rfl) (by kernel_rfl) (by kernel_rfl) (fun _ _ _ h => h) (Or.inl ⟨by rfl, ?_⟩) (by assumption) ?_
                rotate_left
                · ((intro w hSw; (try dsimp only at hSw); go_simp; (try rw [if_neg (by omega)])); try with_reducible rfl)
                (try simp only [Act.put, List.setIfInBounds_toArray, List.set_cons_zero, List.set_cons_succ])
                refine wpAnyH_take (i := 12) (oi := { dst := some 14, op := Op.assign (Operand.tmp 66), type := 40, pos := "law.go:100", after := #[{ on := 10, ground := Ground.data }, { on := 11, ground := Ground.chain }, { on := 0, ground := Ground.phase }, { on := 1, ground := Ground.phase }, { on := 2, ground := Ground.phase }, { on := 3, ground := Ground.phase }, { on := 4, ground := Ground.phase }, { on := 5, ground := Ground.phase }, { on := 6, ground := Ground.phase }, { on := 7, ground := Ground.phase }, { on := 8, ground := Ground.phase }, { on := 9, ground := Ground.phase }, { on := 10, ground := Ground.phase }, { on := 11, ground := Ground.phase }], guard := none }) (v := ?_) rfl (by kernel_rfl) (by kernel_rfl) (by kernel_rfl) (fun _ _ _ h => h) (Or.inl ⟨by rfl, ?_⟩) (by assumption) ?_
                rotate_left
                · ((intro w hSw; (try dsimp only at hSw); go_simp; (try rw [if_neg (by omega)])); try with_reducible rfl)
                (try simp only [Act.put, List.setIfInBounds_toArray, List.set_cons_zero, List.set_cons_succ])
                refine wpAnyH_done (by kernel_rfl) ?_ _
                have HR7 := Lib.hid row7
                have HF7 : Hid (FrS (fun b => F' b ∨ b = A) W6 w7) := Lib.hid (FrS.trans hdf (s7.1.mono (fun b hb => .inl hb)))
                have HB7 := Lib.hid (((HBG.out.below hdr).done HFF.out s7).mono (show i + 1 + 1 ≤ i + 2 by omega))
                clear row7 s7 hdf hdr HPU
                go_upto_region 11 with fail
                rcases ME.put_three bu z.2.2 kx P with ⟨er', hp, hne⟩ | ⟨Q, gs, hp⟩
                · obtain rfl : PP = (P, [], er') := HPP.out.symm.trans hp
                  have her2 : er = er' := HER.out.symm
                  subst her2
                  have hne' : (er == 0) = false := by simpa using hne
                  have HPL : Hid (([] : List K4).length = p) := HPM
                  obtain ⟨c1, hc1⟩ : ∃ c1, P.length = c1 := ⟨_, rfl⟩
                  obtain ⟨f1, hf1⟩ : ∃ f1, ME.szs P = f1 := ⟨_, rfl⟩
                  have HCC : Hid (P.length + ([] : List K4).length = c1) := Lib.hid hc1
                  have HGF : Hid (ME.gon f1 [] = ME.szs P) := Lib.hid (by rw [ME.gon_nil, hf1])
                  have HGO : Hid (∀ y ∈ ([] : List K4), y ≠ kx ∧ (f1 y).isSome = true) := Lib.hid (fun y h => by cases h)
                  have HGK : Hid (∀ y ∈ ([] : List K4), K4ok y) := Lib.hid (fun y h => by cases h)
                  have HND : Hid (([] : List K4).Nodup) := Lib.hid (by simp)
                  have HB8 := HB7
                  rw [hc1, hf1] at HB8
                  have HF8 := HF7
                  clear hc1 hf1 hne hp
                  have HR8 : Hid (w7.ownsRow W6.heap.size 34 4 (.slice ga p gc) p (ME.kc [])) := Lib.hid (HR7.out)
                  have HQ8 : Hid (∀ V, FrS (fun b => b = A) w7 V → V.cell? ⟨Y, 0, none⟩ = some (.int .i64 kx.1) ∧ V.cell? ⟨Y, 1, none⟩ = some (.int .i64 kx.2.1) ∧ V.cell? ⟨Y, 2, none⟩ = some (.int .i64 kx.2.2.1) ∧ V.cell? ⟨Y, 3, none⟩ = some (.int .i64 kx.2.2.2)) := Lib.hid fun V hV => by
                    obtain ⟨x0, x1, x2, x3, -⟩ := HQ.out V (HF8.out.trans (hV.mono (fun b hb => .inr hb)))
                    exact ⟨x0, x1, x2, x3⟩
                  go_upto_region 13 with fail
                  go_upto_region 14 with fail
                  go_loopw [78] (fun v78 wr => ∃ j : Nat, v78 = .int .i64 (j : Int) ∧ j ≤ p ∧ Hid (Bg w w2 A M mb root bu (i + 2) m P (c1 - j) (ME.gon f1 (([] : List K4).take j)) wr) ∧ Hid (FrS (fun b => b = A) w7 wr)) (fun v _ => p - (intOf v).toNat)
                  case atStart => exact ⟨0, rfl, Nat.zero_le _, Lib.hid (HB8.out.re rfl (by rw [List.take_zero, ME.gon_nil])), Lib.hid (FrS.refl _ _)⟩
                  case round =>
                    obtain ⟨j, rfl, hj, HJ, HFJ⟩ := hrel
                    by_cases hjm : j < p
                    · have hjj : (j : Int) < (p : Int) := by omega
                      have hj0 : (0 : Int) ≤ (j : Int) := by omega
                      obtain ⟨y, hy⟩ : ∃ y, ([] : List K4)[j]? = some y := ⟨([] : List K4)[j]'(by rw [HPL.out]; exact hjm), List.getElem?_eq_getElem _⟩
                      have hyk := HGO.out y (List.mem_of_getElem? hy)
                      have heq : ∀ w, (binOp .eql 34 (.agg #[.int .i64 y.1, .int .i64 y.2.1, .int .i64 y.2.2.1, .int .i64 y.2.2.2]) (.agg #[.int .i64 kx.1, .int .i64 kx.2.1, .int .i64 kx.2.2.1, .int .i64 kx.2.2.2])).run Try.prog w = .ok (.bool false) w := fun w => by have h := eq_ow w y kx; rw [decide_eq_false hyk.1] at h; exact h
                      have hsome : (ME.gon f1 (([] : List K4).take j) y).isSome = true := by
                        unfold ME.gon
                        rw [if_neg (fun hm => by
                          obtain ⟨q, hq, e⟩ := List.mem_take_iff_getElem.1 hm
                          have h1 : ([] : List K4)[q]? = some y := by rw [← e]; exact List.getElem?_eq_getElem _
                          have := (List.getElem?_inj (List.getElem?_eq_some_iff.1 hy).1 HND.out).1 (hy.trans h1.symm)
                          omega)]
                        exact hyk.2
                      have HSO := Lib.hid hsome
                      have HYO : Hid (K4ok y) := Lib.hid (HGK.out y (List.mem_of_getElem? hy))
                      have HYJ := Lib.hid hy
                      obtain ⟨gg, oo, rfl, q0, q1, q2, q3⟩ := ky_at (own_srcN (HFJ.out.own HR8.out (fun q e x => by have h1 := (HR8.out.lt q e).1; have h2 := HAW.out; omega))) hy hjm
                      clear hy hyk hsome
                      go_upto_region 16 with fail
                      clear q0 q1 q2 q3
                      have hb9 := balloc (Below.refl _ wr) (.cells #[.int .i64 y.1, .int .i64 y.2.1, .int .i64 y.2.2.1, .int .i64 y.2.2.2] 34)
                      have b9 := heap_alloc_new wr (.cells #[.int .i64 y.1, .int .i64 y.2.1, .int .i64 y.2.2.1, .int .i64 y.2.2.2] 34)
                      obtain ⟨Y9, hY9⟩ : ∃ Y9, wr.heap.size = Y9 := ⟨_, rfl⟩
                      obtain ⟨W9, hW9⟩ : ∃ W9, wr.alloc (.cells #[.int .i64 y.1, .int .i64 y.2.1, .int .i64 y.2.2.1, .int .i64 y.2.2.2] 34) = W9 := ⟨_, rfl⟩
                      rw [hW9] at hb9 b9
                      rw [hW9]
                      rw [hY9] at b9
                      try rw [hY9]
                      have HJ9 := Lib.hid (HJ.out.below hb9)
                      have HFJ9 := Lib.hid (HFJ.out.then hb9)
                      obtain ⟨x0, x1, x2, x3⟩ := HQ8.out W9 HFJ9.out
                      have p0 : W9.cell? ⟨Y9, 0, none⟩ = some (.int .i64 y.1) := nd_cell b9 rfl
                      have p1 : W9.cell? ⟨Y9, 1, none⟩ = some (.int .i64 y.2.1) := nd_cell b9 rfl
                      have p2 : W9.cell? ⟨Y9, 2, none⟩ = some (.int .i64 y.2.2.1) := nd_cell b9 rfl
                      have p3 : W9.cell? ⟨Y9, 3, none⟩ = some (.int .i64 y.2.2.2) := nd_cell b9 rfl
                      have HYA : Hid (Y9 ≠ A) := Lib.hid (by have h1 := HJ.out.mz.lt; omega)
                      have HY9 := Lib.hid b9
                      clear hb9 b9 hY9 hW9
                      have hl := HJ9.out.mz.look2 y HYO.out
                      rw [HSO.out] at hl
                      obtain ⟨zz, hzz⟩ : ∃ zz, (ME.gon f1 (([] : List K4).take j) y).getD 0 = zz := ⟨_, rfl⟩
                      rw [hzz] at hl
                      change (Instr.lookup 30 (.map (some A)) (.agg #[.int .i64 y.1, .int .i64 y.2.1, .int .i64 y.2.2.1, .int .i64 y.2.2.2]) true).run Try.prog W9 = .ok (.tuple #[.int .i64 zz, .bool true]) W9 at hl
                      clear hzz
                      obtain ⟨W10, hrun, hz10, ht10⟩ := HJ9.out.mz.del y HYO.out 0
                      change (Builtin.delete_ #[30, 34] 0 #[.map (some A), (.agg #[.int .i64 y.1, .int .i64 y.2.1, .int .i64 y.2.2.1, .int .i64 y.2.2.2])]).run Try.prog W9 = .ok (.tuple #[]) W10 at hrun
                      have HJ10 : Hid (Bg w w2 A M mb root bu (i + 2) m P (c1 - (j + 1)) (ME.gon f1 (([] : List K4).take (j + 1))) W10) := Lib.hid ((HJ9.out.turned hz10 ht10).re (by rw [if_pos HSO.out]; omega) (by rw [ME.gon_next, List.take_add_one, HYJ.out]; rfl))
                      have HFJ10 : Hid (FrS (fun b => b = A) w7 W10) := Lib.hid (HFJ9.out.trans (FrS.turned ht10 rfl))
                      clear hz10 ht10
                      go_wp2
                      go_roundw
                      case rel => exact ⟨j + 1, by go_num, hjm, HJ10, HFJ10⟩
                      case measure => simp [intOf]; omega
                    · have hjj : ¬ (j : Int) < (p : Int) := by omega
                      have HEN : Hid (Bg w w2 A M mb root bu (i + 2) m P P.length (ME.szs P) wr) := Lib.hid (by
                        have hjp : j = p := by omega
                        have h := HJ.out
                        rw [hjp, List.take_of_length_le (Nat.le_of_eq HPL.out), HGF.out] at h
                        exact h.re (by have := HCC.out; have := HPL.out; omega) rfl)
                      clear hjm hj
                      go_wp2_with fail
                      go_meet
                      exact ⟨_, m, by omega, HEN⟩
                · obtain rfl : PP = (Q, gs, 0) := HPP.out.symm.trans hp
                  obtain rfl : er = 0 := HER.out.symm
                  obtain ⟨hg1, hg2, hg3, hg4⟩ := ME.put_szs HBG.out.ok.keys hp
                  have HPL : Hid (gs.length = p) := HPM
                  have HND := Lib.hid hg3
                  have hbd := Below.drew (Below.refl w7.heap.size w7)
                  obtain ⟨W7, hW7⟩ : ∃ W7, w7.drew = W7 := ⟨_, rfl⟩
                  rw [hW7] at hbd
                  have HW7 := Lib.hid hW7
                  have hb7 := HB7.out.below hbd
                  have hf7 := HF7.out.then hbd
                  obtain ⟨w8, hr1, hz8, ht8⟩ := hb7.mz.put kx HKX.out (by omega) z.2.2
                  change (Instr.mapUpdate _ _ (.agg #[.int .i64 kx.1, .int .i64 kx.2.1, .int .i64 kx.2.2.1, .int .i64 kx.2.2.2]) _).run _ _ = _ at hr1
                  have hb8 := hb7.turned hz8 ht8
                  have hf8 := hf7.trans (FrS.turned ht8 (.inr rfl))
                  obtain ⟨c1, hc1⟩ : ∃ c1, (if (ME.szs P kx).isSome then P.length else P.length + 1) = c1 := ⟨_, rfl⟩
                  obtain ⟨f1, hf1⟩ : ∃ f1, (fun y => if y = kx then some z.2.2 else ME.szs P y) = f1 := ⟨_, rfl⟩
                  rw [hc1, hf1] at hb8
                  rw [hc1] at hg2
                  rw [hf1] at hg1
                  have HCC := Lib.hid hg2
                  have HGF := Lib.hid hg1
                  have HGO : Hid (∀ y ∈ gs, y ≠ kx ∧ (f1 y).isSome = true) := Lib.hid (fun y h => ⟨(hg4 y h).1, by rw [← hf1]; show (if y = kx then some z.2.2 else ME.szs P y).isSome = true; rw [if_neg (hg4 y h).1]; exact (hg4 y h).2⟩)
                  have HGK : Hid (∀ y ∈ gs, K4ok y) := Lib.hid (fun y h => by
                    have h1 := (hg4 y h).2
                    unfold ME.szs at h1
                    rw [Option.isSome_map] at h1
                    obtain ⟨e, he⟩ := Option.isSome_iff_exists.1 h1
                    have hk : e.key = y := by simpa using List.find?_some he
                    rw [← hk]
                    exact HBG.out.ok.ok e (ME.fnd_mem he))
                  have HB8 := Lib.hid hb8
                  have HF8 := Lib.hid hf8
                  have HF7d := Lib.hid hf7
                  have HR1 := Lib.hid hr1
                  have hrow := FrS.own (S := fun b => b = A) (FrS.turned ht8 rfl) (own_below HR7.out hbd) (fun q e x => by have h1 : W6.heap.size ≤ q := (HR7.out.lt q e).1; have h2 := HAW.out; omega)
                  have HR8 : Hid (w8.ownsRow W6.heap.size 34 4 (.slice ga p gc) p (ME.kc gs)) := Lib.hid (hrow)
                  have HQ8 : Hid (∀ V, FrS (fun b => b = A) w8 V → V.cell? ⟨Y, 0, none⟩ = some (.int .i64 kx.1) ∧ V.cell? ⟨Y, 1, none⟩ = some (.int .i64 kx.2.1) ∧ V.cell? ⟨Y, 2, none⟩ = some (.int .i64 kx.2.2.1) ∧ V.cell? ⟨Y, 3, none⟩ = some (.int .i64 kx.2.2.2)) := Lib.hid fun V hV => by
                    obtain ⟨x0, x1, x2, x3, -⟩ := HQ.out V (HF8.out.trans (hV.mono (fun b hb => .inr hb)))
                    exact ⟨x0, x1, x2, x3⟩
                  have HS12 : Hid ((fun w' => (w'.cell? ⟨Y, 0, none⟩ = some (.int .i64 kx.1) ∧ w'.cell? ⟨Y, 1, none⟩ = some (.int .i64 kx.2.1) ∧ w'.cell? ⟨Y, 2, none⟩ = some (.int .i64 kx.2.2.1) ∧ w'.cell? ⟨Y, 3, none⟩ = some (.int .i64 kx.2.2.2)) ∧ w'.cell? ⟨g, o + i * 3 + 2, none⟩ = some (.int .i64 z.2.2)) W7) := Lib.hid (by
                    obtain ⟨x0, x1, x2, x3, -, -, z2⟩ := HQ.out _ HF7d.out
                    exact ⟨⟨x0, x1, x2, x3⟩, z2⟩)
                  have HS13 : Hid ((fun w' => (w'.cell? ⟨Y, 0, none⟩ = some (.int .i64 kx.1) ∧ w'.cell? ⟨Y, 1, none⟩ = some (.int .i64 kx.2.1) ∧ w'.cell? ⟨Y, 2, none⟩ = some (.int .i64 kx.2.2.1) ∧ w'.cell? ⟨Y, 3, none⟩ = some (.int .i64 kx.2.2.2)) ∧ w'.cell? ⟨g, o + i * 3 + 2, none⟩ = some (.int .i64 z.2.2)) w8) := Lib.hid (by
                    obtain ⟨x0, x1, x2, x3, -, -, z2⟩ := HQ.out _ HF8.out
                    exact ⟨⟨x0, x1, x2, x3⟩, z2⟩)
                  clear hg1 hg2 hg3 hg4 hbd hW7 hb7 hf7 hr1 hz8 ht8 hb8 hf8 hc1 hf1 hrow hp
                  go_upto_region 12 with fail
                  refine wp_region_held_drew (S := (fun w' => (w'.cell? ⟨Y, 0, none⟩ = some (.int .i64 kx.1) ∧ w'.cell? ⟨Y, 1, none⟩ = some (.int .i64 kx.2.1) ∧ w'.cell? ⟨Y, 2, none⟩ = some (.int .i64 kx.2.2.1) ∧ w'.cell? ⟨Y, 3, none⟩ = some (.int .i64 kx.2.2.2)) ∧ w'.cell? ⟨g, o + i * 3 + 2, none⟩ = some (.int .i64 z.2.2))) (by kernel_rfl) ?_ (fun hHeld => ?_)
                  · (rw [HW7.out]; exact HS12.out)
                  rw [HW7.out] at hHeld ⊢
                  refine wpAnyH_take (i := 0) (oi := { dst := some 69, op := Op.move (Operand.tmp 8), type := 30, pos := "law.go:102", after := #[], guard := none }) (v := ?_) rfl (by kernel_rfl) (by kernel_rfl) (by kernel_rfl) (fun _ _ _ h => h) (Or.inl ⟨by rfl, ?_⟩) (by assumption) ?_
                  rotate_left
                  · ((intro w hSw; (try dsimp only at hSw); go_simp; (try rw [if_neg (by omega)])); try with_reducible rfl)
                  (try simp only [Act.put, List.setIfInBounds_toArray, List.set_cons_zero, List.set_cons_succ])
                  refine wpAnyH_take (i := 1) (oi := { dst := some 70, op := Op.load 34 (Operand.tmp 10), type := 34, pos := "law.go:102", after := #[], guard := none }) (v := ?_) rfl (by kernel_rfl) (by kernel_rfl) (by kernel_rfl) (fun _ _ _ h => h) (Or.inl ⟨by rfl, ?_⟩) (by assumption) ?_
                  rotate_left
                  · ((intro w hSw; (try dsimp only at hSw); go_simp; (try rw [if_neg (by omega)])); try with_reducible rfl)
                  (try simp only [Act.put, List.setIfInBounds_toArray, List.set_cons_zero, List.set_cons_succ])
                  refine wpAnyH_take (i := 2) (oi := { dst := some 71, op := Op.move (Operand.tmp 1), type := 22, pos := "law.go:102", after := #[], guard := none }) (v := ?_) rfl (by kernel_rfl) (by kernel_rfl) (by kernel_rfl) (fun _ _ _ h => h) (Or.inl ⟨by rfl, ?_⟩) (by assumption) ?_
                  rotate_left
                  · ((intro w hSw; (try dsimp only at hSw); go_simp; (try rw [if_neg (by omega)])); try with_reducible rfl)
                  (try simp only [Act.put, List.setIfInBounds_toArray, List.set_cons_zero, List.set_cons_succ])
                  refine wpAnyH_take (i := 3) (oi := { dst := some 72, op := Op.move (Operand.tmp 9), type := 3, pos := "law.go:102", after := #[], guard := none }) (v := ?_) rfl (by kernel_rfl) (by kernel_rfl) (by kernel_rfl) (fun _ _ _ h => h) (Or.inl ⟨by rfl, ?_⟩) (by assumption) ?_
                  rotate_left
                  · ((intro w hSw; (try dsimp only at hSw); go_simp; (try rw [if_neg (by omega)])); try with_reducible rfl)
                  (try simp only [Act.put, List.setIfInBounds_toArray, List.set_cons_zero, List.set_cons_succ])
                  refine wpAnyH_take (i := 4) (oi := { dst := some 73, op := Op.indexAddr 22 (Operand.tmp 71) (Operand.tmp 72), type := 0, pos := "law.go:102", after := #[{ on := 2, ground := Ground.data }, { on := 3, ground := Ground.data }], guard := none }) (v := ?_) rfl (by kernel_rfl) (by kernel_rfl) (by kernel_rfl) (fun _ _ _ h => h) (Or.inl ⟨by rfl, ?_⟩) (by assumption) ?_
                  rotate_left
                  · ((intro w hSw; (try dsimp only at hSw); go_simp; (try rw [if_neg (by omega)])); try with_reducible rfl)
                  (try simp only [Act.put, List.setIfInBounds_toArray, List.set_cons_zero, List.set_cons_succ])
                  refine wpAnyH_take (i := 5) (oi := { dst := some 74, op := Op.fieldAddr 37 (Operand.tmp 73) 2, type := 0, pos := "law.go:102", after := #[{ on := 4, ground := Ground.data }], guard := none }) (v := ?_) rfl (by kernel_rfl) (by kernel_rfl) (by kernel_rfl) (fun _ _ _ h => h) (Or.inl ⟨by rfl, ?_⟩) (by assumption) ?_
                  rotate_left
                  · ((intro w hSw; (try dsimp only at hSw); go_simp; (try rw [if_neg (by omega)])); try with_reducible rfl)
                  (try simp only [Act.put, List.setIfInBounds_toArray, List.set_cons_zero, List.set_cons_succ])
                  refine wpAnyH_take (i := 6) (oi := { dst := some 75, op := Op.load 3 (Operand.tmp 74), type := 3, pos := "law.go:102", after := #[{ on := 5, ground := Ground.data }], guard := none }) (v := ?_) rfl (by kernel_rfl) (by kernel_rfl) (by kernel_rfl) (fun _ _ _ h => h) (Or.inl ⟨by rfl, ?_⟩) (by assumption) ?_
                  rotate_left
                  · ((intro w hSw; (try dsimp only at hSw); go_simp; (try rw [if_neg (by omega)])); try with_reducible rfl)
                  (try simp only [Act.put, List.setIfInBounds_toArray, List.set_cons_zero, List.set_cons_succ])
                  refine wpAnyH_ready (rs := [7]) (by kernel_rfl) (by simp) ?_
                  refine AllReadyH.cons (o := { dst := none, op := Op.mapUpdate 30 (Operand.tmp 69) (Operand.tmp 70) (Operand.tmp 75), type := 0, pos := "law.go:102", after := #[{ on := 0, ground := Ground.data }, { on := 1, ground := Ground.data }, { on := 6, ground := Ground.data }, { on := 0, ground := Ground.phase }, { on := 1, ground := Ground.phase }, { on := 2, ground := Ground.phase }, { on := 3, ground := Ground.phase }, { on := 4, ground := Ground.phase }, { on := 5, ground := Ground.phase }, { on := 6, ground := Ground.phase }], guard := none }) rfl (fun K hK => ?_) ?_
                  · (have hr1 := HR1.out; go_simp; clear hr1)
                    refine hK.out _ _ ?_ (fun hHeld => ?_)
                    · exact HS13.out
                    clear hK K
                    (try simp only [Act.put, List.setIfInBounds_toArray, List.set_cons_zero, List.set_cons_succ])
                    refine wpAnyH_done (by kernel_rfl) ?_ _
                    clear HR1
                    go_upto_region 13 with fail
                    go_upto_region 14 with fail
                    go_loopw [78] (fun v78 wr => ∃ j : Nat, v78 = .int .i64 (j : Int) ∧ j ≤ p ∧ Hid (Bg w w2 A M mb root bu (i + 2) (m + 1) Q (c1 - j) (ME.gon f1 (gs.take j)) wr) ∧ Hid (FrS (fun b => b = A) w8 wr)) (fun v _ => p - (intOf v).toNat)
                    case atStart => exact ⟨0, rfl, Nat.zero_le _, Lib.hid (HB8.out.re rfl (by rw [List.take_zero, ME.gon_nil])), Lib.hid (FrS.refl _ _)⟩
                    case round =>
                      obtain ⟨j, rfl, hj, HJ, HFJ⟩ := hrel
                      by_cases hjm : j < p
                      · have hjj : (j : Int) < (p : Int) := by omega
                        have hj0 : (0 : Int) ≤ (j : Int) := by omega
                        obtain ⟨y, hy⟩ : ∃ y, gs[j]? = some y := ⟨gs[j]'(by rw [HPL.out]; exact hjm), List.getElem?_eq_getElem _⟩
                        have hyk := HGO.out y (List.mem_of_getElem? hy)
                        have heq : ∀ w, (binOp .eql 34 (.agg #[.int .i64 y.1, .int .i64 y.2.1, .int .i64 y.2.2.1, .int .i64 y.2.2.2]) (.agg #[.int .i64 kx.1, .int .i64 kx.2.1, .int .i64 kx.2.2.1, .int .i64 kx.2.2.2])).run Try.prog w = .ok (.bool false) w := fun w => by have h := eq_ow w y kx; rw [decide_eq_false hyk.1] at h; exact h
                        have hsome : (ME.gon f1 (gs.take j) y).isSome = true := by
                          unfold ME.gon
                          rw [if_neg (fun hm => by
                            obtain ⟨q, hq, e⟩ := List.mem_take_iff_getElem.1 hm
                            have h1 : gs[q]? = some y := by rw [← e]; exact List.getElem?_eq_getElem _
                            have := (List.getElem?_inj (List.getElem?_eq_some_iff.1 hy).1 HND.out).1 (hy.trans h1.symm)
                            omega)]
                          exact hyk.2
                        have HSO := Lib.hid hsome
                        have HYO : Hid (K4ok y) := Lib.hid (HGK.out y (List.mem_of_getElem? hy))
                        have HYJ := Lib.hid hy
                        obtain ⟨gg, oo, rfl, q0, q1, q2, q3⟩ := ky_at (own_srcN (HFJ.out.own HR8.out (fun q e x => by have h1 := (HR8.out.lt q e).1; have h2 := HAW.out; omega))) hy hjm
                        clear hy hyk hsome
                        go_upto_region 16 with fail
                        clear q0 q1 q2 q3
                        have hb9 := balloc (Below.refl _ wr) (.cells #[.int .i64 y.1, .int .i64 y.2.1, .int .i64 y.2.2.1, .int .i64 y.2.2.2] 34)
                        have b9 := heap_alloc_new wr (.cells #[.int .i64 y.1, .int .i64 y.2.1, .int .i64 y.2.2.1, .int .i64 y.2.2.2] 34)
                        obtain ⟨Y9, hY9⟩ : ∃ Y9, wr.heap.size = Y9 := ⟨_, rfl⟩
                        obtain ⟨W9, hW9⟩ : ∃ W9, wr.alloc (.cells #[.int .i64 y.1, .int .i64 y.2.1, .int .i64 y.2.2.1, .int .i64 y.2.2.2] 34) = W9 := ⟨_, rfl⟩
                        rw [hW9] at hb9 b9
                        rw [hW9]
                        rw [hY9] at b9
                        try rw [hY9]
                        have HJ9 := Lib.hid (HJ.out.below hb9)
                        have HFJ9 := Lib.hid (HFJ.out.then hb9)
                        obtain ⟨x0, x1, x2, x3⟩ := HQ8.out W9 HFJ9.out
                        have p0 : W9.cell? ⟨Y9, 0, none⟩ = some (.int .i64 y.1) := nd_cell b9 rfl
                        have p1 : W9.cell? ⟨Y9, 1, none⟩ = some (.int .i64 y.2.1) := nd_cell b9 rfl
                        have p2 : W9.cell? ⟨Y9, 2, none⟩ = some (.int .i64 y.2.2.1) := nd_cell b9 rfl
                        have p3 : W9.cell? ⟨Y9, 3, none⟩ = some (.int .i64 y.2.2.2) := nd_cell b9 rfl
                        have HYA : Hid (Y9 ≠ A) := Lib.hid (by have h1 := HJ.out.mz.lt; omega)
                        have HY9 := Lib.hid b9
                        clear hb9 b9 hY9 hW9
                        have hl := HJ9.out.mz.look2 y HYO.out
                        rw [HSO.out] at hl
                        obtain ⟨zz, hzz⟩ : ∃ zz, (ME.gon f1 (gs.take j) y).getD 0 = zz := ⟨_, rfl⟩
                        rw [hzz] at hl
                        change (Instr.lookup 30 (.map (some A)) (.agg #[.int .i64 y.1, .int .i64 y.2.1, .int .i64 y.2.2.1, .int .i64 y.2.2.2]) true).run Try.prog W9 = .ok (.tuple #[.int .i64 zz, .bool true]) W9 at hl
                        clear hzz
                        obtain ⟨W10, hrun, hz10, ht10⟩ := HJ9.out.mz.del y HYO.out 0
                        change (Builtin.delete_ #[30, 34] 0 #[.map (some A), (.agg #[.int .i64 y.1, .int .i64 y.2.1, .int .i64 y.2.2.1, .int .i64 y.2.2.2])]).run Try.prog W9 = .ok (.tuple #[]) W10 at hrun
                        have HJ10 : Hid (Bg w w2 A M mb root bu (i + 2) (m + 1) Q (c1 - (j + 1)) (ME.gon f1 (gs.take (j + 1))) W10) := Lib.hid ((HJ9.out.turned hz10 ht10).re (by rw [if_pos HSO.out]; omega) (by rw [ME.gon_next, List.take_add_one, HYJ.out]; rfl))
                        have HFJ10 : Hid (FrS (fun b => b = A) w8 W10) := Lib.hid (HFJ9.out.trans (FrS.turned ht10 rfl))
                        clear hz10 ht10
                        go_wp2
                        go_roundw
                        case rel => exact ⟨j + 1, by go_num, hjm, HJ10, HFJ10⟩
                        case measure => simp [intOf]; omega
                      · have hjj : ¬ (j : Int) < (p : Int) := by omega
                        have HEN : Hid (Bg w w2 A M mb root bu (i + 2) (m + 1) Q Q.length (ME.szs Q) wr) := Lib.hid (by
                          have hjp : j = p := by omega
                          have h := HJ.out
                          rw [hjp, List.take_of_length_le (Nat.le_of_eq HPL.out), HGF.out] at h
                          exact h.re (by have := HCC.out; have := HPL.out; omega) rfl)
                        clear hjm hj
                        go_wp2_with fail
                        go_meet
                        exact ⟨_, m + 1, by omega, HEN⟩
                  exact AllReadyH.nil
              exact AllReadyH.nil
      case rest =>
        obtain ⟨we, hwe⟩ : ∃ we, we = wc := ⟨_, rfl⟩
        subst hwe
        obtain ⟨P', m', hm', HB⟩ := hcut
        obtain ⟨F2, hms2, hF2⟩ := HB.out.ms
        have HM2 := Lib.hid hms2
        clear hms2 hF2
        obtain ⟨q, hq⟩ : ∃ q, P'.length = q := ⟨_, rfl⟩
        have HQL := Lib.hid hq
        have hqb : q ≤ 62 := by have := HB.out.l1; omega
        obtain ⟨us, hus⟩ : ∃ us, ME.sm P' = us := ⟨_, rfl⟩
        have HUS := Lib.hid hus
        have hub : us ≤ bu := by rw [← hus]; exact HB.out.ok.sum
        clear hq hus
        go_upto_region 31 with fail
        go_wp2_with fail
        go_at_call 18
        refine (list_s HM2.out.here (by omega)).mono ?_
        rintro e wl ⟨vl, rfl, rowl, kl⟩
        rw [List.length_map, HQL.out] at rowl
        obtain ⟨la, lc, rfl⟩ := own_shape rowl
        have HRL := Lib.hid rowl
        have HBL := Lib.hid (HB.out.below kl)
        have HML := Lib.hid (HM2.out.below kl)
        clear rowl kl
        go_upto_region 33 with fail
        go_loopw [19, 135] (fun v19 v135 wr => ∃ (j : Nat) (su : Int), v135 = .int .i64 (j : Int) ∧ v19 = .int .i64 su ∧ j ≤ q ∧ 0 ≤ su ∧ su ≤ us ∧ Hid (ME.sm (P'.take j) = su) ∧ Hid (Below wl.heap.size wl wr)) (fun _ v _ => q - (intOf v).toNat)
        case atStart => exact ⟨0, 0, rfl, rfl, Nat.zero_le _, by omega, by rw [← HUS.out]; exact ME.sm_nonneg HB.out.ok.sz, Lib.hid rfl, Lib.hid (Below.refl _ _)⟩
        case round =>
          obtain ⟨j, su, rfl, rfl, hj, hs0, hs1, HSU, HJ⟩ := hrel
          by_cases hjq : j < q
          · have hjj : (j : Int) < (q : Int) := by omega
            have hj0 : (0 : Int) ≤ (j : Int) := by omega
            obtain ⟨e, he⟩ : ∃ e, P'[j]? = some e := ⟨P'[j]'(by rw [HQL.out]; exact hjq), List.getElem?_eq_getElem _⟩
            have HSN := Lib.hid (ME.sm_next he)
            have hsb := ME.sm_takeB HB.out.ok.sz (j + 1)
            rw [ME.sm_next he, HSU.out, HUS.out] at hsb
            obtain ⟨y, hy⟩ : ∃ y, e.key = y := ⟨_, rfl⟩
            obtain ⟨zs, hzs⟩ : ∃ zs, e.size = zs := ⟨_, rfl⟩
            have HSZ : Hid (ME.szs P' y = some zs) := Lib.hid (by rw [← hy, ← hzs]; exact ME.szs_at HB.out.ok.keys he)
            have hzb := HB.out.ok.sz e (List.mem_of_getElem? he)
            have HYO : Hid (K4ok y) := Lib.hid (by rw [← hy]; exact HB.out.ok.ok e (List.mem_of_getElem? he))
            rw [hzs] at hsb hzb HSN
            obtain ⟨hsb0, hsb1⟩ := hsb
            obtain ⟨hzb0, hzb1⟩ := hzb
            obtain ⟨gg, oo, rfl, q0, q1, q2, q3⟩ := ky_at (own_srcN (own_below HRL.out HJ.out)) (i := j) (k := y) (by rw [List.getElem?_map, he]; simp [hy]) hjq
            clear he hy hzs
            go_upto_region 35 with fail
            clear q0 q1 q2 q3
            have hb9 := balloc (Below.refl _ wr) (.cells #[.int .i64 y.1, .int .i64 y.2.1, .int .i64 y.2.2.1, .int .i64 y.2.2.2] 34)
            have b9 := heap_alloc_new wr (.cells #[.int .i64 y.1, .int .i64 y.2.1, .int .i64 y.2.2.1, .int .i64 y.2.2.2] 34)
            obtain ⟨Y9, hY9⟩ : ∃ Y9, wr.heap.size = Y9 := ⟨_, rfl⟩
            obtain ⟨W9, hW9⟩ : ∃ W9, wr.alloc (.cells #[.int .i64 y.1, .int .i64 y.2.1, .int .i64 y.2.2.1, .int .i64 y.2.2.2] 34) = W9 := ⟨_, rfl⟩
            rw [hW9] at hb9 b9
            rw [hW9]
            rw [hY9] at b9
            try rw [hY9]
            have HJ9 := Lib.hid (bnext HJ.out hb9)
            have p0 : W9.cell? ⟨Y9, 0, none⟩ = some (.int .i64 y.1) := nd_cell b9 rfl
            have p1 : W9.cell? ⟨Y9, 1, none⟩ = some (.int .i64 y.2.1) := nd_cell b9 rfl
            have p2 : W9.cell? ⟨Y9, 2, none⟩ = some (.int .i64 y.2.2.1) := nd_cell b9 rfl
            have p3 : W9.cell? ⟨Y9, 3, none⟩ = some (.int .i64 y.2.2.2) := nd_cell b9 rfl
            clear hb9 b9 hY9 hW9
            have hl := (HBL.out.below HJ9.out).mz.look2 y HYO.out
            rw [HSZ.out] at hl
            change (Instr.lookup 30 (.map (some A)) (.agg #[.int .i64 y.1, .int .i64 y.2.1, .int .i64 y.2.2.1, .int .i64 y.2.2.2]) true).run Try.prog W9 = .ok (.tuple #[.int .i64 zs, .bool true]) W9 at hl
            have HSX : Hid (ME.sm (P'.take (j + 1)) = su + zs) := Lib.hid (by rw [HSN.out, HSU.out])
            go_wp2
            go_roundw
            case rel => exact ⟨j + 1, su + zs, by go_num, rfl, hjq, by omega, by omega, HSX, HJ9⟩
            case measure => simp [intOf]; omega
          · have hjj : ¬ (j : Int) < (q : Int) := by omega
            have HSE : Hid (us = su) := Lib.hid (by have h := HSU.out; rw [List.take_of_length_le (by have := HQL.out; omega), HUS.out] at h; exact h)
            have HJX := Lib.hid (HBL.out.below HJ.out)
            have hlen := HJX.out.mz.len 3
            rw [HQL.out] at hlen
            have hu := used_s (HML.out.below HJ.out).here
            rw [HUS.out, HSE.out] at hu
            have HU := Lib.hid hu
            have hsub : ¬ bu < su := by have := HSE.out; omega
            have hqq : ((q : Int) != (q : Int)) = false := by simp
            have hss : (su != su) = false := by simp
            obtain ⟨wy, hwy⟩ : ∃ wy, wy = wr := ⟨_, rfl⟩
            subst hwy
            clear hjq hj hu HUS
            go_upto_region 40 with fail
            go_wp2_with fail
            go_at_call 19
            refine HU.out.mono ?_
            rintro e wu ⟨rfl, he⟩
            have he' := he.symm
            subst he'
            clear hlen
            go_wp2
            go_roundw
            case rel => exact ⟨i + 1, P', m', by go_num, by omega, by omega, hm', HJX⟩
            case measure => simp [intOf]; omega
    · by_cases hin2 : i < n
      · have hii : (i : Int) < (n : Int) := by omega
        have hii6 : ¬ (i : Int) < 60 := by omega
        have HBE := Lib.hid HBR.out.bel
        go_wp2
        go_ret
        exact ⟨rfl, HBE.out⟩
      · have hii : ¬ (i : Int) < (n : Int) := by omega
        have HBE := Lib.hid HBR.out.bel
        go_wp2
        go_ret
        exact ⟨rfl, HBE.out⟩

set_option maxRecDepth 100000 in
theorem lifted (os : Os) (started : os.Started) (H : Type) (enc : TypeId × Value → H) :
    ReturnsInHanded {} Try.checked os 4 .any (Rows.memoryBudgetSpec.pre6 enc Try.prog Try.f4 Rows.memoryBudgetRow.domain false) (Rows.memoryBudgetSpec.post enc Try.prog Try.f4 false true false false) := by
  refine returnsInHanded_of_change (C := Try.checked) own started (by kernel_rfl) Try.func4
    (ChangeSpec.witness6 (enc := enc) (C := Try.checked) false ⟨#[], #[.int .u8 0, .slice none 0 0], []⟩ 8 (by kernel_rfl) (by kernel_rfl) (by kernel_rfl) (by kernel_rfl)) ?_
  intro W base args ds gs before hval0 hW hcnd _
  have hval : ∀ (j : Nat) t v, Try.f4.params[j]? = some t → args[j]? = some v → Value.okWide Try.prog W .any base t v := hval0
  have hW' := hW
  obtain ⟨p, q, hA0, hV, rfl, hfz, hnd⟩ := hW
  have hA : DataW.TrodAll enc Try.prog W 0 (fun _ => true) true Try.f4.params.toList args.toList ds p := hA0
  rw [Try.params4] at hA hval
  obtain ⟨v0, vs0, d0, ds0, p0, q0, hargs, rfl, rfl, h0, r0⟩ := trodAll_cons hA
  obtain ⟨v1, vs1, d1, ds1, p1, q1, rfl, rfl, rfl, h1, r1⟩ := trodAll_cons r0
  obtain ⟨rfl, rfl, rfl⟩ := trodAll_nil r1
  obtain rfl : args = #[v0, v1] := by cases args; simp_all
  obtain ⟨rfl, rfl⟩ := trodVars_none hV
  have k0 := h0
  have lt0 : ∀ x ∈ p0, x.block < W.heap.size := by obtain ⟨m, hm⟩ := k0; exact DataW.trod_lt m _ _ _ hm
  have k1 := h1
  have lt1 : ∀ x ∈ p1, x.block < W.heap.size := by obtain ⟨m, hm⟩ := k1; exact DataW.trod_lt m _ _ _ hm
  obtain ⟨a0, rfl, rfl, rfl, wa0⟩ := open_int Try.underlying5 (hval 0 5 v0 rfl rfl) h0
  obtain ⟨a1, H1⟩ := open_acts (hval 1 22 v1 rfl rfl) h1
  clear hA0 hval0
  refine (walk a0 v1 a1 wa0 W H1).mono fun e W' ⟨he, bel⟩ => ?_
  subst he
  exact ⟨_, rfl, _, _, _, [], _, [], hW', trodAll_mk1 (shut_bool Try.underlying4 _), (trodAll_cons_mk (Below.trod laidOut (by kernel_rfl) (of_decide_eq_true (by kernel_rfl)) k0 bel lt0) (trodAll_cons_mk (Below.trod laidOut (by kernel_rfl) (of_decide_eq_true (by kernel_rfl)) k1 bel lt1) trodAll_mk0)), rfl, bel.frame _, fun h => by cases h⟩

theorem over : Rows.memoryBudgetRow.holds Try.pinned (OpenSpec.ofChange Rows.memoryBudgetSpec) :=
  OpenClaim.holds_of_wide 4 Try.f4 rfl rfl rfl rfl rfl rfl rfl ⟨rfl, rfl, rfl, rfl, rfl⟩ rfl rfl rfl rfl rfl (by kernel_rfl) Try.func4 (by kernel_rfl)
    (of_decide_eq_true (by kernel_rfl)) (by unfold Func.isWrapper; first | (rw [if_pos (by decide +kernel)]; kernel_rfl) | (rw [if_neg (by decide +kernel)]; exact ⟨rfl, rfl⟩))
    (fun os started H enc _ => lifted os started H enc)

end Go.Proofs.Ytmnajongifdajaa.memoryBudget
namespace Go.Proofs.Ytmnajongifdajaa
theorem memoryBudget_proved : Rows.MemoryBudgetSaid := memoryBudget.over
#print axioms memoryBudget_proved
end Go.Proofs.Ytmnajongifdajaa
