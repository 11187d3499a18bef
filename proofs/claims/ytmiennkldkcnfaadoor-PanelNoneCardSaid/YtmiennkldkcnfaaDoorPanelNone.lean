/- For all numbers, every rectangle and any failing of the power PanelNone returns true. No conditions. -/
import Derived.Test.YtmiennkldkcnfaaDoorPn22
namespace Go.Proofs.YtmiennkldkcnfaaDoor.panelNone
open Go.ChangeShapes Go.WideShapes Go.ChangeAt Go.RowKit Go.Joins Go.Deep
set_option linter.unusedVariables false

set_option maxRecDepth 100000 in
set_option maxHeartbeats 4000000 in
theorem walk (a0 : Int) (b0 : Int) (c1 : Rc) (a2 : Int) (g : Nat × Nat) (wa0 : (Lit.int .i64 a0).wf = true) (wb0 : (Lit.int .i64 b0).wf = true) (wa2 : (Lit.int .i64 a2).wf = true) (w : World) (hl : Laid w g) (H1 : rcOk c1) :
    Calls Tryd.prog 10 #[.agg #[.int .i64 a0, .int .i64 b0], rcV c1, .int .i64 a2] w fun e w' => e = .returned (.bool true) ∧ Below w.heap.size w w' := by
  have HLD := Lib.hid hl
  clear hl
  have HC1 := Lib.hid H1
  clear H1
  obtain ⟨B, hB⟩ : ∃ B, w.heap.size = B := ⟨_, rfl⟩
  obtain ⟨W2, hW2, b0', b1', bel, hsz⟩ := two_blocks w (.cells #[.int .i64 a0, .int .i64 b0] 68) (.cells #[.int .i64 c1.x, .int .i64 c1.y, .int .i64 c1.w, .int .i64 c1.h] 31) B hB
  have HSZ := Lib.hid hsz
  have HB0 := Lib.hid b0'
  have HB1 := Lib.hid b1'
  have HBW := Lib.hid bel
  have HB := Lib.hid hB
  clear bel hsz b0' b1'
  have HPS : Hid (∀ U, Below W2.heap.size W2 U → (U.cell? ⟨B, 0, none⟩ = some (.int .i64 a0) ∧ U.cell? ⟨B, 1, none⟩ = some (.int .i64 b0)) ∧ (U.cell? ⟨B + 1, 0, none⟩ = some (.int .i64 c1.x) ∧ U.cell? ⟨B + 1, 1, none⟩ = some (.int .i64 c1.y) ∧ U.cell? ⟨B + 1, 2, none⟩ = some (.int .i64 c1.w) ∧ U.cell? ⟨B + 1, 3, none⟩ = some (.int .i64 c1.h))) := Lib.hid fun U hU => by
    have h1 := (hU.block B (by rw [HSZ.out]; omega)).trans HB0.out
    have h2 := (hU.block (B + 1) (by rw [HSZ.out]; omega)).trans HB1.out
    exact ⟨⟨nd_cell h1 rfl, nd_cell h1 rfl⟩, nd_cell h2 rfl, nd_cell h2 rfl, nd_cell h2 rfl, nd_cell h2 rfl⟩
  go_enter Tryd.func10, Tryd.ntmps10
  go_upto_region 1 with fail
  try rw [hW2]
  try rw [hB]
  clear hW2 hB
  go_wp2_with fail
  go_at_call 11
  refine (sanity_any _ g (HLD.out.mono HBW.out)).mono ?_
  rintro e w3 ⟨rfl, k3⟩
  have HB3 := Lib.hid k3
  clear k3
  go_upto_region 2 with fail
  obtain ⟨⟨x0, x1⟩, -⟩ := HPS.out w3 HB3.out
  by_cases hn : 1 ≤ a0 ∧ a0 ≤ 64 ∧ 1 ≤ b0 ∧ b0 ≤ 64
  · obtain ⟨pw, rfl⟩ : ∃ pw : Nat, a0 = (pw : Int) := ⟨a0.toNat, by omega⟩
    obtain ⟨ph, rfl⟩ : ∃ ph : Nat, b0 = (ph : Int) := ⟨b0.toNat, by omega⟩
    have HPH : Hid (1 ≤ pw ∧ pw ≤ 64 ∧ 1 ≤ ph ∧ ph ≤ 64) := Lib.hid (by omega)
    obtain ⟨n1, n2, n3, n4⟩ := hn
    have HC := Lib.hid (new_any w3 pw ph (by omega) (by omega))
    go_wp2_with fail
    go_at_call 12
    refine HC.out.mono ?_
    rintro e w4 ⟨b, gg, rfl, kp, kb1, kg1, kb⟩
    have HP := Lib.hid kp
    have HB4 := Lib.hid (bnext HB3.out kb)
    clear kp kb1 kg1 kb HC x0 x1
    obtain ⟨⟨x0, x1⟩, -⟩ := HPS.out w4 HB4.out
    go_upto_region 5 with fail
    clear x0 x1 n1 n2 n3 n4
    obtain ⟨Z, hZ⟩ : ∃ Z, w4.heap.size = Z := ⟨_, rfl⟩
    obtain ⟨W5, hW5, z0', z1', zbel, zsz⟩ := two_blocks w4 ZP (.cells #[.pointer none, .pointer (some ⟨Z, 0, none⟩)] 25) Z hZ
    have HZ0 := Lib.hid z0'
    have HZ1 := Lib.hid z1'
    have HZS := Lib.hid zsz
    have HBL := Lib.hid (bnext HB4.out zbel)
    have HWS := Lib.hid zbel
    clear z0' z1' zbel zsz
    have HQ : Hid (∀ U, Below W5.heap.size W5 U → ∀ i : Nat, i < 2 → ∃ v, U.cell? ⟨Z + 1, i, none⟩ = some v ∧ NoP U v) := Lib.hid fun U hU i hi => by
      have h0 := (hU.block Z (by rw [HZS.out]; omega)).trans HZ0.out
      have h1 := (hU.block (Z + 1) (by rw [HZS.out]; omega)).trans HZ1.out
      have h2 : i = 0 ∨ i = 1 := by omega
      rcases h2 with rfl | rfl
      · exact ⟨_, nd_cell h1 rfl, .inl rfl⟩
      · exact ⟨_, nd_cell h1 rfl, .inr ⟨Z, rfl, h0⟩⟩
    obtain ⟨k, hk3, hk⟩ : ∃ k : Nat, k ≤ 3 ∧ bits .and .i64 c1.h 3 = (k : Int) := and_small c1.h 3 (by omega)
    go_upto_region 6 with fail
    try rw [hW5]
    try rw [hZ]
    clear hW5 hZ
    go_loopw [43] (fun v43 wr => ∃ i : Nat, v43 = .int .i64 (i : Int) ∧ i ≤ 2 ∧ Hid (Below W5.heap.size W5 wr)) (fun v _ => 2 - (intOf v).toNat)
    case atStart => exact ⟨0, rfl, by omega, Lib.hid (Below.refl _ W5)⟩
    case round =>
      obtain ⟨i, rfl, hi2, HBR⟩ := hrel
      by_cases hi : i < 2
      · have hii : (i : Int) < 2 := by omega
        have hi0 : (0 : Int) ≤ (i : Int) := by omega
        obtain ⟨v, hv, hno⟩ := HQ.out wr HBR.out i hi
        have HNO := Lib.hid hno
        clear hno hi
        go_upto_region 8 with fail
        clear hv
        have HC := Lib.hid (nofail_any HNO.out a2)
        go_wp2_with fail
        go_at_call 31
        refine HC.out.mono ?_
        rintro e wf ⟨rfl, he⟩
        have he' := he.symm
        subst he'
        clear HC
        go_upto_region 9 with fail
        obtain ⟨wd, hwd⟩ : ∃ wd, wr.drew = wd := ⟨_, rfl⟩
        have HWD := Lib.hid hwd
        have hbd : Below wr.heap.size wr wd := by rw [← hwd]; exact Below.drew (Below.refl _ wr)
        have HND := Lib.hid (HNO.out.below hbd)
        have HBD := Lib.hid (bnext HBR.out hbd)
        have HKS : Hid (∀ U, Below wd.heap.size wd U → U.cell? ⟨B + 1, 0, none⟩ = some (.int .i64 c1.x) ∧ U.cell? ⟨B + 1, 1, none⟩ = some (.int .i64 c1.y) ∧ U.cell? ⟨B + 1, 2, none⟩ = some (.int .i64 c1.w) ∧ U.cell? ⟨B + 1, 3, none⟩ = some (.int .i64 c1.h)) := Lib.hid fun U hU => (HPS.out U (bnext HBL.out (bnext HBD.out hU))).2
        clear hwd hbd
        have hmk := make_u64 wd k (by omega)
        obtain ⟨OB, hOB⟩ : ∃ OB : Obj, (.cells ((List.replicate k (0 : Nat)).map U6).toArray 63 : Obj) = OB := ⟨_, rfl⟩
        rw [hOB] at hmk
        clear hOB
        refine wp_region_held_drew (S := (fun U => U.cell? ⟨B + 1, 0, none⟩ = some (.int .i64 c1.x) ∧ U.cell? ⟨B + 1, 1, none⟩ = some (.int .i64 c1.y) ∧ U.cell? ⟨B + 1, 2, none⟩ = some (.int .i64 c1.w) ∧ U.cell? ⟨B + 1, 3, none⟩ = some (.int .i64 c1.h))) (by kernel_rfl) ?_ (fun hHeld => ?_)
        · (rw [HWD.out]; exact HKS.out _ (Below.refl _ _))
        rw [HWD.out] at hHeld ⊢
        refine wpAnyH_take (i := 0) (oi := { dst := some 50, op := Op.move (Operand.tmp 10), type := 25, pos := "law.go:249", after := #[], guard := none }) (v := ?_) rfl (by kernel_rfl) (by kernel_rfl) (by kernel_rfl) (fun _ _ _ h => h) (Or.inl ⟨by rfl, ?_⟩) (by assumption) ?_
        rotate_left
        · ((intro w hSw; (try dsimp only at hSw); go_simp; (try rw [if_neg (by omega)])); try with_reducible rfl)
        (try simp only [Act.put, List.setIfInBounds_toArray, List.set_cons_zero, List.set_cons_succ])
        refine wpAnyH_take (i := 1) (oi := { dst := some 51, op := Op.load 31 (Operand.tmp 4), type := 31, pos := "law.go:249", after := #[], guard := none }) (v := ?_) rfl (by kernel_rfl) (by kernel_rfl) (by kernel_rfl) (fun _ _ _ h => h) (Or.inl ⟨by rfl, ?_⟩) (by assumption) ?_
        rotate_left
        · ((intro w hSw; (try dsimp only at hSw); go_simp; (try rw [if_neg (by omega)])); try with_reducible rfl)
        (try simp only [Act.put, List.setIfInBounds_toArray, List.set_cons_zero, List.set_cons_succ])
        refine wpAnyH_take (i := 2) (oi := { dst := some 52, op := Op.fieldAddr 31 (Operand.tmp 4) 3, type := 0, pos := "law.go:249", after := #[], guard := none }) (v := ?_) rfl (by kernel_rfl) (by kernel_rfl) (by kernel_rfl) (fun _ _ _ h => h) (Or.inl ⟨by rfl, ?_⟩) (by assumption) ?_
        rotate_left
        · ((intro w hSw; (try dsimp only at hSw); go_simp; (try rw [if_neg (by omega)])); try with_reducible rfl)
        (try simp only [Act.put, List.setIfInBounds_toArray, List.set_cons_zero, List.set_cons_succ])
        refine wpAnyH_take (i := 3) (oi := { dst := some 53, op := Op.load 3 (Operand.tmp 52), type := 3, pos := "law.go:249", after := #[{ on := 2, ground := Ground.data }], guard := none }) (v := ?_) rfl (by kernel_rfl) (by kernel_rfl) (by kernel_rfl) (fun _ _ _ h => h) (Or.inl ⟨by rfl, ?_⟩) (by assumption) ?_
        rotate_left
        · ((intro w hSw; (try dsimp only at hSw); go_simp; (try rw [if_neg (by omega)])); try with_reducible rfl)
        (try simp only [Act.put, List.setIfInBounds_toArray, List.set_cons_zero, List.set_cons_succ])
        refine wpAnyH_take (i := 4) (oi := { dst := some 54, op := Op.binOp BinOp.and 3 (Operand.tmp 53) (Operand.const (Value.int IntKind.i64 3)) 3, type := 3, pos := "law.go:249", after := #[{ on := 3, ground := Ground.data }], guard := none }) (v := ?_) rfl (by kernel_rfl) (by kernel_rfl) (by kernel_rfl) (fun _ _ _ h => h) (Or.inl ⟨by rfl, ?_⟩) (by assumption) ?_
        rotate_left
        · ((intro w hSw; (try dsimp only at hSw); go_simp; (try rw [if_neg (by omega)])); try with_reducible rfl)
        (try simp only [Act.put, List.setIfInBounds_toArray, List.set_cons_zero, List.set_cons_succ])
        refine wpAnyH_ready (rs := [5]) (by kernel_rfl) (by simp) ?_
        refine AllReadyH.cons (o := { dst := some 55, op := Op.makeSlice 32 (Operand.tmp 54) (Operand.tmp 54), type := 32, pos := "law.go:249", after := #[{ on := 4, ground := Ground.data }, { on := 4, ground := Ground.data }], guard := none }) rfl (fun K hK => ?_) ?_
        · (go_simp; have bz1 := balloc (Below.refl _ wd) OB)
          refine hK.out _ _ ?_ (fun hHeld => ?_)
          · exact HKS.out _ bz1
          clear hK K
          (try simp only [Act.put, List.setIfInBounds_toArray, List.set_cons_zero, List.set_cons_succ])
          refine wpAnyH_ready (rs := [6]) (by kernel_rfl) (by simp) ?_
          refine AllReadyH.cons (o := { dst := some 56, op := Op.call { callee := Callee.value (Operand.func 30), args := #[Operand.tmp 50, Operand.tmp 51, Operand.tmp 55], argTypes := #[25, 31, 32] }, type := 59, pos := "law.go:249", after := #[{ on := 0, ground := Ground.data }, { on := 1, ground := Ground.data }, { on := 5, ground := Ground.data }], guard := none }) rfl (fun K hK => ?_) ?_
          · (go_simp; go_at_call 30; refine (nowrite_any ((HND.out).below bz1) c1 _).mono ?_; rintro u wz2 ⟨rfl, dz⟩; have bz2 := bnext bz1 dz; dsimp only)
            refine hK.out _ _ ?_ (fun hHeld => ?_)
            · exact HKS.out _ bz2
            clear hK K
            (try simp only [Act.put, List.setIfInBounds_toArray, List.set_cons_zero, List.set_cons_succ])
            refine wpAnyH_take (i := 7) (oi := { dst := some 57, op := Op.binOp BinOp.neq 59 (Operand.tmp 56) (Operand.const (Value.int IntKind.i64 1)) 59, type := 4, pos := "law.go:249", after := #[{ on := 6, ground := Ground.data }], guard := none }) (v := ?_) rfl (by kernel_rfl) (by kernel_rfl) (by kernel_rfl) (fun _ _ _ h => h) (Or.inl ⟨by rfl, ?_⟩) (by assumption) ?_
            rotate_left
            · ((intro w hSw; (try dsimp only at hSw); go_simp; (try rw [if_neg (by omega)])); try with_reducible rfl)
            (try simp only [Act.put, List.setIfInBounds_toArray, List.set_cons_zero, List.set_cons_succ])
            refine wpAnyH_take (i := 8) (oi := { dst := some 58, op := Op.move (Operand.tmp 57), type := 4, pos := "law.go:249", after := #[{ on := 7, ground := Ground.data }, { on := 6, ground := Ground.chain }], guard := none }) (v := ?_) rfl (by kernel_rfl) (by kernel_rfl) (by kernel_rfl) (fun _ _ _ h => h) (Or.inl ⟨by rfl, ?_⟩) (by assumption) ?_
            rotate_left
            · ((intro w hSw; (try dsimp only at hSw); go_simp; (try rw [if_neg (by omega)])); try with_reducible rfl)
            (try simp only [Act.put, List.setIfInBounds_toArray, List.set_cons_zero, List.set_cons_succ])
            refine wpAnyH_take (i := 9) (oi := { dst := some 59, op := Op.move (Operand.tmp 10), type := 25, pos := "law.go:249", after := #[{ on := 8, ground := Ground.guard }], guard := some (8, false) }) (v := ?_) rfl (by kernel_rfl) (by kernel_rfl) (by kernel_rfl) (fun _ _ _ h => h) (Or.inl ⟨by rfl, ?_⟩) (by assumption) ?_
            rotate_left
            · ((intro w hSw; (try dsimp only at hSw); go_simp; (try rw [if_neg (by omega)])); try with_reducible rfl)
            (try simp only [Act.put, List.setIfInBounds_toArray, List.set_cons_zero, List.set_cons_succ])
            refine wpAnyH_ready (rs := [10]) (by kernel_rfl) (by simp) ?_
            refine AllReadyH.cons (o := { dst := some 60, op := Op.call { callee := Callee.value (Operand.func 16), args := #[Operand.tmp 59], argTypes := #[25] }, type := 32, pos := "law.go:249", after := #[{ on := 9, ground := Ground.data }, { on := 8, ground := Ground.chain }, { on := 8, ground := Ground.guard }], guard := some (8, false) }) rfl (fun K hK => ?_) ?_
            · (go_simp; go_at_call 16; refine (nopixels_any ((HND.out).below bz2)).mono ?_; rintro u wz3 ⟨rfl, he⟩; have he' := he.symm; subst he'; dsimp only)
              refine hK.out _ _ ?_ (fun hHeld => ?_)
              · exact HKS.out _ bz2
              clear hK K
              (try simp only [Act.put, List.setIfInBounds_toArray, List.set_cons_zero, List.set_cons_succ])
              refine wpAnyH_take (i := 11) (oi := { dst := some 61, op := Op.call { callee := Callee.builtin Builtin.len, args := #[Operand.tmp 60], argTypes := #[32] }, type := 3, pos := "law.go:249", after := #[{ on := 10, ground := Ground.data }, { on := 8, ground := Ground.guard }], guard := some (8, false) }) (v := ?_) rfl (by kernel_rfl) (by kernel_rfl) (by kernel_rfl) (fun _ _ _ h => h) (Or.inl ⟨by rfl, ?_⟩) (by assumption) ?_
              rotate_left
              · ((intro w hSw; (try dsimp only at hSw); go_simp; (try rw [if_neg (by omega)])); try with_reducible rfl)
              (try simp only [Act.put, List.setIfInBounds_toArray, List.set_cons_zero, List.set_cons_succ])
              refine wpAnyH_take (i := 12) (oi := { dst := some 62, op := Op.binOp BinOp.neq 3 (Operand.tmp 61) (Operand.const (Value.int IntKind.i64 0)) 3, type := 4, pos := "law.go:249", after := #[{ on := 11, ground := Ground.data }, { on := 8, ground := Ground.guard }], guard := some (8, false) }) (v := ?_) rfl (by kernel_rfl) (by kernel_rfl) (by kernel_rfl) (fun _ _ _ h => h) (Or.inl ⟨by rfl, ?_⟩) (by assumption) ?_
              rotate_left
              · ((intro w hSw; (try dsimp only at hSw); go_simp; (try rw [if_neg (by omega)])); try with_reducible rfl)
              (try simp only [Act.put, List.setIfInBounds_toArray, List.set_cons_zero, List.set_cons_succ])
              refine wpAnyH_take (i := 13) (oi := { dst := some 63, op := Op.pick (Operand.tmp 58) (Operand.const (Value.bool true)) (Operand.tmp 62), type := 4, pos := "law.go:249", after := #[{ on := 8, ground := Ground.data }, { on := 12, ground := Ground.data }], guard := none }) (v := ?_) rfl (by kernel_rfl) (by kernel_rfl) (by kernel_rfl) (fun _ _ _ h => h) (Or.inl ⟨by rfl, ?_⟩) (by assumption) ?_
              rotate_left
              · ((intro w hSw; (try dsimp only at hSw); go_simp; (try rw [if_neg (by omega)])); try with_reducible rfl)
              (try simp only [Act.put, List.setIfInBounds_toArray, List.set_cons_zero, List.set_cons_succ])
              refine wpAnyH_take (i := 14) (oi := { dst := some 64, op := Op.move (Operand.tmp 63), type := 4, pos := "law.go:249", after := #[{ on := 13, ground := Ground.data }, { on := 10, ground := Ground.chain }], guard := none }) (v := ?_) rfl (by kernel_rfl) (by kernel_rfl) (by kernel_rfl) (fun _ _ _ h => h) (Or.inl ⟨by rfl, ?_⟩) (by assumption) ?_
              rotate_left
              · ((intro w hSw; (try dsimp only at hSw); go_simp; (try rw [if_neg (by omega)])); try with_reducible rfl)
              (try simp only [Act.put, List.setIfInBounds_toArray, List.set_cons_zero, List.set_cons_succ])
              refine wpAnyH_take (i := 15) (oi := { dst := some 65, op := Op.move (Operand.tmp 10), type := 25, pos := "law.go:249", after := #[{ on := 14, ground := Ground.guard }], guard := some (14, false) }) (v := ?_) rfl (by kernel_rfl) (by kernel_rfl) (by kernel_rfl) (fun _ _ _ h => h) (Or.inl ⟨by rfl, ?_⟩) (by assumption) ?_
              rotate_left
              · ((intro w hSw; (try dsimp only at hSw); go_simp; (try rw [if_neg (by omega)])); try with_reducible rfl)
              (try simp only [Act.put, List.setIfInBounds_toArray, List.set_cons_zero, List.set_cons_succ])
              refine wpAnyH_ready (rs := [16]) (by kernel_rfl) (by simp) ?_
              refine AllReadyH.cons (o := { dst := some 66, op := Op.call { callee := Callee.value (Operand.func 18), args := #[Operand.tmp 65], argTypes := #[25] }, type := 3, pos := "law.go:249", after := #[{ on := 15, ground := Ground.data }, { on := 14, ground := Ground.chain }, { on := 14, ground := Ground.guard }], guard := some (14, false) }) rfl (fun K hK => ?_) ?_
              · (go_simp; go_at_call 18; refine (noupdates_any ((HND.out).below bz2)).mono ?_; rintro u wz4 ⟨rfl, he⟩; have he' := he.symm; subst he'; dsimp only)
                refine hK.out _ _ ?_ (fun hHeld => ?_)
                · exact HKS.out _ bz2
                clear hK K
                (try simp only [Act.put, List.setIfInBounds_toArray, List.set_cons_zero, List.set_cons_succ])
                refine wpAnyH_take (i := 17) (oi := { dst := some 67, op := Op.binOp BinOp.neq 3 (Operand.tmp 66) (Operand.const (Value.int IntKind.i64 0)) 3, type := 4, pos := "law.go:249", after := #[{ on := 16, ground := Ground.data }, { on := 14, ground := Ground.guard }], guard := some (14, false) }) (v := ?_) rfl (by kernel_rfl) (by kernel_rfl) (by kernel_rfl) (fun _ _ _ h => h) (Or.inl ⟨by rfl, ?_⟩) (by assumption) ?_
                rotate_left
                · ((intro w hSw; (try dsimp only at hSw); go_simp; (try rw [if_neg (by omega)])); try with_reducible rfl)
                (try simp only [Act.put, List.setIfInBounds_toArray, List.set_cons_zero, List.set_cons_succ])
                refine wpAnyH_take (i := 18) (oi := { dst := some 68, op := Op.pick (Operand.tmp 64) (Operand.const (Value.bool true)) (Operand.tmp 67), type := 4, pos := "law.go:249", after := #[{ on := 14, ground := Ground.data }, { on := 17, ground := Ground.data }], guard := none }) (v := ?_) rfl (by kernel_rfl) (by kernel_rfl) (by kernel_rfl) (fun _ _ _ h => h) (Or.inl ⟨by rfl, ?_⟩) (by assumption) ?_
                rotate_left
                · ((intro w hSw; (try dsimp only at hSw); go_simp; (try rw [if_neg (by omega)])); try with_reducible rfl)
                (try simp only [Act.put, List.setIfInBounds_toArray, List.set_cons_zero, List.set_cons_succ])
                refine wpAnyH_done (by kernel_rfl) ?_ _
                clear hHeld
                have HBE := Lib.hid (bnext HBD.out bz2)
                clear bz1 bz2
                go_simp
                go_wp2
                go_roundw
                case rel => exact ⟨i + 1, by go_num, by omega, HBE⟩
                case measure => simp [intOf]; omega
              exact AllReadyH.nil
            exact AllReadyH.nil
          exact AllReadyH.nil
        exact AllReadyH.nil
      · have hii : ¬ (i : Int) < 2 := by omega
        clear hi
        have HPA := Lib.hid (HP.out.below (bnext HWS.out HBR.out))
        obtain ⟨g1, g2, g3, g4⟩ := HPH.out
        have ho : PnOk ⟨pw, List.replicate ph 0, 0, false, 0⟩ := ⟨by dsimp only; omega, by dsimp only; omega, by dsimp only; rw [List.length_replicate]; omega, by dsimp only; rw [List.length_replicate]; omega, fun r hr => by rw [(List.mem_replicate.1 hr).2]; exact Nat.two_pow_pos _, by dsimp only; omega, by dsimp only; omega⟩
        clear g1 g2 g3 g4
        have HO := Lib.hid ho
        have HC := Lib.hid (pixels_any HPA.out ho)
        clear ho
        go_upto_region 14 with fail
        go_wp2_with fail
        go_at_call 16
        refine HC.out.mono ?_
        rintro e w6 ⟨vp, rfl, ko, kb⟩
        clear HC
        have HB6 := Lib.hid (bnext HBL.out (bnext HBR.out kb))
        have HP6 := Lib.hid (HPA.out.below kb)
        have ko2 : w6.ownsRow wr.heap.size 63 1 vp (List.replicate ph 0).length ((List.replicate ph 0).map U6) := ko
        rw [List.length_replicate] at ko2
        clear ko kb
        have hlen : (List.replicate ph (0 : Nat)).length = ph := List.length_replicate
        obtain ⟨q, qc, rfl, hq, hq9, -⟩ := own_q ko2 (by have := HPH.out; omega)
        have f0 := ko2.frozenAt 0
        have hqb : q ≠ b ∧ q ≠ gg := by
          have h1 := (Array.getElem?_eq_some_iff.1 HPA.out.hd).1
          have h2 := (Array.getElem?_eq_some_iff.1 HPA.out.row).1
          omega
        have hc0 : w6.cell? ⟨q, 0, none⟩ = some (U6 0) := by rw [ko2.cellAt 0 (by have := HPH.out; omega)]; have := HPH.out; simp [List.getElem?_replicate]; omega
        have HQB := Lib.hid hqb
        have HQG := Lib.hid hq
        clear hqb ko2 hlen hq hq9
        obtain ⟨⟨x0, x1⟩, -⟩ := HPS.out w6 HB6.out
        have hph0 : (0 : Int) < (ph : Int) := by have := HPH.out; omega
        go_upto_region 18 with fail
        have HF7 := Lib.hid (FrS.set (S := fun y => y = q) w6 (b := q) (i := 0) rfl (.int .u64 1))
        obtain ⟨w7, hw7⟩ : ∃ w7, w6.setCell ⟨q, 0, none⟩ (.int .u64 1) = w7 := ⟨_, rfl⟩
        rw [hw7] at HF7
        try rw [hw7]
        clear hw7 hc0 f0 x0 x1
        have HP7 := Lib.hid (HP6.out.frame HF7.out (fun e => HQB.out.1 e.symm) (fun e => HQB.out.2 e.symm))
        have HB7 : Hid (Below W2.heap.size W2 w7) := Lib.hid (HF7.out.below W2 HB6.out (fun y hy => by rw [hy]; have := (bnext HBL.out HBR.out).size; have := HQG.out; omega))
        have HC := Lib.hid (pixels_any HP7.out HO.out)
        go_wp2_with fail
        go_at_call 16
        refine HC.out.mono ?_
        rintro e w8 ⟨v8, rfl, ko, kb⟩
        clear HC
        have ko2 : w8.ownsRow w7.heap.size 63 1 v8 (List.replicate ph 0).length ((List.replicate ph 0).map U6) := ko
        rw [List.length_replicate] at ko2
        obtain ⟨q2, qc2, rfl, hq2, -, -⟩ := own_q ko2 (by have := HPH.out; omega)
        have hc0 : w8.cell? ⟨q2, 0, none⟩ = some (U6 0) := by rw [ko2.cellAt 0 (by have := HPH.out; omega)]; have := HPH.out; simp [List.getElem?_replicate]; omega
        have HB8 := Lib.hid (bnext HB7.out kb)
        clear ko ko2 kb hq2
        go_wp2
        go_ret
        exact ⟨rfl, bnext HBW.out HB8.out⟩
  · have HC := Lib.hid (new_none w3 a0 b0 hn)
    go_wp2_with fail
    go_at_call 12
    refine HC.out.mono ?_
    rintro e w4 ⟨rfl, he⟩
    have he' := he.symm
    subst he'
    clear HC
    go_upto_region 3 with fail
    by_cases h1 : 1 ≤ a0
    · by_cases h2 : a0 ≤ 64
      · by_cases h3 : 1 ≤ b0
        · have h4 : ¬ b0 ≤ 64 := fun h => hn ⟨h1, h2, h3, h⟩
          go_upto_region 5 with fail
          clear x0 x1
          obtain ⟨Z, hZ⟩ : ∃ Z, w3.heap.size = Z := ⟨_, rfl⟩
          obtain ⟨W5, hW5, z0', z1', zbel, zsz⟩ := two_blocks w3 ZP (.cells #[.pointer none, .pointer (some ⟨Z, 0, none⟩)] 25) Z hZ
          have HZ0 := Lib.hid z0'
          have HZ1 := Lib.hid z1'
          have HZS := Lib.hid zsz
          have HBL := Lib.hid (bnext HB3.out zbel)
          have HWS := Lib.hid zbel
          clear z0' z1' zbel zsz
          have HQ : Hid (∀ U, Below W5.heap.size W5 U → ∀ i : Nat, i < 2 → ∃ v, U.cell? ⟨Z + 1, i, none⟩ = some v ∧ NoP U v) := Lib.hid fun U hU i hi => by
            have h0 := (hU.block Z (by rw [HZS.out]; omega)).trans HZ0.out
            have h1 := (hU.block (Z + 1) (by rw [HZS.out]; omega)).trans HZ1.out
            have h2 : i = 0 ∨ i = 1 := by omega
            rcases h2 with rfl | rfl
            · exact ⟨_, nd_cell h1 rfl, .inl rfl⟩
            · exact ⟨_, nd_cell h1 rfl, .inr ⟨Z, rfl, h0⟩⟩
          obtain ⟨k, hk3, hk⟩ : ∃ k : Nat, k ≤ 3 ∧ bits .and .i64 c1.h 3 = (k : Int) := and_small c1.h 3 (by omega)
          go_upto_region 6 with fail
          try rw [hW5]
          try rw [hZ]
          clear hW5 hZ
          go_loopw [43] (fun v43 wr => ∃ i : Nat, v43 = .int .i64 (i : Int) ∧ i ≤ 2 ∧ Hid (Below W5.heap.size W5 wr)) (fun v _ => 2 - (intOf v).toNat)
          case atStart => exact ⟨0, rfl, by omega, Lib.hid (Below.refl _ W5)⟩
          case round =>
            obtain ⟨i, rfl, hi2, HBR⟩ := hrel
            by_cases hi : i < 2
            · have hii : (i : Int) < 2 := by omega
              have hi0 : (0 : Int) ≤ (i : Int) := by omega
              obtain ⟨v, hv, hno⟩ := HQ.out wr HBR.out i hi
              have HNO := Lib.hid hno
              clear hno hi
              go_upto_region 8 with fail
              clear hv
              have HC := Lib.hid (nofail_any HNO.out a2)
              go_wp2_with fail
              go_at_call 31
              refine HC.out.mono ?_
              rintro e wf ⟨rfl, he⟩
              have he' := he.symm
              subst he'
              clear HC
              go_upto_region 9 with fail
              obtain ⟨wd, hwd⟩ : ∃ wd, wr.drew = wd := ⟨_, rfl⟩
              have HWD := Lib.hid hwd
              have hbd : Below wr.heap.size wr wd := by rw [← hwd]; exact Below.drew (Below.refl _ wr)
              have HND := Lib.hid (HNO.out.below hbd)
              have HBD := Lib.hid (bnext HBR.out hbd)
              have HKS : Hid (∀ U, Below wd.heap.size wd U → U.cell? ⟨B + 1, 0, none⟩ = some (.int .i64 c1.x) ∧ U.cell? ⟨B + 1, 1, none⟩ = some (.int .i64 c1.y) ∧ U.cell? ⟨B + 1, 2, none⟩ = some (.int .i64 c1.w) ∧ U.cell? ⟨B + 1, 3, none⟩ = some (.int .i64 c1.h)) := Lib.hid fun U hU => (HPS.out U (bnext HBL.out (bnext HBD.out hU))).2
              clear hwd hbd
              have hmk := make_u64 wd k (by omega)
              obtain ⟨OB, hOB⟩ : ∃ OB : Obj, (.cells ((List.replicate k (0 : Nat)).map U6).toArray 63 : Obj) = OB := ⟨_, rfl⟩
              rw [hOB] at hmk
              clear hOB
              refine wp_region_held_drew (S := (fun U => U.cell? ⟨B + 1, 0, none⟩ = some (.int .i64 c1.x) ∧ U.cell? ⟨B + 1, 1, none⟩ = some (.int .i64 c1.y) ∧ U.cell? ⟨B + 1, 2, none⟩ = some (.int .i64 c1.w) ∧ U.cell? ⟨B + 1, 3, none⟩ = some (.int .i64 c1.h))) (by kernel_rfl) ?_ (fun hHeld => ?_)
              · (rw [HWD.out]; exact HKS.out _ (Below.refl _ _))
              rw [HWD.out] at hHeld ⊢
              refine wpAnyH_take (i := 0) (oi := { dst := some 50, op := Op.move (Operand.tmp 10), type := 25, pos := "law.go:249", after := #[], guard := none }) (v := ?_) rfl (by kernel_rfl) (by kernel_rfl) (by kernel_rfl) (fun _ _ _ h => h) (Or.inl ⟨by rfl, ?_⟩) (by assumption) ?_
              rotate_left
              · ((intro w hSw; (try dsimp only at hSw); go_simp; (try rw [if_neg (by omega)])); try with_reducible rfl)
              (try simp only [Act.put, List.setIfInBounds_toArray, List.set_cons_zero, List.set_cons_succ])
              refine wpAnyH_take (i := 1) (oi := { dst := some 51, op := Op.load 31 (Operand.tmp 4), type := 31, pos := "law.go:249", after := #[], guard := none }) (v := ?_) rfl (by kernel_rfl) (by kernel_rfl) (by kernel_rfl) (fun _ _ _ h => h) (Or.inl ⟨by rfl, ?_⟩) (by assumption) ?_
              rotate_left
              · ((intro w hSw; (try dsimp only at hSw); go_simp; (try rw [if_neg (by omega)])); try with_reducible rfl)
              (try simp only [Act.put, List.setIfInBounds_toArray, List.set_cons_zero, List.set_cons_succ])
              refine wpAnyH_take (i := 2) (oi := { dst := some 52, op := Op.fieldAddr 31 (Operand.tmp 4) 3, type := 0, pos := "law.go:249", after := #[], guard := none }) (v := ?_) rfl (by kernel_rfl) (by kernel_rfl) (by kernel_rfl) (fun _ _ _ h => h) (Or.inl ⟨by rfl, ?_⟩) (by assumption) ?_
              rotate_left
              · ((intro w hSw; (try dsimp only at hSw); go_simp; (try rw [if_neg (by omega)])); try with_reducible rfl)
              (try simp only [Act.put, List.setIfInBounds_toArray, List.set_cons_zero, List.set_cons_succ])
              refine wpAnyH_take (i := 3) (oi := { dst := some 53, op := Op.load 3 (Operand.tmp 52), type := 3, pos := "law.go:249", after := #[{ on := 2, ground := Ground.data }], guard := none }) (v := ?_) rfl (by kernel_rfl) (by kernel_rfl) (by kernel_rfl) (fun _ _ _ h => h) (Or.inl ⟨by rfl, ?_⟩) (by assumption) ?_
              rotate_left
              · ((intro w hSw; (try dsimp only at hSw); go_simp; (try rw [if_neg (by omega)])); try with_reducible rfl)
              (try simp only [Act.put, List.setIfInBounds_toArray, List.set_cons_zero, List.set_cons_succ])
              refine wpAnyH_take (i := 4) (oi := { dst := some 54, op := Op.binOp BinOp.and 3 (Operand.tmp 53) (Operand.const (Value.int IntKind.i64 3)) 3, type := 3, pos := "law.go:249", after := #[{ on := 3, ground := Ground.data }], guard := none }) (v := ?_) rfl (by kernel_rfl) (by kernel_rfl) (by kernel_rfl) (fun _ _ _ h => h) (Or.inl ⟨by rfl, ?_⟩) (by assumption) ?_
              rotate_left
              · ((intro w hSw; (try dsimp only at hSw); go_simp; (try rw [if_neg (by omega)])); try with_reducible rfl)
              (try simp only [Act.put, List.setIfInBounds_toArray, List.set_cons_zero, List.set_cons_succ])
              refine wpAnyH_ready (rs := [5]) (by kernel_rfl) (by simp) ?_
              refine AllReadyH.cons (o := { dst := some 55, op := Op.makeSlice 32 (Operand.tmp 54) (Operand.tmp 54), type := 32, pos := "law.go:249", after := #[{ on := 4, ground := Ground.data }, { on := 4, ground := Ground.data }], guard := none }) rfl (fun K hK => ?_) ?_
              · (go_simp; have bz1 := balloc (Below.refl _ wd) OB)
                refine hK.out _ _ ?_ (fun hHeld => ?_)
                · exact HKS.out _ bz1
                clear hK K
                (try simp only [Act.put, List.setIfInBounds_toArray, List.set_cons_zero, List.set_cons_succ])
                refine wpAnyH_ready (rs := [6]) (by kernel_rfl) (by simp) ?_
                refine AllReadyH.cons (o := { dst := some 56, op := Op.call { callee := Callee.value (Operand.func 30), args := #[Operand.tmp 50, Operand.tmp 51, Operand.tmp 55], argTypes := #[25, 31, 32] }, type := 59, pos := "law.go:249", after := #[{ on := 0, ground := Ground.data }, { on := 1, ground := Ground.data }, { on := 5, ground := Ground.data }], guard := none }) rfl (fun K hK => ?_) ?_
                · (go_simp; go_at_call 30; refine (nowrite_any ((HND.out).below bz1) c1 _).mono ?_; rintro u wz2 ⟨rfl, dz⟩; have bz2 := bnext bz1 dz; dsimp only)
                  refine hK.out _ _ ?_ (fun hHeld => ?_)
                  · exact HKS.out _ bz2
                  clear hK K
                  (try simp only [Act.put, List.setIfInBounds_toArray, List.set_cons_zero, List.set_cons_succ])
                  refine wpAnyH_take (i := 7) (oi := { dst := some 57, op := Op.binOp BinOp.neq 59 (Operand.tmp 56) (Operand.const (Value.int IntKind.i64 1)) 59, type := 4, pos := "law.go:249", after := #[{ on := 6, ground := Ground.data }], guard := none }) (v := ?_) rfl (by kernel_rfl) (by kernel_rfl) (by kernel_rfl) (fun _ _ _ h => h) (Or.inl ⟨by rfl, ?_⟩) (by assumption) ?_
                  rotate_left
                  · ((intro w hSw; (try dsimp only at hSw); go_simp; (try rw [if_neg (by omega)])); try with_reducible rfl)
                  (try simp only [Act.put, List.setIfInBounds_toArray, List.set_cons_zero, List.set_cons_succ])
                  refine wpAnyH_take (i := 8) (oi := { dst := some 58, op := Op.move (Operand.tmp 57), type := 4, pos := "law.go:249", after := #[{ on := 7, ground := Ground.data }, { on := 6, ground := Ground.chain }], guard := none }) (v := ?_) rfl (by kernel_rfl) (by kernel_rfl) (by kernel_rfl) (fun _ _ _ h => h) (Or.inl ⟨by rfl, ?_⟩) (by assumption) ?_
                  rotate_left
                  · ((intro w hSw; (try dsimp only at hSw); go_simp; (try rw [if_neg (by omega)])); try with_reducible rfl)
                  (try simp only [Act.put, List.setIfInBounds_toArray, List.set_cons_zero, List.set_cons_succ])
                  refine wpAnyH_take (i := 9) (oi := { dst := some 59, op := Op.move (Operand.tmp 10), type := 25, pos := "law.go:249", after := #[{ on := 8, ground := Ground.guard }], guard := some (8, false) }) (v := ?_) rfl (by kernel_rfl) (by kernel_rfl) (by kernel_rfl) (fun _ _ _ h => h) (Or.inl ⟨by rfl, ?_⟩) (by assumption) ?_
                  rotate_left
                  · ((intro w hSw; (try dsimp only at hSw); go_simp; (try rw [if_neg (by omega)])); try with_reducible rfl)
                  (try simp only [Act.put, List.setIfInBounds_toArray, List.set_cons_zero, List.set_cons_succ])
                  refine wpAnyH_ready (rs := [10]) (by kernel_rfl) (by simp) ?_
                  refine AllReadyH.cons (o := { dst := some 60, op := Op.call { callee := Callee.value (Operand.func 16), args := #[Operand.tmp 59], argTypes := #[25] }, type := 32, pos := "law.go:249", after := #[{ on := 9, ground := Ground.data }, { on := 8, ground := Ground.chain }, { on := 8, ground := Ground.guard }], guard := some (8, false) }) rfl (fun K hK => ?_) ?_
                  · (go_simp; go_at_call 16; refine (nopixels_any ((HND.out).below bz2)).mono ?_; rintro u wz3 ⟨rfl, he⟩; have he' := he.symm; subst he'; dsimp only)
                    refine hK.out _ _ ?_ (fun hHeld => ?_)
                    · exact HKS.out _ bz2
                    clear hK K
                    (try simp only [Act.put, List.setIfInBounds_toArray, List.set_cons_zero, List.set_cons_succ])
                    refine wpAnyH_take (i := 11) (oi := { dst := some 61, op := Op.call { callee := Callee.builtin Builtin.len, args := #[Operand.tmp 60], argTypes := #[32] }, type := 3, pos := "law.go:249", after := #[{ on := 10, ground := Ground.data }, { on := 8, ground := Ground.guard }], guard := some (8, false) }) (v := ?_) rfl (by kernel_rfl) (by kernel_rfl) (by kernel_rfl) (fun _ _ _ h => h) (Or.inl ⟨by rfl, ?_⟩) (by assumption) ?_
                    rotate_left
                    · ((intro w hSw; (try dsimp only at hSw); go_simp; (try rw [if_neg (by omega)])); try with_reducible rfl)
                    (try simp only [Act.put, List.setIfInBounds_toArray, List.set_cons_zero, List.set_cons_succ])
                    refine wpAnyH_take (i := 12) (oi := { dst := some 62, op := Op.binOp BinOp.neq 3 (Operand.tmp 61) (Operand.const (Value.int IntKind.i64 0)) 3, type := 4, pos := "law.go:249", after := #[{ on := 11, ground := Ground.data }, { on := 8, ground := Ground.guard }], guard := some (8, false) }) (v := ?_) rfl (by kernel_rfl) (by kernel_rfl) (by kernel_rfl) (fun _ _ _ h => h) (Or.inl ⟨by rfl, ?_⟩) (by assumption) ?_
                    rotate_left
                    · ((intro w hSw; (try dsimp only at hSw); go_simp; (try rw [if_neg (by omega)])); try with_reducible rfl)
                    (try simp only [Act.put, List.setIfInBounds_toArray, List.set_cons_zero, List.set_cons_succ])
                    refine wpAnyH_take (i := 13) (oi := { dst := some 63, op := Op.pick (Operand.tmp 58) (Operand.const (Value.bool true)) (Operand.tmp 62), type := 4, pos := "law.go:249", after := #[{ on := 8, ground := Ground.data }, { on := 12, ground := Ground.data }], guard := none }) (v := ?_) rfl (by kernel_rfl) (by kernel_rfl) (by kernel_rfl) (fun _ _ _ h => h) (Or.inl ⟨by rfl, ?_⟩) (by assumption) ?_
                    rotate_left
                    · ((intro w hSw; (try dsimp only at hSw); go_simp; (try rw [if_neg (by omega)])); try with_reducible rfl)
                    (try simp only [Act.put, List.setIfInBounds_toArray, List.set_cons_zero, List.set_cons_succ])
                    refine wpAnyH_take (i := 14) (oi := { dst := some 64, op := Op.move (Operand.tmp 63), type := 4, pos := "law.go:249", after := #[{ on := 13, ground := Ground.data }, { on := 10, ground := Ground.chain }], guard := none }) (v := ?_) rfl (by kernel_rfl) (by kernel_rfl) (by kernel_rfl) (fun _ _ _ h => h) (Or.inl ⟨by rfl, ?_⟩) (by assumption) ?_
                    rotate_left
                    · ((intro w hSw; (try dsimp only at hSw); go_simp; (try rw [if_neg (by omega)])); try with_reducible rfl)
                    (try simp only [Act.put, List.setIfInBounds_toArray, List.set_cons_zero, List.set_cons_succ])
                    refine wpAnyH_take (i := 15) (oi := { dst := some 65, op := Op.move (Operand.tmp 10), type := 25, pos := "law.go:249", after := #[{ on := 14, ground := Ground.guard }], guard := some (14, false) }) (v := ?_) rfl (by kernel_rfl) (by kernel_rfl) (by kernel_rfl) (fun _ _ _ h => h) (Or.inl ⟨by rfl, ?_⟩) (by assumption) ?_
                    rotate_left
                    · ((intro w hSw; (try dsimp only at hSw); go_simp; (try rw [if_neg (by omega)])); try with_reducible rfl)
                    (try simp only [Act.put, List.setIfInBounds_toArray, List.set_cons_zero, List.set_cons_succ])
                    refine wpAnyH_ready (rs := [16]) (by kernel_rfl) (by simp) ?_
                    refine AllReadyH.cons (o := { dst := some 66, op := Op.call { callee := Callee.value (Operand.func 18), args := #[Operand.tmp 65], argTypes := #[25] }, type := 3, pos := "law.go:249", after := #[{ on := 15, ground := Ground.data }, { on := 14, ground := Ground.chain }, { on := 14, ground := Ground.guard }], guard := some (14, false) }) rfl (fun K hK => ?_) ?_
                    · (go_simp; go_at_call 18; refine (noupdates_any ((HND.out).below bz2)).mono ?_; rintro u wz4 ⟨rfl, he⟩; have he' := he.symm; subst he'; dsimp only)
                      refine hK.out _ _ ?_ (fun hHeld => ?_)
                      · exact HKS.out _ bz2
                      clear hK K
                      (try simp only [Act.put, List.setIfInBounds_toArray, List.set_cons_zero, List.set_cons_succ])
                      refine wpAnyH_take (i := 17) (oi := { dst := some 67, op := Op.binOp BinOp.neq 3 (Operand.tmp 66) (Operand.const (Value.int IntKind.i64 0)) 3, type := 4, pos := "law.go:249", after := #[{ on := 16, ground := Ground.data }, { on := 14, ground := Ground.guard }], guard := some (14, false) }) (v := ?_) rfl (by kernel_rfl) (by kernel_rfl) (by kernel_rfl) (fun _ _ _ h => h) (Or.inl ⟨by rfl, ?_⟩) (by assumption) ?_
                      rotate_left
                      · ((intro w hSw; (try dsimp only at hSw); go_simp; (try rw [if_neg (by omega)])); try with_reducible rfl)
                      (try simp only [Act.put, List.setIfInBounds_toArray, List.set_cons_zero, List.set_cons_succ])
                      refine wpAnyH_take (i := 18) (oi := { dst := some 68, op := Op.pick (Operand.tmp 64) (Operand.const (Value.bool true)) (Operand.tmp 67), type := 4, pos := "law.go:249", after := #[{ on := 14, ground := Ground.data }, { on := 17, ground := Ground.data }], guard := none }) (v := ?_) rfl (by kernel_rfl) (by kernel_rfl) (by kernel_rfl) (fun _ _ _ h => h) (Or.inl ⟨by rfl, ?_⟩) (by assumption) ?_
                      rotate_left
                      · ((intro w hSw; (try dsimp only at hSw); go_simp; (try rw [if_neg (by omega)])); try with_reducible rfl)
                      (try simp only [Act.put, List.setIfInBounds_toArray, List.set_cons_zero, List.set_cons_succ])
                      refine wpAnyH_done (by kernel_rfl) ?_ _
                      clear hHeld
                      have HBE := Lib.hid (bnext HBD.out bz2)
                      clear bz1 bz2
                      go_simp
                      go_wp2
                      go_roundw
                      case rel => exact ⟨i + 1, by go_num, by omega, HBE⟩
                      case measure => simp [intOf]; omega
                    exact AllReadyH.nil
                  exact AllReadyH.nil
                exact AllReadyH.nil
              exact AllReadyH.nil
            · have hii : ¬ (i : Int) < 2 := by omega
              clear hi
              go_wp2
              go_ret
              exact ⟨rfl, bnext HBW.out (bnext HBL.out HBR.out)⟩
        · go_upto_region 5 with fail
          clear x0 x1
          obtain ⟨Z, hZ⟩ : ∃ Z, w3.heap.size = Z := ⟨_, rfl⟩
          obtain ⟨W5, hW5, z0', z1', zbel, zsz⟩ := two_blocks w3 ZP (.cells #[.pointer none, .pointer (some ⟨Z, 0, none⟩)] 25) Z hZ
          have HZ0 := Lib.hid z0'
          have HZ1 := Lib.hid z1'
          have HZS := Lib.hid zsz
          have HBL := Lib.hid (bnext HB3.out zbel)
          have HWS := Lib.hid zbel
          clear z0' z1' zbel zsz
          have HQ : Hid (∀ U, Below W5.heap.size W5 U → ∀ i : Nat, i < 2 → ∃ v, U.cell? ⟨Z + 1, i, none⟩ = some v ∧ NoP U v) := Lib.hid fun U hU i hi => by
            have h0 := (hU.block Z (by rw [HZS.out]; omega)).trans HZ0.out
            have h1 := (hU.block (Z + 1) (by rw [HZS.out]; omega)).trans HZ1.out
            have h2 : i = 0 ∨ i = 1 := by omega
            rcases h2 with rfl | rfl
            · exact ⟨_, nd_cell h1 rfl, .inl rfl⟩
            · exact ⟨_, nd_cell h1 rfl, .inr ⟨Z, rfl, h0⟩⟩
          obtain ⟨k, hk3, hk⟩ : ∃ k : Nat, k ≤ 3 ∧ bits .and .i64 c1.h 3 = (k : Int) := and_small c1.h 3 (by omega)
          go_upto_region 6 with fail
          try rw [hW5]
          try rw [hZ]
          clear hW5 hZ
          go_loopw [43] (fun v43 wr => ∃ i : Nat, v43 = .int .i64 (i : Int) ∧ i ≤ 2 ∧ Hid (Below W5.heap.size W5 wr)) (fun v _ => 2 - (intOf v).toNat)
          case atStart => exact ⟨0, rfl, by omega, Lib.hid (Below.refl _ W5)⟩
          case round =>
            obtain ⟨i, rfl, hi2, HBR⟩ := hrel
            by_cases hi : i < 2
            · have hii : (i : Int) < 2 := by omega
              have hi0 : (0 : Int) ≤ (i : Int) := by omega
              obtain ⟨v, hv, hno⟩ := HQ.out wr HBR.out i hi
              have HNO := Lib.hid hno
              clear hno hi
              go_upto_region 8 with fail
              clear hv
              have HC := Lib.hid (nofail_any HNO.out a2)
              go_wp2_with fail
              go_at_call 31
              refine HC.out.mono ?_
              rintro e wf ⟨rfl, he⟩
              have he' := he.symm
              subst he'
              clear HC
              go_upto_region 9 with fail
              obtain ⟨wd, hwd⟩ : ∃ wd, wr.drew = wd := ⟨_, rfl⟩
              have HWD := Lib.hid hwd
              have hbd : Below wr.heap.size wr wd := by rw [← hwd]; exact Below.drew (Below.refl _ wr)
              have HND := Lib.hid (HNO.out.below hbd)
              have HBD := Lib.hid (bnext HBR.out hbd)
              have HKS : Hid (∀ U, Below wd.heap.size wd U → U.cell? ⟨B + 1, 0, none⟩ = some (.int .i64 c1.x) ∧ U.cell? ⟨B + 1, 1, none⟩ = some (.int .i64 c1.y) ∧ U.cell? ⟨B + 1, 2, none⟩ = some (.int .i64 c1.w) ∧ U.cell? ⟨B + 1, 3, none⟩ = some (.int .i64 c1.h)) := Lib.hid fun U hU => (HPS.out U (bnext HBL.out (bnext HBD.out hU))).2
              clear hwd hbd
              have hmk := make_u64 wd k (by omega)
              obtain ⟨OB, hOB⟩ : ∃ OB : Obj, (.cells ((List.replicate k (0 : Nat)).map U6).toArray 63 : Obj) = OB := ⟨_, rfl⟩
              rw [hOB] at hmk
              clear hOB
              refine wp_region_held_drew (S := (fun U => U.cell? ⟨B + 1, 0, none⟩ = some (.int .i64 c1.x) ∧ U.cell? ⟨B + 1, 1, none⟩ = some (.int .i64 c1.y) ∧ U.cell? ⟨B + 1, 2, none⟩ = some (.int .i64 c1.w) ∧ U.cell? ⟨B + 1, 3, none⟩ = some (.int .i64 c1.h))) (by kernel_rfl) ?_ (fun hHeld => ?_)
              · (rw [HWD.out]; exact HKS.out _ (Below.refl _ _))
              rw [HWD.out] at hHeld ⊢
              refine wpAnyH_take (i := 0) (oi := { dst := some 50, op := Op.move (Operand.tmp 10), type := 25, pos := "law.go:249", after := #[], guard := none }) (v := ?_) rfl (by kernel_rfl) (by kernel_rfl) (by kernel_rfl) (fun _ _ _ h => h) (Or.inl ⟨by rfl, ?_⟩) (by assumption) ?_
              rotate_left
              · ((intro w hSw; (try dsimp only at hSw); go_simp; (try rw [if_neg (by omega)])); try with_reducible rfl)
              (try simp only [Act.put, List.setIfInBounds_toArray, List.set_cons_zero, List.set_cons_succ])
              refine wpAnyH_take (i := 1) (oi := { dst := some 51, op := Op.load 31 (Operand.tmp 4), type := 31, pos := "law.go:249", after := #[], guard := none }) (v := ?_) rfl (by kernel_rfl) (by kernel_rfl) (by kernel_rfl) (fun _ _ _ h => h) (Or.inl ⟨by rfl, ?_⟩) (by assumption) ?_
              rotate_left
              · ((intro w hSw; (try dsimp only at hSw); go_simp; (try rw [if_neg (by omega)])); try with_reducible rfl)
              (try simp only [Act.put, List.setIfInBounds_toArray, List.set_cons_zero, List.set_cons_succ])
              refine wpAnyH_take (i := 2) (oi := { dst := some 52, op := Op.fieldAddr 31 (Operand.tmp 4) 3, type := 0, pos := "law.go:249", after := #[], guard := none }) (v := ?_) rfl (by kernel_rfl) (by kernel_rfl) (by kernel_rfl) (fun _ _ _ h => h) (Or.inl ⟨by rfl, ?_⟩) (by assumption) ?_
              rotate_left
              · ((intro w hSw; (try dsimp only at hSw); go_simp; (try rw [if_neg (by omega)])); try with_reducible rfl)
              (try simp only [Act.put, List.setIfInBounds_toArray, List.set_cons_zero, List.set_cons_succ])
              refine wpAnyH_take (i := 3) (oi := { dst := some 53, op := Op.load 3 (Operand.tmp 52), type := 3, pos := "law.go:249", after := #[{ on := 2, ground := Ground.data }], guard := none }) (v := ?_) rfl (by kernel_rfl) (by kernel_rfl) (by kernel_rfl) (fun _ _ _ h => h) (Or.inl ⟨by rfl, ?_⟩) (by assumption) ?_
              rotate_left
              · ((intro w hSw; (try dsimp only at hSw); go_simp; (try rw [if_neg (by omega)])); try with_reducible rfl)
              (try simp only [Act.put, List.setIfInBounds_toArray, List.set_cons_zero, List.set_cons_succ])
              refine wpAnyH_take (i := 4) (oi := { dst := some 54, op := Op.binOp BinOp.and 3 (Operand.tmp 53) (Operand.const (Value.int IntKind.i64 3)) 3, type := 3, pos := "law.go:249", after := #[{ on := 3, ground := Ground.data }], guard := none }) (v := ?_) rfl (by kernel_rfl) (by kernel_rfl) (by kernel_rfl) (fun _ _ _ h => h) (Or.inl ⟨by rfl, ?_⟩) (by assumption) ?_
              rotate_left
              · ((intro w hSw; (try dsimp only at hSw); go_simp; (try rw [if_neg (by omega)])); try with_reducible rfl)
              (try simp only [Act.put, List.setIfInBounds_toArray, List.set_cons_zero, List.set_cons_succ])
              refine wpAnyH_ready (rs := [5]) (by kernel_rfl) (by simp) ?_
              refine AllReadyH.cons (o := { dst := some 55, op := Op.makeSlice 32 (Operand.tmp 54) (Operand.tmp 54), type := 32, pos := "law.go:249", after := #[{ on := 4, ground := Ground.data }, { on := 4, ground := Ground.data }], guard := none }) rfl (fun K hK => ?_) ?_
              · (go_simp; have bz1 := balloc (Below.refl _ wd) OB)
                refine hK.out _ _ ?_ (fun hHeld => ?_)
                · exact HKS.out _ bz1
                clear hK K
                (try simp only [Act.put, List.setIfInBounds_toArray, List.set_cons_zero, List.set_cons_succ])
                refine wpAnyH_ready (rs := [6]) (by kernel_rfl) (by simp) ?_
                refine AllReadyH.cons (o := { dst := some 56, op := Op.call { callee := Callee.value (Operand.func 30), args := #[Operand.tmp 50, Operand.tmp 51, Operand.tmp 55], argTypes := #[25, 31, 32] }, type := 59, pos := "law.go:249", after := #[{ on := 0, ground := Ground.data }, { on := 1, ground := Ground.data }, { on := 5, ground := Ground.data }], guard := none }) rfl (fun K hK => ?_) ?_
                · (go_simp; go_at_call 30; refine (nowrite_any ((HND.out).below bz1) c1 _).mono ?_; rintro u wz2 ⟨rfl, dz⟩; have bz2 := bnext bz1 dz; dsimp only)
                  refine hK.out _ _ ?_ (fun hHeld => ?_)
                  · exact HKS.out _ bz2
                  clear hK K
                  (try simp only [Act.put, List.setIfInBounds_toArray, List.set_cons_zero, List.set_cons_succ])
                  refine wpAnyH_take (i := 7) (oi := { dst := some 57, op := Op.binOp BinOp.neq 59 (Operand.tmp 56) (Operand.const (Value.int IntKind.i64 1)) 59, type := 4, pos := "law.go:249", after := #[{ on := 6, ground := Ground.data }], guard := none }) (v := ?_) rfl (by kernel_rfl) (by kernel_rfl) (by kernel_rfl) (fun _ _ _ h => h) (Or.inl ⟨by rfl, ?_⟩) (by assumption) ?_
                  rotate_left
                  · ((intro w hSw; (try dsimp only at hSw); go_simp; (try rw [if_neg (by omega)])); try with_reducible rfl)
                  (try simp only [Act.put, List.setIfInBounds_toArray, List.set_cons_zero, List.set_cons_succ])
                  refine wpAnyH_take (i := 8) (oi := { dst := some 58, op := Op.move (Operand.tmp 57), type := 4, pos := "law.go:249", after := #[{ on := 7, ground := Ground.data }, { on := 6, ground := Ground.chain }], guard := none }) (v := ?_) rfl (by kernel_rfl) (by kernel_rfl) (by kernel_rfl) (fun _ _ _ h => h) (Or.inl ⟨by rfl, ?_⟩) (by assumption) ?_
                  rotate_left
                  · ((intro w hSw; (try dsimp only at hSw); go_simp; (try rw [if_neg (by omega)])); try with_reducible rfl)
                  (try simp only [Act.put, List.setIfInBounds_toArray, List.set_cons_zero, List.set_cons_succ])
                  refine wpAnyH_take (i := 9) (oi := { dst := some 59, op := Op.move (Operand.tmp 10), type := 25, pos := "law.go:249", after := #[{ on := 8, ground := Ground.guard }], guard := some (8, false) }) (v := ?_) rfl (by kernel_rfl) (by kernel_rfl) (by kernel_rfl) (fun _ _ _ h => h) (Or.inl ⟨by rfl, ?_⟩) (by assumption) ?_
                  rotate_left
                  · ((intro w hSw; (try dsimp only at hSw); go_simp; (try rw [if_neg (by omega)])); try with_reducible rfl)
                  (try simp only [Act.put, List.setIfInBounds_toArray, List.set_cons_zero, List.set_cons_succ])
                  refine wpAnyH_ready (rs := [10]) (by kernel_rfl) (by simp) ?_
                  refine AllReadyH.cons (o := { dst := some 60, op := Op.call { callee := Callee.value (Operand.func 16), args := #[Operand.tmp 59], argTypes := #[25] }, type := 32, pos := "law.go:249", after := #[{ on := 9, ground := Ground.data }, { on := 8, ground := Ground.chain }, { on := 8, ground := Ground.guard }], guard := some (8, false) }) rfl (fun K hK => ?_) ?_
                  · (go_simp; go_at_call 16; refine (nopixels_any ((HND.out).below bz2)).mono ?_; rintro u wz3 ⟨rfl, he⟩; have he' := he.symm; subst he'; dsimp only)
                    refine hK.out _ _ ?_ (fun hHeld => ?_)
                    · exact HKS.out _ bz2
                    clear hK K
                    (try simp only [Act.put, List.setIfInBounds_toArray, List.set_cons_zero, List.set_cons_succ])
                    refine wpAnyH_take (i := 11) (oi := { dst := some 61, op := Op.call { callee := Callee.builtin Builtin.len, args := #[Operand.tmp 60], argTypes := #[32] }, type := 3, pos := "law.go:249", after := #[{ on := 10, ground := Ground.data }, { on := 8, ground := Ground.guard }], guard := some (8, false) }) (v := ?_) rfl (by kernel_rfl) (by kernel_rfl) (by kernel_rfl) (fun _ _ _ h => h) (Or.inl ⟨by rfl, ?_⟩) (by assumption) ?_
                    rotate_left
                    · ((intro w hSw; (try dsimp only at hSw); go_simp; (try rw [if_neg (by omega)])); try with_reducible rfl)
                    (try simp only [Act.put, List.setIfInBounds_toArray, List.set_cons_zero, List.set_cons_succ])
                    refine wpAnyH_take (i := 12) (oi := { dst := some 62, op := Op.binOp BinOp.neq 3 (Operand.tmp 61) (Operand.const (Value.int IntKind.i64 0)) 3, type := 4, pos := "law.go:249", after := #[{ on := 11, ground := Ground.data }, { on := 8, ground := Ground.guard }], guard := some (8, false) }) (v := ?_) rfl (by kernel_rfl) (by kernel_rfl) (by kernel_rfl) (fun _ _ _ h => h) (Or.inl ⟨by rfl, ?_⟩) (by assumption) ?_
                    rotate_left
                    · ((intro w hSw; (try dsimp only at hSw); go_simp; (try rw [if_neg (by omega)])); try with_reducible rfl)
                    (try simp only [Act.put, List.setIfInBounds_toArray, List.set_cons_zero, List.set_cons_succ])
                    refine wpAnyH_take (i := 13) (oi := { dst := some 63, op := Op.pick (Operand.tmp 58) (Operand.const (Value.bool true)) (Operand.tmp 62), type := 4, pos := "law.go:249", after := #[{ on := 8, ground := Ground.data }, { on := 12, ground := Ground.data }], guard := none }) (v := ?_) rfl (by kernel_rfl) (by kernel_rfl) (by kernel_rfl) (fun _ _ _ h => h) (Or.inl ⟨by rfl, ?_⟩) (by assumption) ?_
                    rotate_left
                    · ((intro w hSw; (try dsimp only at hSw); go_simp; (try rw [if_neg (by omega)])); try with_reducible rfl)
                    (try simp only [Act.put, List.setIfInBounds_toArray, List.set_cons_zero, List.set_cons_succ])
                    refine wpAnyH_take (i := 14) (oi := { dst := some 64, op := Op.move (Operand.tmp 63), type := 4, pos := "law.go:249", after := #[{ on := 13, ground := Ground.data }, { on := 10, ground := Ground.chain }], guard := none }) (v := ?_) rfl (by kernel_rfl) (by kernel_rfl) (by kernel_rfl) (fun _ _ _ h => h) (Or.inl ⟨by rfl, ?_⟩) (by assumption) ?_
                    rotate_left
                    · ((intro w hSw; (try dsimp only at hSw); go_simp; (try rw [if_neg (by omega)])); try with_reducible rfl)
                    (try simp only [Act.put, List.setIfInBounds_toArray, List.set_cons_zero, List.set_cons_succ])
                    refine wpAnyH_take (i := 15) (oi := { dst := some 65, op := Op.move (Operand.tmp 10), type := 25, pos := "law.go:249", after := #[{ on := 14, ground := Ground.guard }], guard := some (14, false) }) (v := ?_) rfl (by kernel_rfl) (by kernel_rfl) (by kernel_rfl) (fun _ _ _ h => h) (Or.inl ⟨by rfl, ?_⟩) (by assumption) ?_
                    rotate_left
                    · ((intro w hSw; (try dsimp only at hSw); go_simp; (try rw [if_neg (by omega)])); try with_reducible rfl)
                    (try simp only [Act.put, List.setIfInBounds_toArray, List.set_cons_zero, List.set_cons_succ])
                    refine wpAnyH_ready (rs := [16]) (by kernel_rfl) (by simp) ?_
                    refine AllReadyH.cons (o := { dst := some 66, op := Op.call { callee := Callee.value (Operand.func 18), args := #[Operand.tmp 65], argTypes := #[25] }, type := 3, pos := "law.go:249", after := #[{ on := 15, ground := Ground.data }, { on := 14, ground := Ground.chain }, { on := 14, ground := Ground.guard }], guard := some (14, false) }) rfl (fun K hK => ?_) ?_
                    · (go_simp; go_at_call 18; refine (noupdates_any ((HND.out).below bz2)).mono ?_; rintro u wz4 ⟨rfl, he⟩; have he' := he.symm; subst he'; dsimp only)
                      refine hK.out _ _ ?_ (fun hHeld => ?_)
                      · exact HKS.out _ bz2
                      clear hK K
                      (try simp only [Act.put, List.setIfInBounds_toArray, List.set_cons_zero, List.set_cons_succ])
                      refine wpAnyH_take (i := 17) (oi := { dst := some 67, op := Op.binOp BinOp.neq 3 (Operand.tmp 66) (Operand.const (Value.int IntKind.i64 0)) 3, type := 4, pos := "law.go:249", after := #[{ on := 16, ground := Ground.data }, { on := 14, ground := Ground.guard }], guard := some (14, false) }) (v := ?_) rfl (by kernel_rfl) (by kernel_rfl) (by kernel_rfl) (fun _ _ _ h => h) (Or.inl ⟨by rfl, ?_⟩) (by assumption) ?_
                      rotate_left
                      · ((intro w hSw; (try dsimp only at hSw); go_simp; (try rw [if_neg (by omega)])); try with_reducible rfl)
                      (try simp only [Act.put, List.setIfInBounds_toArray, List.set_cons_zero, List.set_cons_succ])
                      refine wpAnyH_take (i := 18) (oi := { dst := some 68, op := Op.pick (Operand.tmp 64) (Operand.const (Value.bool true)) (Operand.tmp 67), type := 4, pos := "law.go:249", after := #[{ on := 14, ground := Ground.data }, { on := 17, ground := Ground.data }], guard := none }) (v := ?_) rfl (by kernel_rfl) (by kernel_rfl) (by kernel_rfl) (fun _ _ _ h => h) (Or.inl ⟨by rfl, ?_⟩) (by assumption) ?_
                      rotate_left
                      · ((intro w hSw; (try dsimp only at hSw); go_simp; (try rw [if_neg (by omega)])); try with_reducible rfl)
                      (try simp only [Act.put, List.setIfInBounds_toArray, List.set_cons_zero, List.set_cons_succ])
                      refine wpAnyH_done (by kernel_rfl) ?_ _
                      clear hHeld
                      have HBE := Lib.hid (bnext HBD.out bz2)
                      clear bz1 bz2
                      go_simp
                      go_wp2
                      go_roundw
                      case rel => exact ⟨i + 1, by go_num, by omega, HBE⟩
                      case measure => simp [intOf]; omega
                    exact AllReadyH.nil
                  exact AllReadyH.nil
                exact AllReadyH.nil
              exact AllReadyH.nil
            · have hii : ¬ (i : Int) < 2 := by omega
              clear hi
              go_wp2
              go_ret
              exact ⟨rfl, bnext HBW.out (bnext HBL.out HBR.out)⟩
      · go_upto_region 5 with fail
        clear x0 x1
        obtain ⟨Z, hZ⟩ : ∃ Z, w3.heap.size = Z := ⟨_, rfl⟩
        obtain ⟨W5, hW5, z0', z1', zbel, zsz⟩ := two_blocks w3 ZP (.cells #[.pointer none, .pointer (some ⟨Z, 0, none⟩)] 25) Z hZ
        have HZ0 := Lib.hid z0'
        have HZ1 := Lib.hid z1'
        have HZS := Lib.hid zsz
        have HBL := Lib.hid (bnext HB3.out zbel)
        have HWS := Lib.hid zbel
        clear z0' z1' zbel zsz
        have HQ : Hid (∀ U, Below W5.heap.size W5 U → ∀ i : Nat, i < 2 → ∃ v, U.cell? ⟨Z + 1, i, none⟩ = some v ∧ NoP U v) := Lib.hid fun U hU i hi => by
          have h0 := (hU.block Z (by rw [HZS.out]; omega)).trans HZ0.out
          have h1 := (hU.block (Z + 1) (by rw [HZS.out]; omega)).trans HZ1.out
          have h2 : i = 0 ∨ i = 1 := by omega
          rcases h2 with rfl | rfl
          · exact ⟨_, nd_cell h1 rfl, .inl rfl⟩
          · exact ⟨_, nd_cell h1 rfl, .inr ⟨Z, rfl, h0⟩⟩
        obtain ⟨k, hk3, hk⟩ : ∃ k : Nat, k ≤ 3 ∧ bits .and .i64 c1.h 3 = (k : Int) := and_small c1.h 3 (by omega)
        go_upto_region 6 with fail
        try rw [hW5]
        try rw [hZ]
        clear hW5 hZ
        go_loopw [43] (fun v43 wr => ∃ i : Nat, v43 = .int .i64 (i : Int) ∧ i ≤ 2 ∧ Hid (Below W5.heap.size W5 wr)) (fun v _ => 2 - (intOf v).toNat)
        case atStart => exact ⟨0, rfl, by omega, Lib.hid (Below.refl _ W5)⟩
        case round =>
          obtain ⟨i, rfl, hi2, HBR⟩ := hrel
          by_cases hi : i < 2
          · have hii : (i : Int) < 2 := by omega
            have hi0 : (0 : Int) ≤ (i : Int) := by omega
            obtain ⟨v, hv, hno⟩ := HQ.out wr HBR.out i hi
            have HNO := Lib.hid hno
            clear hno hi
            go_upto_region 8 with fail
            clear hv
            have HC := Lib.hid (nofail_any HNO.out a2)
            go_wp2_with fail
            go_at_call 31
            refine HC.out.mono ?_
            rintro e wf ⟨rfl, he⟩
            have he' := he.symm
            subst he'
            clear HC
            go_upto_region 9 with fail
            obtain ⟨wd, hwd⟩ : ∃ wd, wr.drew = wd := ⟨_, rfl⟩
            have HWD := Lib.hid hwd
            have hbd : Below wr.heap.size wr wd := by rw [← hwd]; exact Below.drew (Below.refl _ wr)
            have HND := Lib.hid (HNO.out.below hbd)
            have HBD := Lib.hid (bnext HBR.out hbd)
            have HKS : Hid (∀ U, Below wd.heap.size wd U → U.cell? ⟨B + 1, 0, none⟩ = some (.int .i64 c1.x) ∧ U.cell? ⟨B + 1, 1, none⟩ = some (.int .i64 c1.y) ∧ U.cell? ⟨B + 1, 2, none⟩ = some (.int .i64 c1.w) ∧ U.cell? ⟨B + 1, 3, none⟩ = some (.int .i64 c1.h)) := Lib.hid fun U hU => (HPS.out U (bnext HBL.out (bnext HBD.out hU))).2
            clear hwd hbd
            have hmk := make_u64 wd k (by omega)
            obtain ⟨OB, hOB⟩ : ∃ OB : Obj, (.cells ((List.replicate k (0 : Nat)).map U6).toArray 63 : Obj) = OB := ⟨_, rfl⟩
            rw [hOB] at hmk
            clear hOB
            refine wp_region_held_drew (S := (fun U => U.cell? ⟨B + 1, 0, none⟩ = some (.int .i64 c1.x) ∧ U.cell? ⟨B + 1, 1, none⟩ = some (.int .i64 c1.y) ∧ U.cell? ⟨B + 1, 2, none⟩ = some (.int .i64 c1.w) ∧ U.cell? ⟨B + 1, 3, none⟩ = some (.int .i64 c1.h))) (by kernel_rfl) ?_ (fun hHeld => ?_)
            · (rw [HWD.out]; exact HKS.out _ (Below.refl _ _))
            rw [HWD.out] at hHeld ⊢
            refine wpAnyH_take (i := 0) (oi := { dst := some 50, op := Op.move (Operand.tmp 10), type := 25, pos := "law.go:249", after := #[], guard := none }) (v := ?_) rfl (by kernel_rfl) (by kernel_rfl) (by kernel_rfl) (fun _ _ _ h => h) (Or.inl ⟨by rfl, ?_⟩) (by assumption) ?_
            rotate_left
            · ((intro w hSw; (try dsimp only at hSw); go_simp; (try rw [if_neg (by omega)])); try with_reducible rfl)
            (try simp only [Act.put, List.setIfInBounds_toArray, List.set_cons_zero, List.set_cons_succ])
            refine wpAnyH_take (i := 1) (oi := { dst := some 51, op := Op.load 31 (Operand.tmp 4), type := 31, pos := "law.go:249", after := #[], guard := none }) (v := ?_) rfl (by kernel_rfl) (by kernel_rfl) (by kernel_rfl) (fun _ _ _ h => h) (Or.inl ⟨by rfl, ?_⟩) (by assumption) ?_
            rotate_left
            · ((intro w hSw; (try dsimp only at hSw); go_simp; (try rw [if_neg (by omega)])); try with_reducible rfl)
            (try simp only [Act.put, List.setIfInBounds_toArray, List.set_cons_zero, List.set_cons_succ])
            refine wpAnyH_take (i := 2) (oi := { dst := some 52, op := Op.fieldAddr 31 (Operand.tmp 4) 3, type := 0, pos := "law.go:249", after := #[], guard := none }) (v := ?_) rfl (by kernel_rfl) (by kernel_rfl) (by kernel_rfl) (fun _ _ _ h => h) (Or.inl ⟨by rfl, ?_⟩) (by assumption) ?_
            rotate_left
            · ((intro w hSw; (try dsimp only at hSw); go_simp; (try rw [if_neg (by omega)])); try with_reducible rfl)
            (try simp only [Act.put, List.setIfInBounds_toArray, List.set_cons_zero, List.set_cons_succ])
            refine wpAnyH_take (i := 3) (oi := { dst := some 53, op := Op.load 3 (Operand.tmp 52), type := 3, pos := "law.go:249", after := #[{ on := 2, ground := Ground.data }], guard := none }) (v := ?_) rfl (by kernel_rfl) (by kernel_rfl) (by kernel_rfl) (fun _ _ _ h => h) (Or.inl ⟨by rfl, ?_⟩) (by assumption) ?_
            rotate_left
            · ((intro w hSw; (try dsimp only at hSw); go_simp; (try rw [if_neg (by omega)])); try with_reducible rfl)
            (try simp only [Act.put, List.setIfInBounds_toArray, List.set_cons_zero, List.set_cons_succ])
            refine wpAnyH_take (i := 4) (oi := { dst := some 54, op := Op.binOp BinOp.and 3 (Operand.tmp 53) (Operand.const (Value.int IntKind.i64 3)) 3, type := 3, pos := "law.go:249", after := #[{ on := 3, ground := Ground.data }], guard := none }) (v := ?_) rfl (by kernel_rfl) (by kernel_rfl) (by kernel_rfl) (fun _ _ _ h => h) (Or.inl ⟨by rfl, ?_⟩) (by assumption) ?_
            rotate_left
            · ((intro w hSw; (try dsimp only at hSw); go_simp; (try rw [if_neg (by omega)])); try with_reducible rfl)
            (try simp only [Act.put, List.setIfInBounds_toArray, List.set_cons_zero, List.set_cons_succ])
            refine wpAnyH_ready (rs := [5]) (by kernel_rfl) (by simp) ?_
            refine AllReadyH.cons (o := { dst := some 55, op := Op.makeSlice 32 (Operand.tmp 54) (Operand.tmp 54), type := 32, pos := "law.go:249", after := #[{ on := 4, ground := Ground.data }, { on := 4, ground := Ground.data }], guard := none }) rfl (fun K hK => ?_) ?_
            · (go_simp; have bz1 := balloc (Below.refl _ wd) OB)
              refine hK.out _ _ ?_ (fun hHeld => ?_)
              · exact HKS.out _ bz1
              clear hK K
              (try simp only [Act.put, List.setIfInBounds_toArray, List.set_cons_zero, List.set_cons_succ])
              refine wpAnyH_ready (rs := [6]) (by kernel_rfl) (by simp) ?_
              refine AllReadyH.cons (o := { dst := some 56, op := Op.call { callee := Callee.value (Operand.func 30), args := #[Operand.tmp 50, Operand.tmp 51, Operand.tmp 55], argTypes := #[25, 31, 32] }, type := 59, pos := "law.go:249", after := #[{ on := 0, ground := Ground.data }, { on := 1, ground := Ground.data }, { on := 5, ground := Ground.data }], guard := none }) rfl (fun K hK => ?_) ?_
              · (go_simp; go_at_call 30; refine (nowrite_any ((HND.out).below bz1) c1 _).mono ?_; rintro u wz2 ⟨rfl, dz⟩; have bz2 := bnext bz1 dz; dsimp only)
                refine hK.out _ _ ?_ (fun hHeld => ?_)
                · exact HKS.out _ bz2
                clear hK K
                (try simp only [Act.put, List.setIfInBounds_toArray, List.set_cons_zero, List.set_cons_succ])
                refine wpAnyH_take (i := 7) (oi := { dst := some 57, op := Op.binOp BinOp.neq 59 (Operand.tmp 56) (Operand.const (Value.int IntKind.i64 1)) 59, type := 4, pos := "law.go:249", after := #[{ on := 6, ground := Ground.data }], guard := none }) (v := ?_) rfl (by kernel_rfl) (by kernel_rfl) (by kernel_rfl) (fun _ _ _ h => h) (Or.inl ⟨by rfl, ?_⟩) (by assumption) ?_
                rotate_left
                · ((intro w hSw; (try dsimp only at hSw); go_simp; (try rw [if_neg (by omega)])); try with_reducible rfl)
                (try simp only [Act.put, List.setIfInBounds_toArray, List.set_cons_zero, List.set_cons_succ])
                refine wpAnyH_take (i := 8) (oi := { dst := some 58, op := Op.move (Operand.tmp 57), type := 4, pos := "law.go:249", after := #[{ on := 7, ground := Ground.data }, { on := 6, ground := Ground.chain }], guard := none }) (v := ?_) rfl (by kernel_rfl) (by kernel_rfl) (by kernel_rfl) (fun _ _ _ h => h) (Or.inl ⟨by rfl, ?_⟩) (by assumption) ?_
                rotate_left
                · ((intro w hSw; (try dsimp only at hSw); go_simp; (try rw [if_neg (by omega)])); try with_reducible rfl)
                (try simp only [Act.put, List.setIfInBounds_toArray, List.set_cons_zero, List.set_cons_succ])
                refine wpAnyH_take (i := 9) (oi := { dst := some 59, op := Op.move (Operand.tmp 10), type := 25, pos := "law.go:249", after := #[{ on := 8, ground := Ground.guard }], guard := some (8, false) }) (v := ?_) rfl (by kernel_rfl) (by kernel_rfl) (by kernel_rfl) (fun _ _ _ h => h) (Or.inl ⟨by rfl, ?_⟩) (by assumption) ?_
                rotate_left
                · ((intro w hSw; (try dsimp only at hSw); go_simp; (try rw [if_neg (by omega)])); try with_reducible rfl)
                (try simp only [Act.put, List.setIfInBounds_toArray, List.set_cons_zero, List.set_cons_succ])
                refine wpAnyH_ready (rs := [10]) (by kernel_rfl) (by simp) ?_
                refine AllReadyH.cons (o := { dst := some 60, op := Op.call { callee := Callee.value (Operand.func 16), args := #[Operand.tmp 59], argTypes := #[25] }, type := 32, pos := "law.go:249", after := #[{ on := 9, ground := Ground.data }, { on := 8, ground := Ground.chain }, { on := 8, ground := Ground.guard }], guard := some (8, false) }) rfl (fun K hK => ?_) ?_
                · (go_simp; go_at_call 16; refine (nopixels_any ((HND.out).below bz2)).mono ?_; rintro u wz3 ⟨rfl, he⟩; have he' := he.symm; subst he'; dsimp only)
                  refine hK.out _ _ ?_ (fun hHeld => ?_)
                  · exact HKS.out _ bz2
                  clear hK K
                  (try simp only [Act.put, List.setIfInBounds_toArray, List.set_cons_zero, List.set_cons_succ])
                  refine wpAnyH_take (i := 11) (oi := { dst := some 61, op := Op.call { callee := Callee.builtin Builtin.len, args := #[Operand.tmp 60], argTypes := #[32] }, type := 3, pos := "law.go:249", after := #[{ on := 10, ground := Ground.data }, { on := 8, ground := Ground.guard }], guard := some (8, false) }) (v := ?_) rfl (by kernel_rfl) (by kernel_rfl) (by kernel_rfl) (fun _ _ _ h => h) (Or.inl ⟨by rfl, ?_⟩) (by assumption) ?_
                  rotate_left
                  · ((intro w hSw; (try dsimp only at hSw); go_simp; (try rw [if_neg (by omega)])); try with_reducible rfl)
                  (try simp only [Act.put, List.setIfInBounds_toArray, List.set_cons_zero, List.set_cons_succ])
                  refine wpAnyH_take (i := 12) (oi := { dst := some 62, op := Op.binOp BinOp.neq 3 (Operand.tmp 61) (Operand.const (Value.int IntKind.i64 0)) 3, type := 4, pos := "law.go:249", after := #[{ on := 11, ground := Ground.data }, { on := 8, ground := Ground.guard }], guard := some (8, false) }) (v := ?_) rfl (by kernel_rfl) (by kernel_rfl) (by kernel_rfl) (fun _ _ _ h => h) (Or.inl ⟨by rfl, ?_⟩) (by assumption) ?_
                  rotate_left
                  · ((intro w hSw; (try dsimp only at hSw); go_simp; (try rw [if_neg (by omega)])); try with_reducible rfl)
                  (try simp only [Act.put, List.setIfInBounds_toArray, List.set_cons_zero, List.set_cons_succ])
                  refine wpAnyH_take (i := 13) (oi := { dst := some 63, op := Op.pick (Operand.tmp 58) (Operand.const (Value.bool true)) (Operand.tmp 62), type := 4, pos := "law.go:249", after := #[{ on := 8, ground := Ground.data }, { on := 12, ground := Ground.data }], guard := none }) (v := ?_) rfl (by kernel_rfl) (by kernel_rfl) (by kernel_rfl) (fun _ _ _ h => h) (Or.inl ⟨by rfl, ?_⟩) (by assumption) ?_
                  rotate_left
                  · ((intro w hSw; (try dsimp only at hSw); go_simp; (try rw [if_neg (by omega)])); try with_reducible rfl)
                  (try simp only [Act.put, List.setIfInBounds_toArray, List.set_cons_zero, List.set_cons_succ])
                  refine wpAnyH_take (i := 14) (oi := { dst := some 64, op := Op.move (Operand.tmp 63), type := 4, pos := "law.go:249", after := #[{ on := 13, ground := Ground.data }, { on := 10, ground := Ground.chain }], guard := none }) (v := ?_) rfl (by kernel_rfl) (by kernel_rfl) (by kernel_rfl) (fun _ _ _ h => h) (Or.inl ⟨by rfl, ?_⟩) (by assumption) ?_
                  rotate_left
                  · ((intro w hSw; (try dsimp only at hSw); go_simp; (try rw [if_neg (by omega)])); try with_reducible rfl)
                  (try simp only [Act.put, List.setIfInBounds_toArray, List.set_cons_zero, List.set_cons_succ])
                  refine wpAnyH_take (i := 15) (oi := { dst := some 65, op := Op.move (Operand.tmp 10), type := 25, pos := "law.go:249", after := #[{ on := 14, ground := Ground.guard }], guard := some (14, false) }) (v := ?_) rfl (by kernel_rfl) (by kernel_rfl) (by kernel_rfl) (fun _ _ _ h => h) (Or.inl ⟨by rfl, ?_⟩) (by assumption) ?_
                  rotate_left
                  · ((intro w hSw; (try dsimp only at hSw); go_simp; (try rw [if_neg (by omega)])); try with_reducible rfl)
                  (try simp only [Act.put, List.setIfInBounds_toArray, List.set_cons_zero, List.set_cons_succ])
                  refine wpAnyH_ready (rs := [16]) (by kernel_rfl) (by simp) ?_
                  refine AllReadyH.cons (o := { dst := some 66, op := Op.call { callee := Callee.value (Operand.func 18), args := #[Operand.tmp 65], argTypes := #[25] }, type := 3, pos := "law.go:249", after := #[{ on := 15, ground := Ground.data }, { on := 14, ground := Ground.chain }, { on := 14, ground := Ground.guard }], guard := some (14, false) }) rfl (fun K hK => ?_) ?_
                  · (go_simp; go_at_call 18; refine (noupdates_any ((HND.out).below bz2)).mono ?_; rintro u wz4 ⟨rfl, he⟩; have he' := he.symm; subst he'; dsimp only)
                    refine hK.out _ _ ?_ (fun hHeld => ?_)
                    · exact HKS.out _ bz2
                    clear hK K
                    (try simp only [Act.put, List.setIfInBounds_toArray, List.set_cons_zero, List.set_cons_succ])
                    refine wpAnyH_take (i := 17) (oi := { dst := some 67, op := Op.binOp BinOp.neq 3 (Operand.tmp 66) (Operand.const (Value.int IntKind.i64 0)) 3, type := 4, pos := "law.go:249", after := #[{ on := 16, ground := Ground.data }, { on := 14, ground := Ground.guard }], guard := some (14, false) }) (v := ?_) rfl (by kernel_rfl) (by kernel_rfl) (by kernel_rfl) (fun _ _ _ h => h) (Or.inl ⟨by rfl, ?_⟩) (by assumption) ?_
                    rotate_left
                    · ((intro w hSw; (try dsimp only at hSw); go_simp; (try rw [if_neg (by omega)])); try with_reducible rfl)
                    (try simp only [Act.put, List.setIfInBounds_toArray, List.set_cons_zero, List.set_cons_succ])
                    refine wpAnyH_take (i := 18) (oi := { dst := some 68, op := Op.pick (Operand.tmp 64) (Operand.const (Value.bool true)) (Operand.tmp 67), type := 4, pos := "law.go:249", after := #[{ on := 14, ground := Ground.data }, { on := 17, ground := Ground.data }], guard := none }) (v := ?_) rfl (by kernel_rfl) (by kernel_rfl) (by kernel_rfl) (fun _ _ _ h => h) (Or.inl ⟨by rfl, ?_⟩) (by assumption) ?_
                    rotate_left
                    · ((intro w hSw; (try dsimp only at hSw); go_simp; (try rw [if_neg (by omega)])); try with_reducible rfl)
                    (try simp only [Act.put, List.setIfInBounds_toArray, List.set_cons_zero, List.set_cons_succ])
                    refine wpAnyH_done (by kernel_rfl) ?_ _
                    clear hHeld
                    have HBE := Lib.hid (bnext HBD.out bz2)
                    clear bz1 bz2
                    go_simp
                    go_wp2
                    go_roundw
                    case rel => exact ⟨i + 1, by go_num, by omega, HBE⟩
                    case measure => simp [intOf]; omega
                  exact AllReadyH.nil
                exact AllReadyH.nil
              exact AllReadyH.nil
            exact AllReadyH.nil
          · have hii : ¬ (i : Int) < 2 := by omega
            clear hi
            go_wp2
            go_ret
            exact ⟨rfl, bnext HBW.out (bnext HBL.out HBR.out)⟩
    · go_upto_region 5 with fail
      clear x0 x1
      obtain ⟨Z, hZ⟩ : ∃ Z, w3.heap.size = Z := ⟨_, rfl⟩
      obtain ⟨W5, hW5, z0', z1', zbel, zsz⟩ := two_blocks w3 ZP (.cells #[.pointer none, .pointer (some ⟨Z, 0, none⟩)] 25) Z hZ
      have HZ0 := Lib.hid z0'
      have HZ1 := Lib.hid z1'
      have HZS := Lib.hid zsz
      have HBL := Lib.hid (bnext HB3.out zbel)
      have HWS := Lib.hid zbel
      clear z0' z1' zbel zsz
      have HQ : Hid (∀ U, Below W5.heap.size W5 U → ∀ i : Nat, i < 2 → ∃ v, U.cell? ⟨Z + 1, i, none⟩ = some v ∧ NoP U v) := Lib.hid fun U hU i hi => by
        have h0 := (hU.block Z (by rw [HZS.out]; omega)).trans HZ0.out
        have h1 := (hU.block (Z + 1) (by rw [HZS.out]; omega)).trans HZ1.out
        have h2 : i = 0 ∨ i = 1 := by omega
        rcases h2 with rfl | rfl
        · exact ⟨_, nd_cell h1 rfl, .inl rfl⟩
        · exact ⟨_, nd_cell h1 rfl, .inr ⟨Z, rfl, h0⟩⟩
      obtain ⟨k, hk3, hk⟩ : ∃ k : Nat, k ≤ 3 ∧ bits .and .i64 c1.h 3 = (k : Int) := and_small c1.h 3 (by omega)
      go_upto_region 6 with fail
      try rw [hW5]
      try rw [hZ]
      clear hW5 hZ
      go_loopw [43] (fun v43 wr => ∃ i : Nat, v43 = .int .i64 (i : Int) ∧ i ≤ 2 ∧ Hid (Below W5.heap.size W5 wr)) (fun v _ => 2 - (intOf v).toNat)
      case atStart => exact ⟨0, rfl, by omega, Lib.hid (Below.refl _ W5)⟩
      case round =>
        obtain ⟨i, rfl, hi2, HBR⟩ := hrel
        by_cases hi : i < 2
        · have hii : (i : Int) < 2 := by omega
          have hi0 : (0 : Int) ≤ (i : Int) := by omega
          obtain ⟨v, hv, hno⟩ := HQ.out wr HBR.out i hi
          have HNO := Lib.hid hno
          clear hno hi
          go_upto_region 8 with fail
          clear hv
          have HC := Lib.hid (nofail_any HNO.out a2)
          go_wp2_with fail
          go_at_call 31
          refine HC.out.mono ?_
          rintro e wf ⟨rfl, he⟩
          have he' := he.symm
          subst he'
          clear HC
          go_upto_region 9 with fail
          obtain ⟨wd, hwd⟩ : ∃ wd, wr.drew = wd := ⟨_, rfl⟩
          have HWD := Lib.hid hwd
          have hbd : Below wr.heap.size wr wd := by rw [← hwd]; exact Below.drew (Below.refl _ wr)
          have HND := Lib.hid (HNO.out.below hbd)
          have HBD := Lib.hid (bnext HBR.out hbd)
          have HKS : Hid (∀ U, Below wd.heap.size wd U → U.cell? ⟨B + 1, 0, none⟩ = some (.int .i64 c1.x) ∧ U.cell? ⟨B + 1, 1, none⟩ = some (.int .i64 c1.y) ∧ U.cell? ⟨B + 1, 2, none⟩ = some (.int .i64 c1.w) ∧ U.cell? ⟨B + 1, 3, none⟩ = some (.int .i64 c1.h)) := Lib.hid fun U hU => (HPS.out U (bnext HBL.out (bnext HBD.out hU))).2
          clear hwd hbd
          have hmk := make_u64 wd k (by omega)
          obtain ⟨OB, hOB⟩ : ∃ OB : Obj, (.cells ((List.replicate k (0 : Nat)).map U6).toArray 63 : Obj) = OB := ⟨_, rfl⟩
          rw [hOB] at hmk
          clear hOB
          refine wp_region_held_drew (S := (fun U => U.cell? ⟨B + 1, 0, none⟩ = some (.int .i64 c1.x) ∧ U.cell? ⟨B + 1, 1, none⟩ = some (.int .i64 c1.y) ∧ U.cell? ⟨B + 1, 2, none⟩ = some (.int .i64 c1.w) ∧ U.cell? ⟨B + 1, 3, none⟩ = some (.int .i64 c1.h))) (by kernel_rfl) ?_ (fun hHeld => ?_)
          · (rw [HWD.out]; exact HKS.out _ (Below.refl _ _))
          rw [HWD.out] at hHeld ⊢
          refine wpAnyH_take (i := 0) (oi := { dst := some 50, op := Op.move (Operand.tmp 10), type := 25, pos := "law.go:249", after := #[], guard := none }) (v := ?_) rfl (by kernel_rfl) (by kernel_rfl) (by kernel_rfl) (fun _ _ _ h => h) (Or.inl ⟨by rfl, ?_⟩) (by assumption) ?_
          rotate_left
          · ((intro w hSw; (try dsimp only at hSw); go_simp; (try rw [if_neg (by omega)])); try with_reducible rfl)
          (try simp only [Act.put, List.setIfInBounds_toArray, List.set_cons_zero, List.set_cons_succ])
          refine wpAnyH_take (i := 1) (oi := { dst := some 51, op := Op.load 31 (Operand.tmp 4), type := 31, pos := "law.go:249", after := #[], guard := none }) (v := ?_) rfl (by kernel_rfl) (by kernel_rfl) (by kernel_rfl) (fun _ _ _ h => h) (Or.inl ⟨by rfl, ?_⟩) (by assumption) ?_
          rotate_left
          · ((intro w hSw; (try dsimp only at hSw); go_simp; (try rw [if_neg (by omega)])); try with_reducible rfl)
          (try simp only [Act.put, List.setIfInBounds_toArray, List.set_cons_zero, List.set_cons_succ])
          refine wpAnyH_take (i := 2) (oi := { dst := some 52, op := Op.fieldAddr 31 (Operand.tmp 4) 3, type := 0, pos := "law.go:249", after := #[], guard := none }) (v := ?_) rfl (by kernel_rfl) (by kernel_rfl) (by kernel_rfl) (fun _ _ _ h => h) (Or.inl ⟨by rfl, ?_⟩) (by assumption) ?_
          rotate_left
          · ((intro w hSw; (try dsimp only at hSw); go_simp; (try rw [if_neg (by omega)])); try with_reducible rfl)
          (try simp only [Act.put, List.setIfInBounds_toArray, List.set_cons_zero, List.set_cons_succ])
          refine wpAnyH_take (i := 3) (oi := { dst := some 53, op := Op.load 3 (Operand.tmp 52), type := 3, pos := "law.go:249", after := #[{ on := 2, ground := Ground.data }], guard := none }) (v := ?_) rfl (by kernel_rfl) (by kernel_rfl) (by kernel_rfl) (fun _ _ _ h => h) (Or.inl ⟨by rfl, ?_⟩) (by assumption) ?_
          rotate_left
          · ((intro w hSw; (try dsimp only at hSw); go_simp; (try rw [if_neg (by omega)])); try with_reducible rfl)
          (try simp only [Act.put, List.setIfInBounds_toArray, List.set_cons_zero, List.set_cons_succ])
          refine wpAnyH_take (i := 4) (oi := { dst := some 54, op := Op.binOp BinOp.and 3 (Operand.tmp 53) (Operand.const (Value.int IntKind.i64 3)) 3, type := 3, pos := "law.go:249", after := #[{ on := 3, ground := Ground.data }], guard := none }) (v := ?_) rfl (by kernel_rfl) (by kernel_rfl) (by kernel_rfl) (fun _ _ _ h => h) (Or.inl ⟨by rfl, ?_⟩) (by assumption) ?_
          rotate_left
          · ((intro w hSw; (try dsimp only at hSw); go_simp; (try rw [if_neg (by omega)])); try with_reducible rfl)
          (try simp only [Act.put, List.setIfInBounds_toArray, List.set_cons_zero, List.set_cons_succ])
          refine wpAnyH_ready (rs := [5]) (by kernel_rfl) (by simp) ?_
          refine AllReadyH.cons (o := { dst := some 55, op := Op.makeSlice 32 (Operand.tmp 54) (Operand.tmp 54), type := 32, pos := "law.go:249", after := #[{ on := 4, ground := Ground.data }, { on := 4, ground := Ground.data }], guard := none }) rfl (fun K hK => ?_) ?_
          · (go_simp; have bz1 := balloc (Below.refl _ wd) OB)
            refine hK.out _ _ ?_ (fun hHeld => ?_)
            · exact HKS.out _ bz1
            clear hK K
            (try simp only [Act.put, List.setIfInBounds_toArray, List.set_cons_zero, List.set_cons_succ])
            refine wpAnyH_ready (rs := [6]) (by kernel_rfl) (by simp) ?_
            refine AllReadyH.cons (o := { dst := some 56, op := Op.call { callee := Callee.value (Operand.func 30), args := #[Operand.tmp 50, Operand.tmp 51, Operand.tmp 55], argTypes := #[25, 31, 32] }, type := 59, pos := "law.go:249", after := #[{ on := 0, ground := Ground.data }, { on := 1, ground := Ground.data }, { on := 5, ground := Ground.data }], guard := none }) rfl (fun K hK => ?_) ?_
            · (go_simp; go_at_call 30; refine (nowrite_any ((HND.out).below bz1) c1 _).mono ?_; rintro u wz2 ⟨rfl, dz⟩; have bz2 := bnext bz1 dz; dsimp only)
              refine hK.out _ _ ?_ (fun hHeld => ?_)
              · exact HKS.out _ bz2
              clear hK K
              (try simp only [Act.put, List.setIfInBounds_toArray, List.set_cons_zero, List.set_cons_succ])
              refine wpAnyH_take (i := 7) (oi := { dst := some 57, op := Op.binOp BinOp.neq 59 (Operand.tmp 56) (Operand.const (Value.int IntKind.i64 1)) 59, type := 4, pos := "law.go:249", after := #[{ on := 6, ground := Ground.data }], guard := none }) (v := ?_) rfl (by kernel_rfl) (by kernel_rfl) (by kernel_rfl) (fun _ _ _ h => h) (Or.inl ⟨by rfl, ?_⟩) (by assumption) ?_
              rotate_left
              · ((intro w hSw; (try dsimp only at hSw); go_simp; (try rw [if_neg (by omega)])); try with_reducible rfl)
              (try simp only [Act.put, List.setIfInBounds_toArray, List.set_cons_zero, List.set_cons_succ])
              refine wpAnyH_take (i := 8) (oi := { dst := some 58, op := Op.move (Operand.tmp 57), type := 4, pos := "law.go:249", after := #[{ on := 7, ground := Ground.data }, { on := 6, ground := Ground.chain }], guard := none }) (v := ?_) rfl (by kernel_rfl) (by kernel_rfl) (by kernel_rfl) (fun _ _ _ h => h) (Or.inl ⟨by rfl, ?_⟩) (by assumption) ?_
              rotate_left
              · ((intro w hSw; (try dsimp only at hSw); go_simp; (try rw [if_neg (by omega)])); try with_reducible rfl)
              (try simp only [Act.put, List.setIfInBounds_toArray, List.set_cons_zero, List.set_cons_succ])
              refine wpAnyH_take (i := 9) (oi := { dst := some 59, op := Op.move (Operand.tmp 10), type := 25, pos := "law.go:249", after := #[{ on := 8, ground := Ground.guard }], guard := some (8, false) }) (v := ?_) rfl (by kernel_rfl) (by kernel_rfl) (by kernel_rfl) (fun _ _ _ h => h) (Or.inl ⟨by rfl, ?_⟩) (by assumption) ?_
              rotate_left
              · ((intro w hSw; (try dsimp only at hSw); go_simp; (try rw [if_neg (by omega)])); try with_reducible rfl)
              (try simp only [Act.put, List.setIfInBounds_toArray, List.set_cons_zero, List.set_cons_succ])
              refine wpAnyH_ready (rs := [10]) (by kernel_rfl) (by simp) ?_
              refine AllReadyH.cons (o := { dst := some 60, op := Op.call { callee := Callee.value (Operand.func 16), args := #[Operand.tmp 59], argTypes := #[25] }, type := 32, pos := "law.go:249", after := #[{ on := 9, ground := Ground.data }, { on := 8, ground := Ground.chain }, { on := 8, ground := Ground.guard }], guard := some (8, false) }) rfl (fun K hK => ?_) ?_
              · (go_simp; go_at_call 16; refine (nopixels_any ((HND.out).below bz2)).mono ?_; rintro u wz3 ⟨rfl, he⟩; have he' := he.symm; subst he'; dsimp only)
                refine hK.out _ _ ?_ (fun hHeld => ?_)
                · exact HKS.out _ bz2
                clear hK K
                (try simp only [Act.put, List.setIfInBounds_toArray, List.set_cons_zero, List.set_cons_succ])
                refine wpAnyH_take (i := 11) (oi := { dst := some 61, op := Op.call { callee := Callee.builtin Builtin.len, args := #[Operand.tmp 60], argTypes := #[32] }, type := 3, pos := "law.go:249", after := #[{ on := 10, ground := Ground.data }, { on := 8, ground := Ground.guard }], guard := some (8, false) }) (v := ?_) rfl (by kernel_rfl) (by kernel_rfl) (by kernel_rfl) (fun _ _ _ h => h) (Or.inl ⟨by rfl, ?_⟩) (by assumption) ?_
                rotate_left
                · ((intro w hSw; (try dsimp only at hSw); go_simp; (try rw [if_neg (by omega)])); try with_reducible rfl)
                (try simp only [Act.put, List.setIfInBounds_toArray, List.set_cons_zero, List.set_cons_succ])
                refine wpAnyH_take (i := 12) (oi := { dst := some 62, op := Op.binOp BinOp.neq 3 (Operand.tmp 61) (Operand.const (Value.int IntKind.i64 0)) 3, type := 4, pos := "law.go:249", after := #[{ on := 11, ground := Ground.data }, { on := 8, ground := Ground.guard }], guard := some (8, false) }) (v := ?_) rfl (by kernel_rfl) (by kernel_rfl) (by kernel_rfl) (fun _ _ _ h => h) (Or.inl ⟨by rfl, ?_⟩) (by assumption) ?_
                rotate_left
                · ((intro w hSw; (try dsimp only at hSw); go_simp; (try rw [if_neg (by omega)])); try with_reducible rfl)
                (try simp only [Act.put, List.setIfInBounds_toArray, List.set_cons_zero, List.set_cons_succ])
                refine wpAnyH_take (i := 13) (oi := { dst := some 63, op := Op.pick (Operand.tmp 58) (Operand.const (Value.bool true)) (Operand.tmp 62), type := 4, pos := "law.go:249", after := #[{ on := 8, ground := Ground.data }, { on := 12, ground := Ground.data }], guard := none }) (v := ?_) rfl (by kernel_rfl) (by kernel_rfl) (by kernel_rfl) (fun _ _ _ h => h) (Or.inl ⟨by rfl, ?_⟩) (by assumption) ?_
                rotate_left
                · ((intro w hSw; (try dsimp only at hSw); go_simp; (try rw [if_neg (by omega)])); try with_reducible rfl)
                (try simp only [Act.put, List.setIfInBounds_toArray, List.set_cons_zero, List.set_cons_succ])
                refine wpAnyH_take (i := 14) (oi := { dst := some 64, op := Op.move (Operand.tmp 63), type := 4, pos := "law.go:249", after := #[{ on := 13, ground := Ground.data }, { on := 10, ground := Ground.chain }], guard := none }) (v := ?_) rfl (by kernel_rfl) (by kernel_rfl) (by kernel_rfl) (fun _ _ _ h => h) (Or.inl ⟨by rfl, ?_⟩) (by assumption) ?_
                rotate_left
                · ((intro w hSw; (try dsimp only at hSw); go_simp; (try rw [if_neg (by omega)])); try with_reducible rfl)
                (try simp only [Act.put, List.setIfInBounds_toArray, List.set_cons_zero, List.set_cons_succ])
                refine wpAnyH_take (i := 15) (oi := { dst := some 65, op := Op.move (Operand.tmp 10), type := 25, pos := "law.go:249", after := #[{ on := 14, ground := Ground.guard }], guard := some (14, false) }) (v := ?_) rfl (by kernel_rfl) (by kernel_rfl) (by kernel_rfl) (fun _ _ _ h => h) (Or.inl ⟨by rfl, ?_⟩) (by assumption) ?_
                rotate_left
                · ((intro w hSw; (try dsimp only at hSw); go_simp; (try rw [if_neg (by omega)])); try with_reducible rfl)
                (try simp only [Act.put, List.setIfInBounds_toArray, List.set_cons_zero, List.set_cons_succ])
                refine wpAnyH_ready (rs := [16]) (by kernel_rfl) (by simp) ?_
                refine AllReadyH.cons (o := { dst := some 66, op := Op.call { callee := Callee.value (Operand.func 18), args := #[Operand.tmp 65], argTypes := #[25] }, type := 3, pos := "law.go:249", after := #[{ on := 15, ground := Ground.data }, { on := 14, ground := Ground.chain }, { on := 14, ground := Ground.guard }], guard := some (14, false) }) rfl (fun K hK => ?_) ?_
                · (go_simp; go_at_call 18; refine (noupdates_any ((HND.out).below bz2)).mono ?_; rintro u wz4 ⟨rfl, he⟩; have he' := he.symm; subst he'; dsimp only)
                  refine hK.out _ _ ?_ (fun hHeld => ?_)
                  · exact HKS.out _ bz2
                  clear hK K
                  (try simp only [Act.put, List.setIfInBounds_toArray, List.set_cons_zero, List.set_cons_succ])
                  refine wpAnyH_take (i := 17) (oi := { dst := some 67, op := Op.binOp BinOp.neq 3 (Operand.tmp 66) (Operand.const (Value.int IntKind.i64 0)) 3, type := 4, pos := "law.go:249", after := #[{ on := 16, ground := Ground.data }, { on := 14, ground := Ground.guard }], guard := some (14, false) }) (v := ?_) rfl (by kernel_rfl) (by kernel_rfl) (by kernel_rfl) (fun _ _ _ h => h) (Or.inl ⟨by rfl, ?_⟩) (by assumption) ?_
                  rotate_left
                  · ((intro w hSw; (try dsimp only at hSw); go_simp; (try rw [if_neg (by omega)])); try with_reducible rfl)
                  (try simp only [Act.put, List.setIfInBounds_toArray, List.set_cons_zero, List.set_cons_succ])
                  refine wpAnyH_take (i := 18) (oi := { dst := some 68, op := Op.pick (Operand.tmp 64) (Operand.const (Value.bool true)) (Operand.tmp 67), type := 4, pos := "law.go:249", after := #[{ on := 14, ground := Ground.data }, { on := 17, ground := Ground.data }], guard := none }) (v := ?_) rfl (by kernel_rfl) (by kernel_rfl) (by kernel_rfl) (fun _ _ _ h => h) (Or.inl ⟨by rfl, ?_⟩) (by assumption) ?_
                  rotate_left
                  · ((intro w hSw; (try dsimp only at hSw); go_simp; (try rw [if_neg (by omega)])); try with_reducible rfl)
                  (try simp only [Act.put, List.setIfInBounds_toArray, List.set_cons_zero, List.set_cons_succ])
                  refine wpAnyH_done (by kernel_rfl) ?_ _
                  clear hHeld
                  have HBE := Lib.hid (bnext HBD.out bz2)
                  clear bz1 bz2
                  go_simp
                  go_wp2
                  go_roundw
                  case rel => exact ⟨i + 1, by go_num, by omega, HBE⟩
                  case measure => simp [intOf]; omega
                exact AllReadyH.nil
              exact AllReadyH.nil
            exact AllReadyH.nil
          exact AllReadyH.nil
        · have hii : ¬ (i : Int) < 2 := by omega
          clear hi
          go_wp2
          go_ret
          exact ⟨rfl, bnext HBW.out (bnext HBL.out HBR.out)⟩

set_option maxRecDepth 100000 in
theorem lifted (os : Os) (started : os.Started) (H : Type) (enc : TypeId × Value → H) :
    ReturnsInHanded {} Tryd.checked os 10 .any (fun w args => (Rows.panelNoneSpec.pre enc Tryd.prog Tryd.f10 [] false w args ∧ laidMetH Tryd.prog laidL w) ∧ sizedMet enc Tryd.prog Tryd.f10 (OpenSpec.ofChange Rows.panelNoneSpec) false w args)
      (Rows.panelNoneSpec.post enc Tryd.prog Tryd.f10 false true false false) := by
  refine returnsInHanded_of_change_and (C := Tryd.checked) (X := fun w _ => laidMetH Tryd.prog laidL w) (fun _ _ _ hh h => h.of_heap hh) own started (by kernel_rfl) Tryd.func10
    (ChangeSpec.witness_shaped (enc := enc) (C := Tryd.checked) (os := os) (X := fun w _ => laidMetH Tryd.prog laidL w) false (World.doorLaid Tryd.prog 46 os) #[.agg #[.int .i64 0, .int .i64 0], .agg #[.int .i64 0, .int .i64 0, .int .i64 0, .int .i64 0], .int .i64 0] 8 rfl (World.shaped_of_RefB (by kernel_rfl) (by kernel_rfl)) (by kernel_rfl) (by kernel_rfl) (by kernel_rfl) (door_met os _)) ?_
  intro W base args ds gs before hval0 hW _ _ hL _
  have hval : ∀ (j : Nat) t v, Tryd.f10.params[j]? = some t → args[j]? = some v → Value.okWide Tryd.prog W .any base t v := hval0
  have hW' := hW
  obtain ⟨p, q, hA0, hV, rfl, hfz, hnd⟩ := hW
  have hA : DataW.TrodAll enc Tryd.prog W 0 (fun _ => true) true Tryd.f10.params.toList args.toList ds p := hA0
  rw [Tryd.params10] at hA hval
  obtain ⟨v0, vs0, d0, ds0, p0, q0, hargs, rfl, rfl, h0, r0⟩ := trodAll_cons hA
  obtain ⟨v1, vs1, d1, ds1, p1, q1, rfl, rfl, rfl, h1, r1⟩ := trodAll_cons r0
  obtain ⟨v2, vs2, d2, ds2, p2, q2, rfl, rfl, rfl, h2, r2⟩ := trodAll_cons r1
  obtain ⟨rfl, rfl, rfl⟩ := trodAll_nil r2
  obtain rfl : args = #[v0, v1, v2] := by cases args; simp_all
  obtain ⟨rfl, rfl⟩ := trodVars_none hV
  obtain ⟨g, hlaid⟩ := of_laid hL
  have k0 := h0
  have lt0 : ∀ x ∈ p0, x.block < W.heap.size := by obtain ⟨m, hm⟩ := k0; exact DataW.trod_lt m _ _ _ hm
  have k1 := h1
  have lt1 : ∀ x ∈ p1, x.block < W.heap.size := by obtain ⟨m, hm⟩ := k1; exact DataW.trod_lt m _ _ _ hm
  have k2 := h2
  have lt2 : ∀ x ∈ p2, x.block < W.heap.size := by obtain ⟨m, hm⟩ := k2; exact DataW.trod_lt m _ _ _ hm
  obtain ⟨a0, b0, rfl, wa0, wb0⟩ := open_arr2 Tryd.underlying68 Tryd.underlying3 (by kernel_rfl) (by kernel_rfl) (hval 0 68 v0 rfl rfl) h0
  obtain ⟨c1, rfl, H1⟩ := open_rc (hval 1 31 v1 rfl rfl) h1
  obtain ⟨a2, rfl, rfl, rfl, wa2⟩ := open_int Tryd.underlying3 (hval 2 3 v2 rfl rfl) h2
  clear hA0 hval0
  refine (walk a0 b0 c1 a2 g wa0 wb0 wa2 W hlaid H1).mono fun e W' ⟨he, bel⟩ => ?_
  subst he
  exact ⟨_, rfl, _, _, _, [], _, [], hW', trodAll_mk1 (shut_bool Tryd.underlying4 _), (trodAll_cons_mk (Below.trod laidOut (by kernel_rfl) (of_decide_eq_true (by kernel_rfl)) k0 bel lt0) (trodAll_cons_mk (Below.trod laidOut (by kernel_rfl) (of_decide_eq_true (by kernel_rfl)) k1 bel lt1) (trodAll_cons_mk (Below.trod laidOut (by kernel_rfl) (of_decide_eq_true (by kernel_rfl)) k2 bel lt2) trodAll_mk0))), rfl, bel.frame _, fun h => by cases h⟩

theorem over : Rows.panelNoneRow.holds Tryd.pinned (OpenSpec.ofChange Rows.panelNoneSpec) :=
  OpenClaim.holds_of_wide 10 Tryd.f10 rfl rfl rfl rfl rfl rfl rfl ⟨rfl, rfl, rfl, rfl, rfl⟩ rfl rfl rfl rfl rfl (by kernel_rfl) Tryd.func10 (by kernel_rfl)
    (of_decide_eq_true (by kernel_rfl)) (by unfold Func.isWrapper; first | (rw [if_pos (by decide +kernel)]; kernel_rfl) | (rw [if_neg (by decide +kernel)]; exact ⟨rfl, rfl⟩))
    (fun os started H enc _ => lifted os started H enc)

/-- The row's card, tied to the program's text. -/
theorem card : Rows.PanelNoneCardSaid :=
  Claim7.holds_tied_plain_at .later [] [.data] true Rows.panelNoneCard.stood.harness false
    over (fun _ h => by cases h) (by kernel_rfl) (fun _ h => by cases h) panelNone_row_tie rfl ⟨rfl, rfl⟩ (by kernel_rfl) rfl
    (fun f fn hf hfn => by
      obtain rfl : f = 10 := Option.some.inj ((show Tryd.prog.funcNamed "abugida/abugidalaw33.PanelNone" = some 10 by kernel_rfl).symm.trans hf) |>.symm
      obtain rfl : fn = Tryd.f10 := (Option.some.inj (Tryd.func10.symm.trans hfn)).symm
      exact ⟨by kernel_rfl, fun j t ht => by
        rw [Tryd.params10] at ht
        have hm : t ∈ [68, 31, 3] := by simpa using Array.mem_of_getElem? ht
        have hall : ([68, 31, 3].all fun u => !Tryd.prog.wantsStandIn u) = true := by kernel_rfl
        exact (show Tryd.prog.wantsStandIn t = false by simpa using List.all_eq_true.1 hall t hm)⟩)
    (by kernel_rfl)

end Go.Proofs.YtmiennkldkcnfaaDoor.panelNone
namespace Go.Proofs.YtmiennkldkcnfaaDoor
theorem panelNone_proved : Rows.PanelNoneCardSaid := panelNone.card
#print axioms panelNone_proved
end Go.Proofs.YtmiennkldkcnfaaDoor
