/- For every width, height and calls PanelWrites returns true: what writing, and failing, does with a panel is as the reference says. No conditions. -/
import Derived.Test.YtmiennkldkcnfaaDoorPn28
namespace Go.Proofs.YtmiennkldkcnfaaDoor.panelWrites
open Go.ChangeShapes Go.WideShapes Go.ChangeAt Go.RowKit Go.Joins Go.Deep
set_option linter.unusedVariables false

set_option maxRecDepth 100000 in
set_option maxHeartbeats 8000000 in
theorem walk (a0 : Int) (b0 : Int) (v1 : Value) (a1 : List Cl) (g : Nat × Nat) (wa0 : (Lit.int .u8 a0).wf = true) (wb0 : (Lit.int .u8 b0).wf = true) (w : World) (hl : Laid w g) (H1 : ClArg w v1 a1) :
    Calls Tryd.prog 3 #[.agg #[.int .u8 a0, .int .u8 b0], v1] w fun e w' => e = .returned (.bool true) ∧ Below w.heap.size w w' := by
  have HLD := Lib.hid hl
  clear hl
  obtain ⟨va, vc, rfl⟩ : ∃ va vc, v1 = .slice va a1.length vc := by obtain ⟨x, y, e, -⟩ := H1.src; exact ⟨x, y, e⟩
  have HL := Lib.hid H1
  clear H1
  have hba := bdu8 wa0
  have hbb := bdu8 wb0
  have e1 : IntKind.i64.wrap a0 = a0 := IntWalk.i64_in _ (by omega)
  have e2 : IntKind.i64.wrap b0 = b0 := IntWalk.i64_in _ (by omega)
  have e3 : a0.tmod 64 = a0 % 64 := Int.tmod_eq_emod_of_nonneg hba.1
  have e4 : b0.tmod 64 = b0 % 64 := Int.tmod_eq_emod_of_nonneg hbb.1
  obtain ⟨pw, hpw⟩ : ∃ pw : Nat, 1 + a0 % 64 = (pw : Int) := ⟨(1 + a0 % 64).toNat, by omega⟩
  obtain ⟨ph, hph⟩ : ∃ ph : Nat, 1 + b0 % 64 = (ph : Int) := ⟨(1 + b0 % 64).toNat, by omega⟩
  have HPW : Hid (1 ≤ pw ∧ pw ≤ 64 ∧ 1 ≤ ph ∧ ph ≤ 64) := Lib.hid (by omega)
  have e5 : IntKind.i64.wrap (pw : Int) = (pw : Int) := IntWalk.i64_in _ (by omega)
  have e6 : IntKind.i64.wrap (ph : Int) = (ph : Int) := IntWalk.i64_in _ (by omega)
  obtain ⟨B, hB⟩ : ∃ B, w.heap.size = B := ⟨_, rfl⟩
  have hx1 := heap_alloc_new w (.cells #[.int .u8 a0, .int .u8 b0] 22)
  have hb1 := balloc (Below.refl _ w) (.cells #[.int .u8 a0, .int .u8 b0] 22)
  obtain ⟨w1, hw1⟩ : ∃ w1, w.alloc (.cells #[.int .u8 a0, .int .u8 b0] 22) = w1 := ⟨_, rfl⟩
  rw [hw1, hB] at hx1
  rw [hw1] at hb1
  have HB1 := Lib.hid hb1
  have HX1 := Lib.hid hx1
  clear hx1 hb1
  go_enter Tryd.func3, Tryd.ntmps3
  go_upto_region 1 with fail
  try rw [hw1]
  try rw [hB]
  clear hw1 hB
  go_wp2_with fail
  go_at_call 11
  refine (sanity_any _ g (HLD.out.mono HB1.out)).mono ?_
  rintro e w3 ⟨rfl, k3⟩
  have HB3 := Lib.hid (bnext HB1.out k3)
  have hx3 := (k3.block B (Array.getElem?_eq_some_iff.1 HX1.out).1).trans HX1.out
  have x0 : w3.cell? ⟨B, 0, none⟩ = some (.int .u8 a0) := nd_cell hx3 rfl
  have x1 : w3.cell? ⟨B, 1, none⟩ = some (.int .u8 b0) := nd_cell hx3 rfl
  clear k3
  go_upto_region 2 with fail
  obtain ⟨wd, hwd⟩ : ∃ wd, w3.drew = wd := ⟨_, rfl⟩
  have HWD := Lib.hid hwd
  have HBD0 := Lib.hid (show Below w3.heap.size w3 wd from by rw [← hwd]; exact Below.drew (Below.refl _ w3))
  have hxd := (HBD0.out.block B (Array.getElem?_eq_some_iff.1 hx3).1).trans hx3
  have HKS : Hid (wd.cell? ⟨B, 0, none⟩ = some (.int .u8 a0) ∧ wd.cell? ⟨B, 1, none⟩ = some (.int .u8 b0)) := Lib.hid ⟨nd_cell hxd rfl, nd_cell hxd rfl⟩
  clear hwd hxd hx3 x0 x1
  refine wp_region_held_drew (S := (fun U => U.cell? ⟨B, 0, none⟩ = some (.int .u8 a0) ∧ U.cell? ⟨B, 1, none⟩ = some (.int .u8 b0))) (by kernel_rfl) ?_ (fun hHeld => ?_)
  · (rw [HWD.out]; exact HKS.out)
  rw [HWD.out] at hHeld ⊢
  refine wpAnyH_take (i := 0) (oi := { dst := some 12, op := Op.indexAddr 22 (Operand.tmp 2) (Operand.const (Value.int IntKind.i64 0)), type := 0, pos := "law.go:60", after := #[], guard := none }) (v := ?_) rfl (by kernel_rfl) (by kernel_rfl) (by kernel_rfl) (fun _ _ _ h => h) (Or.inl ⟨by rfl, ?_⟩) (by assumption) ?_
  rotate_left
  · ((intro w hSw; (try dsimp only at hSw); go_simp; (try rw [if_neg (by omega)])); try with_reducible rfl)
  (try simp only [Act.put, List.setIfInBounds_toArray, List.set_cons_zero, List.set_cons_succ])
  refine wpAnyH_take (i := 1) (oi := { dst := some 13, op := Op.load 5 (Operand.tmp 12), type := 5, pos := "law.go:60", after := #[{ on := 0, ground := Ground.data }], guard := none }) (v := ?_) rfl (by kernel_rfl) (by kernel_rfl) (by kernel_rfl) (fun _ _ _ h => h) (Or.inl ⟨by rfl, ?_⟩) (by assumption) ?_
  rotate_left
  · ((intro w hSw; (try dsimp only at hSw); go_simp; (try rw [if_neg (by omega)])); try with_reducible rfl)
  (try simp only [Act.put, List.setIfInBounds_toArray, List.set_cons_zero, List.set_cons_succ])
  refine wpAnyH_take (i := 2) (oi := { dst := some 14, op := Op.convert 5 3 (Operand.tmp 13), type := 3, pos := "law.go:60", after := #[{ on := 1, ground := Ground.data }], guard := none }) (v := ?_) rfl (by kernel_rfl) (by kernel_rfl) (by kernel_rfl) (fun _ _ _ h => h) (Or.inl ⟨by rfl, ?_⟩) (by assumption) ?_
  rotate_left
  · ((intro w hSw; (try dsimp only at hSw); go_simp; (try rw [if_neg (by omega)])); try with_reducible rfl)
  (try simp only [Act.put, List.setIfInBounds_toArray, List.set_cons_zero, List.set_cons_succ])
  refine wpAnyH_take (i := 3) (oi := { dst := some 15, op := Op.binOp BinOp.rem 3 (Operand.tmp 14) (Operand.const (Value.int IntKind.i64 64)) 3, type := 3, pos := "law.go:60", after := #[{ on := 2, ground := Ground.data }], guard := none }) (v := ?_) rfl (by kernel_rfl) (by kernel_rfl) (by kernel_rfl) (fun _ _ _ h => h) (Or.inl ⟨by rfl, ?_⟩) (by assumption) ?_
  rotate_left
  · ((intro w hSw; (try dsimp only at hSw); go_simp; (try rw [if_neg (by omega)])); try with_reducible rfl)
  (try simp only [Act.put, List.setIfInBounds_toArray, List.set_cons_zero, List.set_cons_succ])
  refine wpAnyH_take (i := 4) (oi := { dst := some 16, op := Op.binOp BinOp.add 3 (Operand.const (Value.int IntKind.i64 1)) (Operand.tmp 15) 3, type := 3, pos := "law.go:60", after := #[{ on := 3, ground := Ground.data }], guard := none }) (v := ?_) rfl (by kernel_rfl) (by kernel_rfl) (by kernel_rfl) (fun _ _ _ h => h) (Or.inl ⟨by rfl, ?_⟩) (by assumption) ?_
  rotate_left
  · ((intro w hSw; (try dsimp only at hSw); go_simp; (try rw [if_neg (by omega)])); try with_reducible rfl)
  (try simp only [Act.put, List.setIfInBounds_toArray, List.set_cons_zero, List.set_cons_succ])
  refine wpAnyH_take (i := 5) (oi := { dst := some 17, op := Op.indexAddr 22 (Operand.tmp 2) (Operand.const (Value.int IntKind.i64 1)), type := 0, pos := "law.go:60", after := #[{ on := 10, ground := Ground.gcOnly Departure.lateStores }], guard := none }) (v := ?_) rfl (by kernel_rfl) (by kernel_rfl) (by kernel_rfl) (fun _ _ _ h => h) (Or.inl ⟨by rfl, ?_⟩) (by assumption) ?_
  rotate_left
  · ((intro w hSw; (try dsimp only at hSw); go_simp; (try rw [if_neg (by omega)])); try with_reducible rfl)
  (try simp only [Act.put, List.setIfInBounds_toArray, List.set_cons_zero, List.set_cons_succ])
  refine wpAnyH_take (i := 6) (oi := { dst := some 18, op := Op.load 5 (Operand.tmp 17), type := 5, pos := "law.go:60", after := #[{ on := 5, ground := Ground.data }, { on := 10, ground := Ground.gcOnly Departure.lateStores }], guard := none }) (v := ?_) rfl (by kernel_rfl) (by kernel_rfl) (by kernel_rfl) (fun _ _ _ h => h) (Or.inl ⟨by rfl, ?_⟩) (by assumption) ?_
  rotate_left
  · ((intro w hSw; (try dsimp only at hSw); go_simp; (try rw [if_neg (by omega)])); try with_reducible rfl)
  (try simp only [Act.put, List.setIfInBounds_toArray, List.set_cons_zero, List.set_cons_succ])
  refine wpAnyH_take (i := 7) (oi := { dst := some 19, op := Op.convert 5 3 (Operand.tmp 18), type := 3, pos := "law.go:60", after := #[{ on := 6, ground := Ground.data }, { on := 10, ground := Ground.gcOnly Departure.lateStores }], guard := none }) (v := ?_) rfl (by kernel_rfl) (by kernel_rfl) (by kernel_rfl) (fun _ _ _ h => h) (Or.inl ⟨by rfl, ?_⟩) (by assumption) ?_
  rotate_left
  · ((intro w hSw; (try dsimp only at hSw); go_simp; (try rw [if_neg (by omega)])); try with_reducible rfl)
  (try simp only [Act.put, List.setIfInBounds_toArray, List.set_cons_zero, List.set_cons_succ])
  refine wpAnyH_take (i := 8) (oi := { dst := some 20, op := Op.binOp BinOp.rem 3 (Operand.tmp 19) (Operand.const (Value.int IntKind.i64 64)) 3, type := 3, pos := "law.go:60", after := #[{ on := 7, ground := Ground.data }, { on := 10, ground := Ground.gcOnly Departure.lateStores }], guard := none }) (v := ?_) rfl (by kernel_rfl) (by kernel_rfl) (by kernel_rfl) (fun _ _ _ h => h) (Or.inl ⟨by rfl, ?_⟩) (by assumption) ?_
  rotate_left
  · ((intro w hSw; (try dsimp only at hSw); go_simp; (try rw [if_neg (by omega)])); try with_reducible rfl)
  (try simp only [Act.put, List.setIfInBounds_toArray, List.set_cons_zero, List.set_cons_succ])
  refine wpAnyH_take (i := 9) (oi := { dst := some 21, op := Op.binOp BinOp.add 3 (Operand.const (Value.int IntKind.i64 1)) (Operand.tmp 20) 3, type := 3, pos := "law.go:60", after := #[{ on := 8, ground := Ground.data }, { on := 10, ground := Ground.gcOnly Departure.lateStores }], guard := none }) (v := ?_) rfl (by kernel_rfl) (by kernel_rfl) (by kernel_rfl) (fun _ _ _ h => h) (Or.inl ⟨by rfl, ?_⟩) (by assumption) ?_
  rotate_left
  · ((intro w hSw; (try dsimp only at hSw); go_simp; (try rw [if_neg (by omega)])); try with_reducible rfl)
  (try simp only [Act.put, List.setIfInBounds_toArray, List.set_cons_zero, List.set_cons_succ])
  refine wpAnyH_take (i := 10) (oi := { dst := some 6, op := Op.assign (Operand.tmp 16), type := 3, pos := "law.go:60", after := #[{ on := 4, ground := Ground.data }, { on := 0, ground := Ground.phase }, { on := 1, ground := Ground.phase }, { on := 2, ground := Ground.phase }, { on := 3, ground := Ground.phase }, { on := 4, ground := Ground.phase }, { on := 5, ground := Ground.textOnly Departure.lateStores }, { on := 6, ground := Ground.textOnly Departure.lateStores }, { on := 7, ground := Ground.textOnly Departure.lateStores }, { on := 8, ground := Ground.textOnly Departure.lateStores }, { on := 9, ground := Ground.textOnly Departure.lateStores }], guard := none }) (v := ?_) rfl (by kernel_rfl) (by kernel_rfl) (by kernel_rfl) (fun _ _ _ h => h) (Or.inl ⟨by rfl, ?_⟩) (by assumption) ?_
  rotate_left
  · ((intro w hSw; (try dsimp only at hSw); go_simp; (try rw [if_neg (by omega)])); try with_reducible rfl)
  (try simp only [Act.put, List.setIfInBounds_toArray, List.set_cons_zero, List.set_cons_succ])
  refine wpAnyH_take (i := 11) (oi := { dst := some 7, op := Op.assign (Operand.tmp 21), type := 3, pos := "law.go:60", after := #[{ on := 9, ground := Ground.data }, { on := 10, ground := Ground.chain }, { on := 0, ground := Ground.phase }, { on := 1, ground := Ground.phase }, { on := 2, ground := Ground.phase }, { on := 3, ground := Ground.phase }, { on := 4, ground := Ground.phase }, { on := 5, ground := Ground.phase }, { on := 6, ground := Ground.phase }, { on := 7, ground := Ground.phase }, { on := 8, ground := Ground.phase }, { on := 9, ground := Ground.phase }, { on := 10, ground := Ground.phase }], guard := none }) (v := ?_) rfl (by kernel_rfl) (by kernel_rfl) (by kernel_rfl) (fun _ _ _ h => h) (Or.inl ⟨by rfl, ?_⟩) (by assumption) ?_
  rotate_left
  · ((intro w hSw; (try dsimp only at hSw); go_simp; (try rw [if_neg (by omega)])); try with_reducible rfl)
  (try simp only [Act.put, List.setIfInBounds_toArray, List.set_cons_zero, List.set_cons_succ])
  refine wpAnyH_done (by kernel_rfl) ?_ _
  skip
  clear hHeld
  go_simp
  go_upto_region 3 with fail
  have HB3' := Lib.hid (bnext HB3.out HBD0.out)
  clear HB3
  have HB3 := HB3'
  clear e1 e2 e3 e4 e5 e6 hpw hph hba hbb
  have HC := Lib.hid (new_any wd pw ph (by have := HPW.out; omega) (by have := HPW.out; omega))
  go_wp2_with fail
  go_at_call 12
  refine HC.out.mono ?_
  rintro e w4 ⟨b, gg, rfl, kp, kb1, kg1, kb⟩
  have HB4 := Lib.hid (bnext HB3.out kb)
  have HKP := Lib.hid kp
  have HK4 := Lib.hid (And.intro kb1 kg1)
  clear kp kb1 kg1 kb HC
  have HC := Lib.hid (rnew_any w4 pw ph (by have := HPW.out; omega) (by have := HPW.out; omega))
  go_wp2_with fail
  go_at_call 13
  refine HC.out.mono ?_
  rintro e w5 ⟨b2, g2, rfl, kr, kb1, kg1, kb⟩
  have HB5 := Lib.hid (bnext HB4.out kb)
  have HW3 : Hid (w.heap.size ≤ b ∧ w.heap.size ≤ gg ∧ w.heap.size ≤ b2 ∧ w.heap.size ≤ g2) := Lib.hid (by
    have h1 := HB3.out.size
    have h2 := HB4.out.size
    have h3 := HK4.out
    omega)
  have hok : PnOk ⟨pw, List.replicate ph 0, 0, false, 0⟩ := by
    obtain ⟨g1, g2', g3, g4⟩ := HPW.out
    exact ⟨by dsimp only; omega, by dsimp only; omega, by dsimp only; rw [List.length_replicate]; omega, by dsimp only; rw [List.length_replicate]; omega, fun r hr => by rw [(List.mem_replicate.1 hr).2]; exact Nat.two_pow_pos _, by dsimp only; omega, by dsimp only; omega⟩
  have HTW : Hid (TwP w5 b gg b2 g2 ⟨pw, List.replicate ph 0, 0, false, 0⟩) := Lib.hid ⟨HKP.out.below kb, kr, by
    have h1 := (Array.getElem?_eq_some_iff.1 HKP.out.hd).1
    have h2 := (Array.getElem?_eq_some_iff.1 HKP.out.row).1
    omega, hok⟩
  clear kr kb1 kg1 kb HC hok
  obtain ⟨N, hN⟩ : ∃ N, a1.length = N := ⟨_, rfl⟩
  have HN := Lib.hid hN
  try rw [hN]
  clear hN
  go_upto_region 7 with fail
  go_loopw [10] (fun v10 wr => ∃ (k : Nat) (P : Pn), v10 = .int .i64 (k : Int) ∧ k ≤ 20 ∧ P.upd ≤ k ∧ Hid (TwP wr b gg b2 g2 P) ∧ Hid (Below w.heap.size w wr)) (fun v _ => 20 - (intOf v).toNat)
  case atStart => exact ⟨0, _, rfl, by omega, Nat.le_refl _, HTW, HB5⟩
  case round =>
    obtain ⟨k, P, rfl, hk, hup, HTR, HBR⟩ := hrel
    have HUP := Lib.hid hup
    clear hup
    by_cases hkN : k < N
    · have hkz : (k : Int) < (N : Int) := by omega
      have hk0 : (0 : Int) ≤ (k : Int) := by omega
      by_cases hk20 : k < 20
      · have hkw : (k : Int) < 20 := by omega
        obtain ⟨z, hz⟩ : ∃ z, a1[k]? = some z := ⟨_, List.getElem?_eq_getElem (by rw [HN.out]; exact hkN)⟩
        have hzo := (HL.out.each z (List.mem_of_getElem? hz)).keep HBR.out
        have HZO := Lib.hid hzo
        have hsrc := SrcN.keep HL.out.src HBR.out
        rw [HN.out] at hsrc
        obtain ⟨lg, lo, hva, hc⟩ := cl_at hsrc hz
        subst hva
        obtain ⟨zwh, za, zb, zc, zd, ⟨zx, zy, zw, zh⟩, zv, zR, zf⟩ := z
        obtain ⟨sa, sc, hsv⟩ := hzo.us.ua.shape
        dsimp only at hsv
        subst hsv
        have i0 := hc 0 _ rfl
        have i1 := hc 1 _ rfl
        have i2 := hc 2 _ rfl
        have i3 := hc 3 _ rfl
        have i4 := hc 4 _ rfl
        have i5 := hc 5 _ rfl
        have i6 := hc 6 _ rfl
        have i7 := hc 7 _ rfl
        have i8 := hc 8 _ rfl
        have i9 := hc 9 _ rfl
        have i10 := hc 10 _ rfl
        simp only [Nat.add_zero] at i0 i1 i2 i3 i4 i5 i6 i7 i8 i9 i10
        have HC := Lib.hid (do_any HTR.out (by have := HUP.out; omega) _ HZO.out (pw : Int) (ph : Int) (by have := HPW.out; omega) (by have := HPW.out; omega) (by have := HPW.out; omega) (by have := HPW.out; omega))
        clear hc hz hzo hsrc hkN hk20
        go_upto_region 9 with fail
        go_wp2_with fail
        go_at_call 14
        refine HC.out.mono ?_
        rintro e w7 ⟨P', rfl, ht7, hu7, f7⟩
        clear i0 i1 i2 i3 i4 i5 i6 i7 i8 i9 i10 HC
        have HT7 := Lib.hid ht7
        have HU7 := Lib.hid hu7
        have HB7 := Lib.hid (f7.below w HBR.out (fun q hq => by have := HW3.out; rcases hq with (e | e) | (e | e) <;> omega))
        clear ht7 hu7 f7
        have HC := Lib.hid (pixels_any HT7.out.p HT7.out.ok)
        go_wp2_with fail
        go_at_call 16
        refine HC.out.mono ?_
        rintro e w8 ⟨v8, rfl, ko, kb⟩
        clear HC
        have HT8 := Lib.hid (HT7.out.below kb)
        have HB8 := Lib.hid (bnext HB7.out kb)
        have HU8 := Lib.hid (own_ua ko)
        clear ko kb
        have HC := Lib.hid (rpixels_any HT8.out.r HT8.out.ok)
        go_wp2_with fail
        go_at_call 17
        refine HC.out.mono ?_
        rintro e w9 ⟨v9, rfl, ko, kb⟩
        clear HC
        have HT9 := Lib.hid (HT8.out.below kb)
        have HB9 := Lib.hid (bnext HB8.out kb)
        have hsm := same_any v8 v9 P'.R P'.R w9 (HU8.out.keep kb) (own_ua ko) (by have := HT9.out.ok.h64; omega) (by have := HT9.out.ok.h64; omega)
        rw [decide_eq_true rfl] at hsm
        have HC := Lib.hid hsm
        clear hsm ko kb
        go_wp2_with fail
        go_at_call 15
        refine HC.out.mono ?_
        rintro e wa ⟨rfl, kb⟩
        clear HC
        have HTa := Lib.hid (HT9.out.below kb)
        have HBa := Lib.hid (bnext HB9.out kb)
        clear kb
        have HC := Lib.hid (updates_any HTa.out.p HTa.out.ok)
        have HC2 := Lib.hid (rupdates_any HTa.out.r)
        obtain ⟨ud, hud⟩ : ∃ ud, P'.upd = ud := ⟨_, rfl⟩
        rw [hud] at HC HC2
        clear hud
        go_wp2_with fail
        go_at_call 18
        refine HC.out.mono ?_
        rintro e wb ⟨rfl, he⟩
        have he' := he.symm
        subst he'
        go_wp2_with fail
        go_at_call 19
        refine HC2.out.mono ?_
        rintro e wb ⟨rfl, he⟩
        have he' := he.symm
        subst he'
        clear HC HC2
        go_wp2
        go_roundw
        case rel => exact ⟨k + 1, P', by go_num, by omega, by have := HU7.out; have := HUP.out; omega, HTa, HBa⟩
        case measure => simp [intOf]; omega
      · have hkw : ¬ (k : Int) < 20 := by omega
        clear hkN hk20
        go_wp2
        go_ret
        exact ⟨rfl, HBR.out⟩
    · have hkz : ¬ (k : Int) < (N : Int) := by omega
      clear hkN
      go_wp2
      go_ret
      exact ⟨rfl, HBR.out⟩

set_option maxRecDepth 100000 in
theorem lifted (os : Os) (started : os.Started) (H : Type) (enc : TypeId × Value → H) :
    ReturnsInHanded {} Tryd.checked os 3 .any (fun w args => (Rows.panelWritesSpec.pre enc Tryd.prog Tryd.f3 [] false w args ∧ laidMetH Tryd.prog laidL w) ∧ sizedMet enc Tryd.prog Tryd.f3 (OpenSpec.ofChange Rows.panelWritesSpec) false w args)
      (Rows.panelWritesSpec.post enc Tryd.prog Tryd.f3 false true false false) := by
  refine returnsInHanded_of_change_and (C := Tryd.checked) (X := fun w _ => laidMetH Tryd.prog laidL w) (fun _ _ _ hh h => h.of_heap hh) own started (by kernel_rfl) Tryd.func3
    (ChangeSpec.witness_shaped (enc := enc) (C := Tryd.checked) (os := os) (X := fun w _ => laidMetH Tryd.prog laidL w) false (World.doorLaid Tryd.prog 46 os) #[.agg #[.int .u8 0, .int .u8 0], .slice none 0 0] 8 rfl (World.shaped_of_RefB (by kernel_rfl) (by kernel_rfl)) (by kernel_rfl) (by kernel_rfl) (by kernel_rfl) (door_met os _)) ?_
  intro W base args ds gs before hval0 hW _ _ hL _
  have hval : ∀ (j : Nat) t v, Tryd.f3.params[j]? = some t → args[j]? = some v → Value.okWide Tryd.prog W .any base t v := hval0
  have hW' := hW
  obtain ⟨p, q, hA0, hV, rfl, hfz, hnd⟩ := hW
  have hA : DataW.TrodAll enc Tryd.prog W 0 (fun _ => true) true Tryd.f3.params.toList args.toList ds p := hA0
  rw [Tryd.params3] at hA hval
  obtain ⟨v0, vs0, d0, ds0, p0, q0, hargs, rfl, rfl, h0, r0⟩ := trodAll_cons hA
  obtain ⟨v1, vs1, d1, ds1, p1, q1, rfl, rfl, rfl, h1, r1⟩ := trodAll_cons r0
  obtain ⟨rfl, rfl, rfl⟩ := trodAll_nil r1
  obtain rfl : args = #[v0, v1] := by cases args; simp_all
  obtain ⟨rfl, rfl⟩ := trodVars_none hV
  obtain ⟨g, hlaid⟩ := of_laid hL
  have k0 := h0
  have lt0 : ∀ x ∈ p0, x.block < W.heap.size := by obtain ⟨m, hm⟩ := k0; exact DataW.trod_lt m _ _ _ hm
  have k1 := h1
  have lt1 : ∀ x ∈ p1, x.block < W.heap.size := by obtain ⟨m, hm⟩ := k1; exact DataW.trod_lt m _ _ _ hm
  obtain ⟨a0, b0, rfl, wa0, wb0⟩ := open_arr2 Tryd.underlying22 Tryd.underlying5 (by kernel_rfl) (by kernel_rfl) (hval 0 22 v0 rfl rfl) h0
  obtain ⟨a1, H1⟩ := open_cls (hval 1 23 v1 rfl rfl) h1
  clear hA0 hval0
  refine (walk a0 b0 v1 a1 g wa0 wb0 W hlaid H1).mono fun e W' ⟨he, bel⟩ => ?_
  subst he
  exact ⟨_, rfl, _, _, _, [], _, [], hW', trodAll_mk1 (shut_bool Tryd.underlying4 _), (trodAll_cons_mk (Below.trod laidOut (by kernel_rfl) (of_decide_eq_true (by kernel_rfl)) k0 bel lt0) (trodAll_cons_mk (Below.trod laidOut (by kernel_rfl) (of_decide_eq_true (by kernel_rfl)) k1 bel lt1) trodAll_mk0)), rfl, bel.frame _, fun h => by cases h⟩

theorem over : Rows.panelWritesRow.holds Tryd.pinned (OpenSpec.ofChange Rows.panelWritesSpec) :=
  OpenClaim.holds_of_wide 3 Tryd.f3 rfl rfl rfl rfl rfl rfl rfl ⟨rfl, rfl, rfl, rfl, rfl⟩ rfl rfl rfl rfl rfl (by kernel_rfl) Tryd.func3 (by kernel_rfl)
    (of_decide_eq_true (by kernel_rfl)) (by unfold Func.isWrapper; first | (rw [if_pos (by decide +kernel)]; kernel_rfl) | (rw [if_neg (by decide +kernel)]; exact ⟨rfl, rfl⟩))
    (fun os started H enc _ => lifted os started H enc)

/-- The row's card, tied to the program's text. -/
theorem card : Rows.PanelWritesCardSaid :=
  Claim7.holds_tied_plain_at .later [] [.data] true Rows.panelWritesCard.stood.harness false
    over (fun _ h => by cases h) (by kernel_rfl) (fun _ h => by cases h) panelWrites_row_tie rfl ⟨rfl, rfl⟩ (by kernel_rfl) rfl
    (fun f fn hf hfn => by
      obtain rfl : f = 3 := Option.some.inj ((show Tryd.prog.funcNamed "abugida/abugidalaw33.PanelWrites" = some 3 by kernel_rfl).symm.trans hf) |>.symm
      obtain rfl : fn = Tryd.f3 := (Option.some.inj (Tryd.func3.symm.trans hfn)).symm
      exact ⟨by kernel_rfl, fun j t ht => by
        rw [Tryd.params3] at ht
        have hm : t ∈ [22, 23] := by simpa using Array.mem_of_getElem? ht
        have hall : ([22, 23].all fun u => !Tryd.prog.wantsStandIn u) = true := by kernel_rfl
        exact (show Tryd.prog.wantsStandIn t = false by simpa using List.all_eq_true.1 hall t hm)⟩)
    (by kernel_rfl)

end Go.Proofs.YtmiennkldkcnfaaDoor.panelWrites
namespace Go.Proofs.YtmiennkldkcnfaaDoor
theorem panelWrites_proved : Rows.PanelWritesCardSaid := panelWrites.card
#print axioms panelWrites_proved
end Go.Proofs.YtmiennkldkcnfaaDoor
