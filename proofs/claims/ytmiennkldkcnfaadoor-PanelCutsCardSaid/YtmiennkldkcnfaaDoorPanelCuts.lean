/- For all rows, rectangles and numbers PanelCuts returns true: Cut returns what the reference returns. No conditions. -/
import Derived.Test.YtmiennkldkcnfaaDoorPn21
namespace Go.Proofs.YtmiennkldkcnfaaDoor.panelCuts
open Go.ChangeShapes Go.WideShapes Go.ChangeAt Go.RowKit Go.Joins Go.Deep
set_option linter.unusedVariables false

set_option maxRecDepth 100000 in
set_option maxHeartbeats 4000000 in
theorem walk (v0 : Value) (a0 : List Nat) (c1 : Rc) (a2 : Int) (b2 : Int) (c2 : Int) (d2 : Int) (g : Nat × Nat)  (w : World) (hl : Laid w g) (H0 : UsArg w v0 a0) (H1 : rcOk c1) (H2 : q4Ok a2 b2 c2 d2) :
    Calls Tryd.prog 5 #[v0, rcV c1, q4V a2 b2 c2 d2] w fun e w' => e = .returned (.bool true) ∧ Below w.heap.size w w' := by
  have HLD := Lib.hid hl
  clear hl
  have HA := Lib.hid H0
  have HC1 := Lib.hid H1
  have HQ2 := Lib.hid H2
  clear H0 H1 H2
  obtain ⟨B, hB⟩ : ∃ B, w.heap.size = B := ⟨_, rfl⟩
  obtain ⟨W2, hW2, b0, b1, bel, hsz⟩ := two_blocks w (.cells #[.int .i64 c1.x, .int .i64 c1.y, .int .i64 c1.w, .int .i64 c1.h] 31) (.cells #[.int .u8 a2, .int .u8 b2, .int .u8 c2, .int .u8 d2] 29) B hB
  have HSZ := Lib.hid hsz
  have HB0 := Lib.hid b0
  have HB1 := Lib.hid b1
  have HBW := Lib.hid bel
  have HB := Lib.hid hB
  clear bel hsz b0 b1
  go_enter Tryd.func5, Tryd.ntmps5
  go_upto_region 1 with fail
  try rw [hW2]
  try rw [hB]
  clear hW2 hB
  go_wp2_with fail
  go_at_call 11
  refine (sanity_any _ g (HLD.out.mono HBW.out)).mono ?_
  rintro e w3 ⟨rfl, k3⟩
  have HB3 := Lib.hid k3
  clear k3
  have hc0 := few_any w3 v0 a0 (HA.out.ua.keep (bnext HBW.out HB3.out)) HA.out.cap
  have HCF := Lib.hid hc0
  clear hc0
  go_upto_region 2 with fail
  go_wp2_with fail
  go_at_call 20
  refine HCF.out.mono ?_
  rintro e w4 ⟨vl, rfl, ko, k4⟩
  have HB4 := Lib.hid (bnext HB3.out k4)
  have htl : (a0.take 66).length ≤ 66 := by rw [List.length_take]; omega
  have htb : ∀ x ∈ a0.take 66, x < 18446744073709551616 := fun x hx => HA.out.lt x (List.mem_of_mem_take hx)
  have HTB := Lib.hid htb
  obtain ⟨T, hT⟩ : ∃ T, a0.take 66 = T := ⟨_, rfl⟩
  rw [hT] at ko htl HTB
  obtain ⟨n, hn⟩ : ∃ n, T.length = n := ⟨_, rfl⟩
  rw [hn] at ko htl
  obtain ⟨va, vc, rfl⟩ := own_shape ko
  have HCAP := Lib.hid (own_cap ko)
  have hu4 : Hid (∀ U, Below w4.heap.size w4 U → UA U (.slice va n vc) T) := Lib.hid fun U hU => (own_ua ko).keep hU
  have HN := Lib.hid hn
  have HTL := Lib.hid htl
  clear hT hn ko k4 HCF htb
  obtain ⟨m, hm⟩ : ∃ m : Nat, max (n : Int) 1 = (m : Int) := ⟨max n 1, by omega⟩
  have HM := Lib.hid (show 1 ≤ m ∧ m ≤ 66 ∧ n ≤ m from by omega)
  have HWQ := Lib.hid (mkR_in (w := 64) (h := (m : Int)) HQ2.out (by omega) (by have := HM.out; omega))
  have HRQ := Lib.hid (wi_ok HWQ.out (by omega) (by have := HM.out; omega))
  go_upto_region 3 with fail
  have hk2 := (HB4.out.block (B + 1) (by rw [HSZ.out]; omega)).trans HB1.out
  have x0 : w4.cell? ⟨B + 1, 0, none⟩ = some (.int .u8 a2) := nd_cell hk2 rfl
  have x1 : w4.cell? ⟨B + 1, 1, none⟩ = some (.int .u8 b2) := nd_cell hk2 rfl
  have x2 : w4.cell? ⟨B + 1, 2, none⟩ = some (.int .u8 c2) := nd_cell hk2 rfl
  have x3 : w4.cell? ⟨B + 1, 3, none⟩ = some (.int .u8 d2) := nd_cell hk2 rfl
  clear hk2
  have hc0 := mrect_any w4 a2 b2 c2 d2 64 (m : Int) HQ2.out (by omega) (by omega) (by have := HM.out; omega) (by have := HM.out; omega)
  obtain ⟨ch, hch⟩ : ∃ ch, mkR a2 b2 c2 d2 64 (m : Int) = ch := ⟨_, rfl⟩
  rw [hch] at hc0 HRQ
  have HC := Lib.hid hc0
  clear hc0 hch
  go_wp2_with fail
  go_at_call 24
  refine HC.out.mono ?_
  rintro e w5 ⟨rfl, kb⟩
  clear x0 x1 x2 x3 HC
  have HB5 := Lib.hid kb
  have hxn := heap_alloc_new w5 (.cells #[.int .i64 0, .int .i64 0, .int .i64 0, .int .i64 0] 31)
  have hbn := balloc (Below.refl _ w5) (.cells #[.int .i64 0, .int .i64 0, .int .i64 0, .int .i64 0] 31)
  obtain ⟨X, hX⟩ : ∃ X, w5.heap.size = X := ⟨_, rfl⟩
  obtain ⟨wa, hwa⟩ : ∃ wa, w5.alloc (.cells #[.int .i64 0, .int .i64 0, .int .i64 0, .int .i64 0] 31) = wa := ⟨_, rfl⟩
  have HXo : Hid (X = w5.heap.size) := Lib.hid hX.symm
  have y0 : wa.cell? ⟨X, 0, none⟩ = some (.int .i64 0) := by rw [← hX, ← hwa]; exact nd_cell hxn rfl
  have y1 : wa.cell? ⟨X, 1, none⟩ = some (.int .i64 0) := by rw [← hX, ← hwa]; exact nd_cell hxn rfl
  have y2 : wa.cell? ⟨X, 2, none⟩ = some (.int .i64 0) := by rw [← hX, ← hwa]; exact nd_cell hxn rfl
  have y3 : wa.cell? ⟨X, 3, none⟩ = some (.int .i64 0) := by rw [← hX, ← hwa]; exact nd_cell hxn rfl
  rw [hX, hwa] at hxn
  rw [hwa] at hbn
  have z0 := nd_froz hxn 0
  have z1 := nd_froz hxn 1
  have z2 := nd_froz hxn 2
  have z3 := nd_froz hxn 3
  obtain ⟨wx, hwx, hxx, hfx⟩ := set4 hxn (.int .i64 ch.x) (.int .i64 ch.y) (.int .i64 ch.w) (.int .i64 ch.h)
  have HXX := Lib.hid hxx
  have HBX := Lib.hid (bnext HB5.out (hfx.below w5 hbn (fun b hb => by rw [hb, HXo.out]; exact Nat.le_refl _)))
  clear hxx hfx hbn hxn
  go_upto_region 4 with fail
  try rw [hwx]
  clear y0 y1 y2 y3 z0 z1 z2 z3 hwx hX hwa
  have HU := hu4
  have hx := HXX.out
  have hb0 := ((bnext HB4.out HBX.out).block B (by rw [HSZ.out]; omega)).trans HB0.out
  have HRB := Lib.hid hb0
  have HCX : Hid (∀ U, Below wx.heap.size wx U → (U.cell? ⟨X, 0, none⟩ = some (.int .i64 ch.x) ∧ U.cell? ⟨X, 1, none⟩ = some (.int .i64 ch.y) ∧ U.cell? ⟨X, 2, none⟩ = some (.int .i64 ch.w) ∧ U.cell? ⟨X, 3, none⟩ = some (.int .i64 ch.h)) ∧ (U.cell? ⟨B, 0, none⟩ = some (.int .i64 c1.x) ∧ U.cell? ⟨B, 1, none⟩ = some (.int .i64 c1.y) ∧ U.cell? ⟨B, 2, none⟩ = some (.int .i64 c1.w) ∧ U.cell? ⟨B, 3, none⟩ = some (.int .i64 c1.h))) := Lib.hid fun U hU => by
    have h1 := (hU.block X (Array.getElem?_eq_some_iff.1 hx).1).trans hx
    have h2 := (hU.block B (Array.getElem?_eq_some_iff.1 HRB.out).1).trans HRB.out
    exact ⟨⟨nd_cell h1 rfl, nd_cell h1 rfl, nd_cell h1 rfl, nd_cell h1 rfl⟩, nd_cell h2 rfl, nd_cell h2 rfl, nd_cell h2 rfl, nd_cell h2 rfl⟩
  clear hx hb0
  have HBB := Lib.hid (bnext (bnext HBW.out HB4.out) HBX.out)
  have HCL : Hid (∀ c, (cutL T c).length ≤ 1000000) := Lib.hid fun c => by
    have := cutL_len T c
    rw [HN.out] at this
    have := HTL.out
    omega
  obtain ⟨wd, hwd⟩ : ∃ wd, wx.drew = wd := ⟨_, rfl⟩
  have HWD := Lib.hid hwd
  have HBwd : Hid (Below wx.heap.size wx wd) := Lib.hid (by rw [← hwd]; exact Below.drew (Below.refl _ wx))
  clear hwd
  refine wp_region_held_drew (S := (fun U => (U.cell? ⟨X, 0, none⟩ = some (.int .i64 ch.x) ∧ U.cell? ⟨X, 1, none⟩ = some (.int .i64 ch.y) ∧ U.cell? ⟨X, 2, none⟩ = some (.int .i64 ch.w) ∧ U.cell? ⟨X, 3, none⟩ = some (.int .i64 ch.h)) ∧ (U.cell? ⟨B, 0, none⟩ = some (.int .i64 c1.x) ∧ U.cell? ⟨B, 1, none⟩ = some (.int .i64 c1.y) ∧ U.cell? ⟨B, 2, none⟩ = some (.int .i64 c1.w) ∧ U.cell? ⟨B, 3, none⟩ = some (.int .i64 c1.h)))) (by kernel_rfl) ?_ (fun hHeld => ?_)
  · (rw [HWD.out]; exact HCX.out _ HBwd.out)
  rw [HWD.out] at hHeld ⊢
  refine wpAnyH_take (i := 0) (oi := { dst := some 17, op := Op.move (Operand.tmp 7), type := 4, pos := "law.go:102", after := #[], guard := none }) (v := ?_) rfl (by kernel_rfl) (by kernel_rfl) (by kernel_rfl) (fun _ _ _ h => h) (Or.inl ⟨by rfl, ?_⟩) (by assumption) ?_
  rotate_left
  · ((intro w hSw; (try dsimp only at hSw); go_simp; (try rw [if_neg (by omega)])); try with_reducible rfl)
  (try simp only [Act.put, List.setIfInBounds_toArray, List.set_cons_zero, List.set_cons_succ])
  refine wpAnyH_take (i := 1) (oi := { dst := some 18, op := Op.move (Operand.tmp 17), type := 4, pos := "law.go:102", after := #[{ on := 0, ground := Ground.data }], guard := none }) (v := ?_) rfl (by kernel_rfl) (by kernel_rfl) (by kernel_rfl) (fun _ _ _ h => h) (Or.inl ⟨by rfl, ?_⟩) (by assumption) ?_
  rotate_left
  · ((intro w hSw; (try dsimp only at hSw); go_simp; (try rw [if_neg (by omega)])); try with_reducible rfl)
  (try simp only [Act.put, List.setIfInBounds_toArray, List.set_cons_zero, List.set_cons_succ])
  refine wpAnyH_take (i := 2) (oi := { dst := some 19, op := Op.move (Operand.tmp 0), type := 32, pos := "law.go:102", after := #[{ on := 1, ground := Ground.guard }], guard := some (1, true) }) (v := ?_) rfl (by kernel_rfl) (by kernel_rfl) (by kernel_rfl) (fun _ _ _ h => h) (Or.inl ⟨by rfl, ?_⟩) (by assumption) ?_
  rotate_left
  · ((intro w hSw; (try dsimp only at hSw); go_simp; (try rw [if_neg (by omega)])); try with_reducible rfl)
  (try simp only [Act.put, List.setIfInBounds_toArray, List.set_cons_zero, List.set_cons_succ])
  refine wpAnyH_take (i := 3) (oi := { dst := some 20, op := Op.load 31 (Operand.tmp 4), type := 31, pos := "law.go:102", after := #[{ on := 1, ground := Ground.guard }], guard := some (1, true) }) (v := ?_) rfl (by kernel_rfl) (by kernel_rfl) (by kernel_rfl) (fun _ _ _ h => h) (Or.inl ⟨by rfl, ?_⟩) (by assumption) ?_
  rotate_left
  · ((intro w hSw; (try dsimp only at hSw); go_simp; (try rw [if_neg (by omega)])); try with_reducible rfl)
  (try simp only [Act.put, List.setIfInBounds_toArray, List.set_cons_zero, List.set_cons_succ])
  refine wpAnyH_take (i := 5) (oi := { dst := some 22, op := Op.move (Operand.tmp 0), type := 32, pos := "law.go:102", after := #[{ on := 1, ground := Ground.guard }], guard := some (1, true) }) (v := ?_) rfl (by kernel_rfl) (by kernel_rfl) (by kernel_rfl) (fun _ _ _ h => h) (Or.inl ⟨by rfl, ?_⟩) (by assumption) ?_
  rotate_left
  · ((intro w hSw; (try dsimp only at hSw); go_simp; (try rw [if_neg (by omega)])); try with_reducible rfl)
  (try simp only [Act.put, List.setIfInBounds_toArray, List.set_cons_zero, List.set_cons_succ])
  refine wpAnyH_take (i := 6) (oi := { dst := some 23, op := Op.load 31 (Operand.tmp 4), type := 31, pos := "law.go:102", after := #[{ on := 1, ground := Ground.guard }], guard := some (1, true) }) (v := ?_) rfl (by kernel_rfl) (by kernel_rfl) (by kernel_rfl) (fun _ _ _ h => h) (Or.inl ⟨by rfl, ?_⟩) (by assumption) ?_
  rotate_left
  · ((intro w hSw; (try dsimp only at hSw); go_simp; (try rw [if_neg (by omega)])); try with_reducible rfl)
  (try simp only [Act.put, List.setIfInBounds_toArray, List.set_cons_zero, List.set_cons_succ])
  refine wpAnyH_ready (rs := [4]) (by kernel_rfl) (by simp) ?_
  refine AllReadyH.cons (o := { dst := some 21, op := Op.call { callee := Callee.value (Operand.func 25), args := #[Operand.tmp 19, Operand.tmp 20], argTypes := #[32, 31] }, type := 32, pos := "law.go:102", after := #[{ on := 2, ground := Ground.data }, { on := 3, ground := Ground.data }, { on := 1, ground := Ground.chain }, { on := 1, ground := Ground.guard }], guard := some (1, true) }) rfl (fun K hK => ?_) ?_
  · (go_simp; go_at_call 25; refine (cut_any wd T (.slice va n vc) c1 HC1.out (HU.out _ (bnext HBX.out HBwd.out)) (by rw [HN.out]; have := HTL.out; omega) (fun a' n' k' h => by injection h with _ h2 h3; rw [← h2, ← h3]; exact HCAP.out) HTB.out).mono ?_; rintro e q1a ⟨v1, rfl, ko1, kb⟩; have HBq1a := Lib.hid (bnext HBwd.out kb); have HV1 := Lib.hid (fun (U : World) (hU : Below q1a.heap.size q1a U) => (own_ua ko1).keep hU); clear ko1 kb; dsimp only)
    refine hK.out _ _ ?_ (fun hHeld => ?_)
    · exact HCX.out _ HBq1a.out
    clear hK K
    (try simp only [Act.put, List.setIfInBounds_toArray, List.set_cons_zero, List.set_cons_succ])
    refine wpAnyH_ready (rs := [7]) (by kernel_rfl) (by simp) ?_
    refine AllReadyH.cons (o := { dst := some 24, op := Op.call { callee := Callee.value (Operand.func 26), args := #[Operand.tmp 22, Operand.tmp 23], argTypes := #[32, 31] }, type := 32, pos := "law.go:102", after := #[{ on := 5, ground := Ground.data }, { on := 6, ground := Ground.data }, { on := 4, ground := Ground.chain }, { on := 1, ground := Ground.guard }], guard := some (1, true) }) rfl (fun K hK => ?_) ?_
    · (go_simp; go_at_call 26; refine (rcut_any q1a T (.slice va n vc) c1 HC1.out (HU.out _ (bnext HBX.out HBq1a.out)) (by rw [HN.out]; have := HTL.out; omega) HTB.out).mono ?_; rintro e q1b ⟨v2, rfl, ko2, kb⟩; have HBq1b := Lib.hid (bnext HBq1a.out kb); have HS1 := Lib.hid (same_any _ _ (cutL T c1) (cutL T c1) q1b (HV1.out _ kb) (own_ua ko2) (HCL.out c1) (HCL.out c1)); rw [decide_eq_true rfl] at HS1; clear ko2 kb; dsimp only)
      refine hK.out _ _ ?_ (fun hHeld => ?_)
      · exact HCX.out _ HBq1b.out
      clear hK K
      (try simp only [Act.put, List.setIfInBounds_toArray, List.set_cons_zero, List.set_cons_succ])
      refine wpAnyH_ready (rs := [8]) (by kernel_rfl) (by simp) ?_
      refine AllReadyH.cons (o := { dst := some 25, op := Op.call { callee := Callee.value (Operand.func 15), args := #[Operand.tmp 21, Operand.tmp 24], argTypes := #[32, 32] }, type := 4, pos := "law.go:102", after := #[{ on := 4, ground := Ground.data }, { on := 7, ground := Ground.data }, { on := 7, ground := Ground.chain }, { on := 1, ground := Ground.guard }], guard := some (1, true) }) rfl (fun K hK => ?_) ?_
      · (go_simp; go_at_call 15; refine HS1.out.mono ?_; rintro e q1c ⟨rfl, kb⟩; have HBq1c := Lib.hid (bnext HBq1b.out kb); clear kb; dsimp only)
        refine hK.out _ _ ?_ (fun hHeld => ?_)
        · exact HCX.out _ HBq1c.out
        clear hK K
        (try simp only [Act.put, List.setIfInBounds_toArray, List.set_cons_zero, List.set_cons_succ])
        refine wpAnyH_take (i := 9) (oi := { dst := some 26, op := Op.pick (Operand.tmp 18) (Operand.tmp 25) (Operand.const (Value.bool false)), type := 4, pos := "law.go:102", after := #[{ on := 1, ground := Ground.data }, { on := 8, ground := Ground.data }], guard := none }) (v := ?_) rfl (by kernel_rfl) (by kernel_rfl) (by kernel_rfl) (fun _ _ _ h => h) (Or.inl ⟨by rfl, ?_⟩) (by assumption) ?_
        rotate_left
        · ((intro w hSw; (try dsimp only at hSw); go_simp; (try rw [if_neg (by omega)])); try with_reducible rfl)
        (try simp only [Act.put, List.setIfInBounds_toArray, List.set_cons_zero, List.set_cons_succ])
        refine wpAnyH_take (i := 10) (oi := { dst := some 27, op := Op.move (Operand.tmp 26), type := 4, pos := "law.go:102", after := #[{ on := 9, ground := Ground.data }, { on := 8, ground := Ground.chain }], guard := none }) (v := ?_) rfl (by kernel_rfl) (by kernel_rfl) (by kernel_rfl) (fun _ _ _ h => h) (Or.inl ⟨by rfl, ?_⟩) (by assumption) ?_
        rotate_left
        · ((intro w hSw; (try dsimp only at hSw); go_simp; (try rw [if_neg (by omega)])); try with_reducible rfl)
        (try simp only [Act.put, List.setIfInBounds_toArray, List.set_cons_zero, List.set_cons_succ])
        refine wpAnyH_take (i := 11) (oi := { dst := some 28, op := Op.move (Operand.tmp 0), type := 32, pos := "law.go:102", after := #[{ on := 10, ground := Ground.guard }], guard := some (10, true) }) (v := ?_) rfl (by kernel_rfl) (by kernel_rfl) (by kernel_rfl) (fun _ _ _ h => h) (Or.inl ⟨by rfl, ?_⟩) (by assumption) ?_
        rotate_left
        · ((intro w hSw; (try dsimp only at hSw); go_simp; (try rw [if_neg (by omega)])); try with_reducible rfl)
        (try simp only [Act.put, List.setIfInBounds_toArray, List.set_cons_zero, List.set_cons_succ])
        refine wpAnyH_take (i := 12) (oi := { dst := some 29, op := Op.load 31 (Operand.tmp 8), type := 31, pos := "law.go:102", after := #[{ on := 10, ground := Ground.guard }], guard := some (10, true) }) (v := ?_) rfl (by kernel_rfl) (by kernel_rfl) (by kernel_rfl) (fun _ _ _ h => h) (Or.inl ⟨by rfl, ?_⟩) (by assumption) ?_
        rotate_left
        · ((intro w hSw; (try dsimp only at hSw); go_simp; (try rw [if_neg (by omega)])); try with_reducible rfl)
        (try simp only [Act.put, List.setIfInBounds_toArray, List.set_cons_zero, List.set_cons_succ])
        refine wpAnyH_take (i := 14) (oi := { dst := some 31, op := Op.move (Operand.tmp 0), type := 32, pos := "law.go:102", after := #[{ on := 10, ground := Ground.guard }], guard := some (10, true) }) (v := ?_) rfl (by kernel_rfl) (by kernel_rfl) (by kernel_rfl) (fun _ _ _ h => h) (Or.inl ⟨by rfl, ?_⟩) (by assumption) ?_
        rotate_left
        · ((intro w hSw; (try dsimp only at hSw); go_simp; (try rw [if_neg (by omega)])); try with_reducible rfl)
        (try simp only [Act.put, List.setIfInBounds_toArray, List.set_cons_zero, List.set_cons_succ])
        refine wpAnyH_take (i := 15) (oi := { dst := some 32, op := Op.load 31 (Operand.tmp 8), type := 31, pos := "law.go:102", after := #[{ on := 10, ground := Ground.guard }], guard := some (10, true) }) (v := ?_) rfl (by kernel_rfl) (by kernel_rfl) (by kernel_rfl) (fun _ _ _ h => h) (Or.inl ⟨by rfl, ?_⟩) (by assumption) ?_
        rotate_left
        · ((intro w hSw; (try dsimp only at hSw); go_simp; (try rw [if_neg (by omega)])); try with_reducible rfl)
        (try simp only [Act.put, List.setIfInBounds_toArray, List.set_cons_zero, List.set_cons_succ])
        refine wpAnyH_ready (rs := [13]) (by kernel_rfl) (by simp) ?_
        refine AllReadyH.cons (o := { dst := some 30, op := Op.call { callee := Callee.value (Operand.func 25), args := #[Operand.tmp 28, Operand.tmp 29], argTypes := #[32, 31] }, type := 32, pos := "law.go:102", after := #[{ on := 11, ground := Ground.data }, { on := 12, ground := Ground.data }, { on := 10, ground := Ground.chain }, { on := 10, ground := Ground.guard }], guard := some (10, true) }) rfl (fun K hK => ?_) ?_
        · (go_simp; go_at_call 25; refine (cut_any q1c T (.slice va n vc) ch HRQ.out (HU.out _ (bnext HBX.out HBq1c.out)) (by rw [HN.out]; have := HTL.out; omega) (fun a' n' k' h => by injection h with _ h2 h3; rw [← h2, ← h3]; exact HCAP.out) HTB.out).mono ?_; rintro e q2a ⟨v1, rfl, ko1, kb⟩; have HBq2a := Lib.hid (bnext HBq1c.out kb); have HV2 := Lib.hid (fun (U : World) (hU : Below q2a.heap.size q2a U) => (own_ua ko1).keep hU); clear ko1 kb; dsimp only)
          refine hK.out _ _ ?_ (fun hHeld => ?_)
          · exact HCX.out _ HBq2a.out
          clear hK K
          (try simp only [Act.put, List.setIfInBounds_toArray, List.set_cons_zero, List.set_cons_succ])
          refine wpAnyH_ready (rs := [16]) (by kernel_rfl) (by simp) ?_
          refine AllReadyH.cons (o := { dst := some 33, op := Op.call { callee := Callee.value (Operand.func 26), args := #[Operand.tmp 31, Operand.tmp 32], argTypes := #[32, 31] }, type := 32, pos := "law.go:102", after := #[{ on := 14, ground := Ground.data }, { on := 15, ground := Ground.data }, { on := 13, ground := Ground.chain }, { on := 10, ground := Ground.guard }], guard := some (10, true) }) rfl (fun K hK => ?_) ?_
          · (go_simp; go_at_call 26; refine (rcut_any q2a T (.slice va n vc) ch HRQ.out (HU.out _ (bnext HBX.out HBq2a.out)) (by rw [HN.out]; have := HTL.out; omega) HTB.out).mono ?_; rintro e q2b ⟨v2, rfl, ko2, kb⟩; have HBq2b := Lib.hid (bnext HBq2a.out kb); have HS2 := Lib.hid (same_any _ _ (cutL T ch) (cutL T ch) q2b (HV2.out _ kb) (own_ua ko2) (HCL.out ch) (HCL.out ch)); rw [decide_eq_true rfl] at HS2; clear ko2 kb; dsimp only)
            refine hK.out _ _ ?_ (fun hHeld => ?_)
            · exact HCX.out _ HBq2b.out
            clear hK K
            (try simp only [Act.put, List.setIfInBounds_toArray, List.set_cons_zero, List.set_cons_succ])
            refine wpAnyH_ready (rs := [17]) (by kernel_rfl) (by simp) ?_
            refine AllReadyH.cons (o := { dst := some 34, op := Op.call { callee := Callee.value (Operand.func 15), args := #[Operand.tmp 30, Operand.tmp 33], argTypes := #[32, 32] }, type := 4, pos := "law.go:102", after := #[{ on := 13, ground := Ground.data }, { on := 16, ground := Ground.data }, { on := 16, ground := Ground.chain }, { on := 10, ground := Ground.guard }], guard := some (10, true) }) rfl (fun K hK => ?_) ?_
            · (go_simp; go_at_call 15; refine HS2.out.mono ?_; rintro e q2c ⟨rfl, kb⟩; have HBq2c := Lib.hid (bnext HBq2b.out kb); clear kb; dsimp only)
              refine hK.out _ _ ?_ (fun hHeld => ?_)
              · exact HCX.out _ HBq2c.out
              clear hK K
              (try simp only [Act.put, List.setIfInBounds_toArray, List.set_cons_zero, List.set_cons_succ])
              refine wpAnyH_take (i := 18) (oi := { dst := some 35, op := Op.pick (Operand.tmp 27) (Operand.tmp 34) (Operand.const (Value.bool false)), type := 4, pos := "law.go:102", after := #[{ on := 10, ground := Ground.data }, { on := 17, ground := Ground.data }], guard := none }) (v := ?_) rfl (by kernel_rfl) (by kernel_rfl) (by kernel_rfl) (fun _ _ _ h => h) (Or.inl ⟨by rfl, ?_⟩) (by assumption) ?_
              rotate_left
              · ((intro w hSw; (try dsimp only at hSw); go_simp; (try rw [if_neg (by omega)])); try with_reducible rfl)
              (try simp only [Act.put, List.setIfInBounds_toArray, List.set_cons_zero, List.set_cons_succ])
              refine wpAnyH_take (i := 19) (oi := { dst := some 6, op := Op.assign (Operand.tmp 35), type := 4, pos := "law.go:102", after := #[{ on := 18, ground := Ground.data }, { on := 17, ground := Ground.chain }, { on := 0, ground := Ground.phase }, { on := 1, ground := Ground.phase }, { on := 2, ground := Ground.phase }, { on := 3, ground := Ground.phase }, { on := 4, ground := Ground.phase }, { on := 5, ground := Ground.phase }, { on := 6, ground := Ground.phase }, { on := 7, ground := Ground.phase }, { on := 8, ground := Ground.phase }, { on := 9, ground := Ground.phase }, { on := 10, ground := Ground.phase }, { on := 11, ground := Ground.phase }, { on := 12, ground := Ground.phase }, { on := 13, ground := Ground.phase }, { on := 14, ground := Ground.phase }, { on := 15, ground := Ground.phase }, { on := 16, ground := Ground.phase }, { on := 17, ground := Ground.phase }, { on := 18, ground := Ground.phase }], guard := none }) (v := ?_) rfl (by kernel_rfl) (by kernel_rfl) (by kernel_rfl) (fun _ _ _ h => h) (Or.inl ⟨by rfl, ?_⟩) (by assumption) ?_
              rotate_left
              · ((intro w hSw; (try dsimp only at hSw); go_simp; (try rw [if_neg (by omega)])); try with_reducible rfl)
              (try simp only [Act.put, List.setIfInBounds_toArray, List.set_cons_zero, List.set_cons_succ])
              refine wpAnyH_done (by kernel_rfl) ?_ _
              clear hHeld
              go_simp
              go_wp2
              go_ret
              exact ⟨rfl, bnext HBB.out HBq2c.out⟩
            exact AllReadyH.nil
          exact AllReadyH.nil
        exact AllReadyH.nil
      exact AllReadyH.nil
    exact AllReadyH.nil
  exact AllReadyH.nil

set_option maxRecDepth 100000 in
theorem lifted (os : Os) (started : os.Started) (H : Type) (enc : TypeId × Value → H) :
    ReturnsInHanded {} Tryd.checked os 5 .any (fun w args => (Rows.panelCutsSpec.pre enc Tryd.prog Tryd.f5 [] false w args ∧ laidMetH Tryd.prog laidL w) ∧ sizedMet enc Tryd.prog Tryd.f5 (OpenSpec.ofChange Rows.panelCutsSpec) false w args)
      (Rows.panelCutsSpec.post enc Tryd.prog Tryd.f5 false true false false) := by
  refine returnsInHanded_of_change_and (C := Tryd.checked) (X := fun w _ => laidMetH Tryd.prog laidL w) (fun _ _ _ hh h => h.of_heap hh) own started (by kernel_rfl) Tryd.func5
    (ChangeSpec.witness_shaped (enc := enc) (C := Tryd.checked) (os := os) (X := fun w _ => laidMetH Tryd.prog laidL w) false (World.doorLaid Tryd.prog 46 os) #[.slice none 0 0, .agg #[.int .i64 0, .int .i64 0, .int .i64 0, .int .i64 0], .agg #[.int .u8 0, .int .u8 0, .int .u8 0, .int .u8 0]] 8 rfl (World.shaped_of_RefB (by kernel_rfl) (by kernel_rfl)) (by kernel_rfl) (by kernel_rfl) (by kernel_rfl) (door_met os _)) ?_
  intro W base args ds gs before hval0 hW _ _ hL _
  have hval : ∀ (j : Nat) t v, Tryd.f5.params[j]? = some t → args[j]? = some v → Value.okWide Tryd.prog W .any base t v := hval0
  have hW' := hW
  obtain ⟨p, q, hA0, hV, rfl, hfz, hnd⟩ := hW
  have hA : DataW.TrodAll enc Tryd.prog W 0 (fun _ => true) true Tryd.f5.params.toList args.toList ds p := hA0
  rw [Tryd.params5] at hA hval
  obtain ⟨v0, vs0, d0, ds0, p0, q0, hargs, rfl, rfl, h0, r0⟩ := trodAll_cons hA
  obtain ⟨v1, vs1, d1, ds1, p1, q1, rfl, rfl, rfl, h1, r1⟩ := trodAll_cons r0
  obtain ⟨v2, vs2, d2, ds2, p2, q2, rfl, rfl, rfl, h2, r2⟩ := trodAll_cons r1
  obtain ⟨rfl, rfl, rfl⟩ := trodAll_nil r2
  obtain rfl : args = #[v0, v1, v2] := by cases args; simp_all
  obtain ⟨rfl, rfl⟩ := trodVars_none hV
  obtain ⟨g, hlaid⟩ := of_laid hL
  have k0 := h0
  have lt0 : ∀ x ∈ p0, x.block < W.heap.size := by obtain ⟨m, hm⟩ := k0; exact DataW.trod_lt m _ _ _ hm
  have k1 := h1
  have lt1 : ∀ x ∈ p1, x.block < W.heap.size := by obtain ⟨m, hm⟩ := k1; exact DataW.trod_lt m _ _ _ hm
  have k2 := h2
  have lt2 : ∀ x ∈ p2, x.block < W.heap.size := by obtain ⟨m, hm⟩ := k2; exact DataW.trod_lt m _ _ _ hm
  obtain ⟨a0, H0⟩ := open_us (hval 0 32 v0 rfl rfl) h0
  obtain ⟨c1, rfl, H1⟩ := open_rc (hval 1 31 v1 rfl rfl) h1
  obtain ⟨a2, b2, c2, d2, rfl, H2⟩ := open_q4 (hval 2 29 v2 rfl rfl) h2
  clear hA0 hval0
  refine (walk v0 a0 c1 a2 b2 c2 d2 g  W hlaid H0 H1 H2).mono fun e W' ⟨he, bel⟩ => ?_
  subst he
  exact ⟨_, rfl, _, _, _, [], _, [], hW', trodAll_mk1 (shut_bool Tryd.underlying4 _), (trodAll_cons_mk (Below.trod laidOut (by kernel_rfl) (of_decide_eq_true (by kernel_rfl)) k0 bel lt0) (trodAll_cons_mk (Below.trod laidOut (by kernel_rfl) (of_decide_eq_true (by kernel_rfl)) k1 bel lt1) (trodAll_cons_mk (Below.trod laidOut (by kernel_rfl) (of_decide_eq_true (by kernel_rfl)) k2 bel lt2) trodAll_mk0))), rfl, bel.frame _, fun h => by cases h⟩

theorem over : Rows.panelCutsRow.holds Tryd.pinned (OpenSpec.ofChange Rows.panelCutsSpec) :=
  OpenClaim.holds_of_wide 5 Tryd.f5 rfl rfl rfl rfl rfl rfl rfl ⟨rfl, rfl, rfl, rfl, rfl⟩ rfl rfl rfl rfl rfl (by kernel_rfl) Tryd.func5 (by kernel_rfl)
    (of_decide_eq_true (by kernel_rfl)) (by unfold Func.isWrapper; first | (rw [if_pos (by decide +kernel)]; kernel_rfl) | (rw [if_neg (by decide +kernel)]; exact ⟨rfl, rfl⟩))
    (fun os started H enc _ => lifted os started H enc)

/-- The row's card, tied to the program's text. -/
theorem card : Rows.PanelCutsCardSaid :=
  Claim7.holds_tied_plain_at .later [] [.data] true Rows.panelCutsCard.stood.harness false
    over (fun _ h => by cases h) (by kernel_rfl) (fun _ h => by cases h) panelCuts_row_tie rfl ⟨rfl, rfl⟩ (by kernel_rfl) rfl
    (fun f fn hf hfn => by
      obtain rfl : f = 5 := Option.some.inj ((show Tryd.prog.funcNamed "abugida/abugidalaw33.PanelCuts" = some 5 by kernel_rfl).symm.trans hf) |>.symm
      obtain rfl : fn = Tryd.f5 := (Option.some.inj (Tryd.func5.symm.trans hfn)).symm
      exact ⟨by kernel_rfl, fun j t ht => by
        rw [Tryd.params5] at ht
        have hm : t ∈ [32, 31, 29] := by simpa using Array.mem_of_getElem? ht
        have hall : ([32, 31, 29].all fun u => !Tryd.prog.wantsStandIn u) = true := by kernel_rfl
        exact (show Tryd.prog.wantsStandIn t = false by simpa using List.all_eq_true.1 hall t hm)⟩)
    (by kernel_rfl)

end Go.Proofs.YtmiennkldkcnfaaDoor.panelCuts
namespace Go.Proofs.YtmiennkldkcnfaaDoor
theorem panelCuts_proved : Rows.PanelCutsCardSaid := panelCuts.card
#print axioms panelCuts_proved
end Go.Proofs.YtmiennkldkcnfaaDoor
