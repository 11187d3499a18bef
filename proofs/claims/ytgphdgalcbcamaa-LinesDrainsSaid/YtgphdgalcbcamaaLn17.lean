/- The reference's Send. No conditions. -/
import Derived.Test.YtgphdgalcbcamaaLn16
import Derived.Test.YtgphdgalcbcamaaLast
import Derived.BigQuiet
import Derived.BigRegion
import Derived.Deep.Cut
import Derived.Deep.CutBlock
namespace Go.Proofs.Ytgphdgalcbcamaa
set_option maxRecDepth 100000
set_option linter.unusedVariables false
open Go.RowKit Go.Deep
section
variable {W w w' : World} {r : Nat} {nd : Int} {T : List Tr} {k k' : Nat} {P Q : List Pc} {F F' S : Nat → Prop}
set_option maxHeartbeats 8000000 in
theorem rsend_any (h : RS W r nd T k P F) (at' f o : Int) (s : ByteArray) (hk : k ≤ 1000000) (hl : P.length ≤ 90000) :
    Calls Try.prog 16 #[ptr r, .int .i64 at', msV f o s] W fun x w' => x = .returned (.tuple #[]) ∧ RSr W F w' r nd T (k + 1) (sendP T nd k at' f o s P) := by
  obtain ⟨PS, hPS⟩ : ∃ PS, sendP T nd k at' f o s P = PS := ⟨_, rfl⟩
  rw [hPS]
  have HPS := Lib.hid hPS
  have hb1 := balloc (Below.refl _ W) (.cells #[.int .i64 f, .int .i64 o, .string s] 31)
  have hx1 := heap_alloc_new W (.cells #[.int .i64 f, .int .i64 o, .string s] 31)
  obtain ⟨X5, hX5⟩ : ∃ X, W.heap.size = X := ⟨_, rfl⟩
  obtain ⟨w1, hw1⟩ : ∃ w1, W.alloc (.cells #[.int .i64 f, .int .i64 o, .string s] 31) = w1 := ⟨_, rfl⟩
  rw [hw1] at hb1 hx1
  rw [hX5] at hx1
  have hb2 := balloc (Below.refl _ w1) (.cells #[.bool false, .int .i64 1, .int .i64 0] 43)
  have hx6 := heap_alloc_new w1 (.cells #[.bool false, .int .i64 1, .int .i64 0] 43)
  obtain ⟨X6, hX6⟩ : ∃ X, w1.heap.size = X := ⟨_, rfl⟩
  obtain ⟨w2, hw2⟩ : ∃ w2, w1.alloc (.cells #[.bool false, .int .i64 1, .int .i64 0] 43) = w2 := ⟨_, rfl⟩
  rw [hw2] at hb2 hx6
  rw [hX6] at hx6
  have hx5 := (hb2.block X5 (Array.getElem?_eq_some_iff.1 hx1).1).trans hx1
  have hl2 := (h.below hb1).below hb2
  have HBB := Lib.hid (bnext hb1 hb2)
  have HL2 := Lib.hid hl2
  have HX5W := Lib.hid hX5
  have HX6W := Lib.hid hX6
  have HW1 := Lib.hid hw1
  have HW2 := Lib.hid hw2
  have HX5 := Lib.hid hx5
  have HX6 := Lib.hid hx6
  have HXL : Hid (X5 < X6 ∧ ∀ b, F b → b < X5) := Lib.hid ⟨by rw [← hX6]; exact (Array.getElem?_eq_some_iff.1 hx1).1, fun b hb => by rw [← hX5]; exact h.lt b hb⟩
  obtain ⟨⟨sc, v, hq, hr, hv, hs, hsf⟩, fM, lt⟩ := hl2
  obtain ⟨n, hn⟩ : ∃ n, T.length = n := ⟨_, rfl⟩
  rw [hn] at hs
  obtain ⟨sa, scc, rfl⟩ := own_shape hs
  have c0 : w2.cell? ⟨r, 0, none⟩ = some (.int .i64 nd) := nd_cell hq rfl
  have c1 : w2.cell? ⟨r, 1, none⟩ = some (.int .i64 (k : Int)) := nd_cell hq rfl
  have c2 : w2.cell? ⟨r, 2, none⟩ = some (.slice sa n scc) := nd_cell hq rfl
  obtain ⟨t, ht⟩ : ∃ t, tro T k = t := ⟨_, rfl⟩
  have HTR := Lib.hid ht
  have hk0 : (0 : Int) ≤ (k : Int) := by omega
  have HFM := Lib.hid fM
  have HCUT : Hid (k < n → ∃ g o, sa = some ⟨g, o, none⟩ ∧ g < w2.heap.size ∧ w2.cell? ⟨g, o + k * 3, none⟩ = some (.bool t.l) ∧ w2.cell? ⟨g, o + k * 3 + 1, none⟩ = some (.int .i64 t.c) ∧ w2.cell? ⟨g, o + k * 3 + 2, none⟩ = some (.int .i64 t.d)) := Lib.hid fun hkn => tr_at (own_srcN hs) (t := t) (by rw [← ht]; unfold tro; rw [List.getD_eq_getElem?_getD, List.getElem?_eq_getElem (by rw [hn]; exact hkn)]; rfl) hkn
  have HOUT : Hid (¬ k < n → t = ⟨false, 1, 0⟩) := Lib.hid fun hkn => by rw [← ht]; unfold tro; rw [List.getD_eq_getElem?_getD, List.getElem?_eq_none (by omega)]; rfl
  clear hPS hb1 hx1 hb2 hx5 hX5 hX6 hw1 hw2 h hq hr hv hs hsf fM lt ht hn
  go_enter Try.func16, Try.ntmps16
  go_upto_region 1 with fail
  rw [HW1.out]
  try rw [HX5W.out]
  go_upto_region 3 with fail
  rw [HW2.out]
  try rw [HX6W.out]
  by_cases hkn : k < n
  · have hkz : (k : Int) < (n : Int) := by omega
    obtain ⟨g, o', rfl, hgl, k0, k1, k2⟩ := HCUT.out hkn
    go_quiet (fail)
    have hd3 := below_drewN (Below.refl w2.heap.size w2) nq
    obtain ⟨w3, hw3⟩ : ∃ w3, w2.drewN nq = w3 := ⟨_, rfl⟩
    rw [hw3] at hd3
    rw [hw3]
    have hx6 := (hd3.block X6 (Array.getElem?_eq_some_iff.1 HX6.out).1).trans HX6.out
    have d1 := (hd3.cell (p := ⟨r, 1, none⟩) (HL2.out.lt r HFM.out)).trans c1
    have d2 := (hd3.cell (p := ⟨r, 2, none⟩) (HL2.out.lt r HFM.out)).trans c2
    have e0 := (hd3.cell (p := ⟨g, o' + k * 3, none⟩) hgl).trans k0
    have e1 := (hd3.cell (p := ⟨g, o' + k * 3 + 1, none⟩) hgl).trans k1
    have e2 := (hd3.cell (p := ⟨g, o' + k * 3 + 2, none⟩) hgl).trans k2
    have q0 := nd_cell (i := 0) hx6 rfl
    have q1 := nd_cell (i := 1) hx6 rfl
    have q2 := nd_cell (i := 2) hx6 rfl
    have y0 := nd_froz hx6 0
    have y1 := nd_froz hx6 1
    have y2 := nd_froz hx6 2
    have HD3 := Lib.hid hd3
    have HX63 := Lib.hid hx6
    clear hd3 hx6 hw3 k0 k1 k2 c0 c1 c2 hgl
    go_upto_region 4 with fail
    go_region
    obtain ⟨V, hV, hxV, hfV⟩ := set3 HX63.out (.bool t.l) (.int .i64 t.c) (.int .i64 t.d)
    rw [hV]
    have hdV := Below.drew (Below.refl V.heap.size V)
    obtain ⟨w4, hw4⟩ : ∃ w4, V.drew = w4 := ⟨_, rfl⟩
    rw [hw4] at hdV
    rw [hw4]
    have HX64 := Lib.hid ((hdV.block X6 (Array.getElem?_eq_some_iff.1 hxV).1).trans hxV)
    have HF4 : Hid (FrS (fun b => b = X6) w2 w4) := Lib.hid (((FrS.of HD3.out).trans hfV).trans (FrS.of hdV))
    clear hV hxV hfV hdV hw4 d1 d2 e0 e1 e2 q0 q1 q2 y0 y1 y2 hkz
    have hl4 := HL2.out.kept HF4.out (fun b hb e => by have := HXL.out; have := this.2 b hb; omega)
    have hs5 := hl4.sent
    obtain ⟨⟨sc4, v4, hq4, -, -, -, -⟩, -, -⟩ := hl4
    have c1 : w4.cell? ⟨r, 1, none⟩ = some (.int .i64 (k : Int)) := nd_cell hq4 rfl
    have f1 := nd_froz hq4 1
    have HS5 := Lib.hid hs5
    have HXX5 := Lib.hid (HF4.out.nd HX5.out (fun e => by have := HXL.out; omega))
    clear hq4 hs5
    go_upto_region 6 with fail
    obtain ⟨w5, hw5⟩ : ∃ w5, w4.setCell ⟨r, 1, none⟩ (.int .i64 ((k : Int) + 1)) = w5 := ⟨_, rfl⟩
    obtain ⟨hl5, hf5⟩ := HS5.out
    rw [hw5] at hl5 hf5
    rw [hw5]
    have hx5 := hf5.nd HXX5.out (fun hb => by have := HXL.out.2 _ hb; omega)
    have hx6 := hf5.nd HX64.out (fun hb => by have := HXL.out; have := this.2 _ hb; omega)
    have HL5 := Lib.hid hl5
    obtain ⟨⟨sc5, v5, hq5, -, -, -, -⟩, -, -⟩ := hl5
    have d0 : w5.cell? ⟨r, 0, none⟩ = some (.int .i64 nd) := nd_cell hq5 rfl
    have p0 : w5.cell? ⟨X5, 0, none⟩ = some (.int .i64 f) := nd_cell hx5 rfl
    have p1 : w5.cell? ⟨X5, 1, none⟩ = some (.int .i64 o) := nd_cell hx5 rfl
    have q0 : w5.cell? ⟨X6, 0, none⟩ = some (.bool t.l) := nd_cell hx6 rfl
    have HFW5 : Hid (FrS F W w5) := Lib.hid (((FrS.of HBB.out).over (HF4.out.then (Below.refl _ _)) (fun b e => .inr (by have h5 := HX5W.out; have := HXL.out; omega))).trans hf5)
    have HX55 := Lib.hid hx5
    have HX65 := Lib.hid hx6
    have HPX : Hid (PS = if t.l || !nodeB nd f || !nodeB nd o then P else P ++ cps (clp at' 0 1048576 + clp t.d 0 1048576) k f o s (clp t.c 1 9).toNat) := Lib.hid (by rw [← HPS.out, ← HTR.out]; rfl)
    obtain ⟨lo, hlo⟩ : ∃ lo, t.l = lo := ⟨_, rfl⟩
    rw [hlo] at q0 HPX
    clear hf5 hx5 hx6 hq5 hw5 c1 f1 hlo
    cases lo with
    | true =>
      have HE : Hid (RSr W F w5 r nd T (k + 1) PS) := Lib.hid (by
        rw [HPX.out, if_pos (by unfold nodeB; simp)]
        exact ⟨HFW5.out, F, HL5.out, fun b hb => .inl hb⟩)
      go_quiet (fail)
      go_wp2
      refine bodyPost_ret (v := .tuple #[]) (results_none Try.results16 _ _ _) rfl ⟨rfl, HE.out.below (below_drewN (Below.refl _ _) _)⟩
    | false =>
      by_cases h0 : 0 ≤ f
      · skip
        have g0 : decide (f < 0) = false := decide_eq_false (by omega)
        by_cases h1 : f < nd
        · skip
          have g1 : decide (nd ≤ f) = false := decide_eq_false (by omega)
          by_cases h2 : 0 ≤ o
          · skip
            have g2 : decide (o < 0) = false := decide_eq_false (by omega)
            by_cases h3 : o < nd
            · skip
              have g3 : decide (nd ≤ o) = false := decide_eq_false (by omega)
              go_quiet (fail)
              have hnl : PS = P ++ cps (clp at' 0 1048576 + clp t.d 0 1048576) k f o s (clp t.c 1 9).toNat := by
                rw [HPX.out, if_neg (by unfold nodeB; simp [h0, h1, h2, h3])]
              have hb1 := clp_bd at' (show (0 : Int) ≤ 1048576 by decide)
              have hb2 := clp_bd t.d (show (0 : Int) ≤ 1048576 by decide)
              have hb3 := clp_bd t.c (show (1 : Int) ≤ 9 by decide)
              obtain ⟨a1, ha1⟩ : ∃ a, clp at' 0 1048576 = a := ⟨_, rfl⟩
              obtain ⟨a2, ha2⟩ : ∃ a, clp t.d 0 1048576 = a := ⟨_, rfl⟩
              obtain ⟨c, hc⟩ : ∃ c : Nat, clp t.c 1 9 = (c : Int) := ⟨(clp t.c 1 9).toNat, by omega⟩
              have hcl1 : ∀ w, Calls Try.prog 19 #[.int .i64 at', .int .i64 0, .int .i64 1048576] w fun e w' => e = .returned (.int .i64 a1) ∧ w' = w := fun w => by rw [← ha1]; exact rclamp_any _ _ _ _
              have hcl2 : ∀ w, Calls Try.prog 19 #[.int .i64 t.d, .int .i64 0, .int .i64 1048576] w fun e w' => e = .returned (.int .i64 a2) ∧ w' = w := fun w => by rw [← ha2]; exact rclamp_any _ _ _ _
              have hcl3 : ∀ w, Calls Try.prog 19 #[.int .i64 t.c, .int .i64 1, .int .i64 9] w fun e w' => e = .returned (.int .i64 (c : Int)) ∧ w' = w := fun w => by rw [← hc]; exact rclamp_any _ _ _ _
              rw [ha1, ha2, hc, Int.toNat_natCast] at hnl
              rw [ha1] at hb1
              rw [ha2] at hb2
              rw [hc] at hb3
              obtain ⟨a, ha⟩ : ∃ a, a1 + a2 = a := ⟨_, rfl⟩
              rw [ha] at hnl
              have hab : 0 ≤ a ∧ a ≤ 2097152 := by omega
              have hwa : IntKind.i64.wrap a = a := by rw [IntKind.wrap_i64]; omega
              have HC1 := Lib.hid hcl1
              have HC2 := Lib.hid hcl2
              have HC3 := Lib.hid hcl3
              have HNL := Lib.hid hnl
              clear hcl1 hcl2 hcl3 hnl ha1 ha2 hc
              have hd6 := below_drewN (Below.refl w5.heap.size w5) nq
              obtain ⟨w6, hw6⟩ : ∃ w6, w5.drewN nq = w6 := ⟨_, rfl⟩
              rw [hw6] at hd6
              rw [hw6]
              have hx6 := (hd6.block X6 (Array.getElem?_eq_some_iff.1 HX65.out).1).trans HX65.out
              have HX66 := Lib.hid hx6
              have r1 : w6.cell? ⟨X6, 1, none⟩ = some (.int .i64 t.c) := nd_cell hx6 rfl
              have r2 : w6.cell? ⟨X6, 2, none⟩ = some (.int .i64 t.d) := nd_cell hx6 rfl
              have HD6 := Lib.hid hd6
              clear hd6 hw6 hx6 d0 p0 p1 q0 g0 g1 g2 g3 h0 h1 h2 h3
              go_upto_region 7 with fail
              go_wp2_with fail
              go_at_call 19
              refine (HC3.out _).mono ?_
              rintro x wx ⟨rfl, he⟩
              have he' := he.symm
              subst he'
              go_upto_region 8 with fail
              have r2' : w6.cell? ⟨X6, 2, none⟩ = some (.int .i64 t.d) := r2
              have HR2 : Hid (∀ V, Below w6.heap.size w6 V → V.cell? ⟨X6, 2, none⟩ = some (.int .i64 t.d)) := Lib.hid fun V hV => nd_cell ((hV.block X6 (Array.getElem?_eq_some_iff.1 HX66.out).1).trans HX66.out) rfl
              have HWD0 := Below.drew (Below.refl w6.heap.size w6)
              obtain ⟨W0, hW0⟩ : ∃ W0, w6.drew = W0 := ⟨_, rfl⟩
              rw [hW0] at HWD0
              have HWD := Lib.hid HWD0
              have HW0 := Lib.hid hW0
              clear HWD0 hW0 r1 r2 r2'
              refine wp_region_held_drew (S := (fun w' => w'.cell? ⟨X6, 2, none⟩ = some (.int .i64 t.d))) (by kernel_rfl) ?_ (fun hHeld => ?_)
              · (rw [HW0.out]; exact HR2.out _ HWD.out)
              rw [HW0.out] at hHeld ⊢
              refine wpAnyH_take (i := 0) (oi := { dst := some 73, op := Op.move (Operand.tmp 1), type := 3, pos := "ref.go:41", after := #[], guard := none }) (v := ?_) rfl (by kernel_rfl) (by kernel_rfl) (by kernel_rfl) (fun _ _ _ h => h) (Or.inl ⟨by rfl, ?_⟩) (by assumption) ?_
              rotate_left
              · ((intro w hSw; (try dsimp only at hSw); go_simp; (try rw [if_neg (by omega)])); try with_reducible rfl)
              (try simp only [Act.put, List.setIfInBounds_toArray, List.set_cons_zero, List.set_cons_succ])
              refine wpAnyH_take (i := 2) (oi := { dst := some 75, op := Op.fieldAddr 43 (Operand.tmp 6) 2, type := 0, pos := "ref.go:41", after := #[], guard := none }) (v := ?_) rfl (by kernel_rfl) (by kernel_rfl) (by kernel_rfl) (fun _ _ _ h => h) (Or.inl ⟨by rfl, ?_⟩) (by assumption) ?_
              rotate_left
              · ((intro w hSw; (try dsimp only at hSw); go_simp; (try rw [if_neg (by omega)])); try with_reducible rfl)
              (try simp only [Act.put, List.setIfInBounds_toArray, List.set_cons_zero, List.set_cons_succ])
              refine wpAnyH_take (i := 3) (oi := { dst := some 76, op := Op.load 3 (Operand.tmp 75), type := 3, pos := "ref.go:41", after := #[{ on := 2, ground := Ground.data }], guard := none }) (v := ?_) rfl (by kernel_rfl) (by kernel_rfl) (by kernel_rfl) (fun _ _ _ h => h) (Or.inl ⟨by rfl, ?_⟩) (by assumption) ?_
              rotate_left
              · ((intro w hSw; (try dsimp only at hSw); go_simp; (try rw [if_neg (by omega)])); try with_reducible rfl)
              (try simp only [Act.put, List.setIfInBounds_toArray, List.set_cons_zero, List.set_cons_succ])
              refine wpAnyH_ready (rs := [1]) (by kernel_rfl) (by simp) ?_
              refine AllReadyH.cons (o := { dst := some 74, op := Op.call { callee := Callee.value (Operand.func 19), args := #[Operand.tmp 73, Operand.const (Value.int IntKind.i64 0), Operand.const (Value.int IntKind.i64 1048576)], argTypes := #[3, 3, 3] }, type := 3, pos := "ref.go:41", after := #[{ on := 0, ground := Ground.data }], guard := none }) rfl (fun K hK => ?_) ?_
              · (go_simp; go_at_call 19; refine (HC1.out _).mono ?_; rintro u wz ⟨rfl, he⟩; have he1 := he.symm; subst he1; dsimp only)
                refine hK.out _ _ ?_ (fun hHeld => ?_)
                · exact HR2.out _ HWD.out
                clear hK K
                (try simp only [Act.put, List.setIfInBounds_toArray, List.set_cons_zero, List.set_cons_succ])
                refine wpAnyH_ready (rs := [4]) (by kernel_rfl) (by simp) ?_
                refine AllReadyH.cons (o := { dst := some 77, op := Op.call { callee := Callee.value (Operand.func 19), args := #[Operand.tmp 76, Operand.const (Value.int IntKind.i64 0), Operand.const (Value.int IntKind.i64 1048576)], argTypes := #[3, 3, 3] }, type := 3, pos := "ref.go:41", after := #[{ on := 3, ground := Ground.data }, { on := 1, ground := Ground.chain }], guard := none }) rfl (fun K hK => ?_) ?_
                · (go_simp; go_at_call 19; refine (HC2.out _).mono ?_; rintro u wz ⟨rfl, he⟩; have he1 := he.symm; subst he1; dsimp only)
                  refine hK.out _ _ ?_ (fun hHeld => ?_)
                  · exact HR2.out _ HWD.out
                  clear hK K
                  (try simp only [Act.put, List.setIfInBounds_toArray, List.set_cons_zero, List.set_cons_succ])
                  refine wpAnyH_take (i := 5) (oi := { dst := some 78, op := Op.binOp BinOp.add 3 (Operand.tmp 74) (Operand.tmp 77) 3, type := 3, pos := "ref.go:41", after := #[{ on := 1, ground := Ground.data }, { on := 4, ground := Ground.data }], guard := none }) (v := ?_) rfl (by kernel_rfl) (by kernel_rfl) (by kernel_rfl) (fun _ _ _ h => h) (Or.inl ⟨by rfl, ?_⟩) (by assumption) ?_
                  rotate_left
                  · ((intro w hSw; (try dsimp only at hSw); go_simp; (try rw [if_neg (by omega)])); try with_reducible rfl)
                  (try simp only [Act.put, List.setIfInBounds_toArray, List.set_cons_zero, List.set_cons_succ])
                  refine wpAnyH_take (i := 6) (oi := { dst := some 8, op := Op.assign (Operand.tmp 78), type := 3, pos := "ref.go:41", after := #[{ on := 5, ground := Ground.data }, { on := 4, ground := Ground.chain }, { on := 0, ground := Ground.phase }, { on := 1, ground := Ground.phase }, { on := 2, ground := Ground.phase }, { on := 3, ground := Ground.phase }, { on := 4, ground := Ground.phase }, { on := 5, ground := Ground.phase }], guard := none }) (v := ?_) rfl (by kernel_rfl) (by kernel_rfl) (by kernel_rfl) (fun _ _ _ h => h) (Or.inl ⟨by rfl, ?_⟩) (by assumption) ?_
                  rotate_left
                  · ((intro w hSw; (try dsimp only at hSw); go_simp; (try rw [if_neg (by omega)])); try with_reducible rfl)
                  (try simp only [Act.put, List.setIfInBounds_toArray, List.set_cons_zero, List.set_cons_succ])
                  refine wpAnyH_done (by kernel_rfl) ?_ _
                  try rw [hwa]
                  have HB65 := Lib.hid (bnext HD6.out HWD.out)
                  have HL7 := Lib.hid (HL5.out.below HB65.out)
                  have HX57 := Lib.hid ((HB65.out.block X5 (Array.getElem?_eq_some_iff.1 HX55.out).1).trans HX55.out)
                  have HFW7 := Lib.hid (HFW5.out.then HB65.out)
                  have HNF5 : Hid (¬ F X5) := Lib.hid (fun h => Nat.lt_irrefl _ (HXL.out.2 _ h))
                  have H07 : Hid (RSr W0 F W0 r nd T (k + 1) (P ++ cps a k f o s 0)) := Lib.hid (by rw [show cps a k f o s 0 = [] by rfl, List.append_nil]; exact HL7.out.here)
                  obtain ⟨hab0, hab1⟩ := hab
                  clear hHeld ha hb1 hb2 hwa
                  go_upto_region 10 with fail
                  go_loopw [9] (fun v9 wr => ∃ j : Nat, v9 = .int .i64 (j : Int) ∧ j ≤ c ∧ Hid (RSr W0 F wr r nd T (k + 1) (P ++ cps a k f o s j))) (fun v _ => c - (intOf v).toNat)
                  case atStart => exact ⟨0, rfl, Nat.zero_le _, H07⟩
                  case round =>
                    clear H07
                    obtain ⟨j, rfl, hj, HR⟩ := hrel
                    by_cases hjc : j < c
                    · have hjz : (j : Int) < (c : Int) := by omega
                      obtain ⟨PP, hPP⟩ : ∃ PP, P ++ cps a k f o s j = PP := ⟨_, rfl⟩
                      have hnext : P ++ cps a k f o s (j + 1) = PP ++ [⟨a + (j : Int), (k : Int), f, o, s⟩] := by rw [cps_next, ← List.append_assoc, hPP]; rfl
                      have hppl : PP.length ≤ 90009 := by rw [← hPP, List.length_append, cps_len]; omega
                      rw [hPP] at HR
                      obtain ⟨hfr, F', ⟨⟨sc6, v6, hq6, hr6, hv6, hs6, hsf6⟩, fM6, lt6⟩, h36⟩ := HR.out
                      obtain ⟨m, hm⟩ : ∃ m, PP.length = m := ⟨_, rfl⟩
                      rw [hm] at hr6 hppl
                      obtain ⟨va, vc, rfl⟩ := own_shape hr6
                      have hx5r := hfr.nd HX57.out HNF5.out
                      obtain ⟨W1, hW1⟩ : ∃ W1, W1 = wr := ⟨_, rfl⟩
                      subst hW1
                      have hMl : r < W1.heap.size := lt6 r fM6
                      have hXl5 : X5 < W1.heap.size := (Array.getElem?_eq_some_iff.1 hx5r).1
                      have HS : Hid (∀ V, Below W1.heap.size W1 V → V.cell? ⟨r, 3, none⟩ = some (.slice va m vc) ∧ V.cell? ⟨X5, 0, none⟩ = some (.int .i64 f) ∧ V.cell? ⟨X5, 1, none⟩ = some (.int .i64 o) ∧ V.cell? ⟨X5, 2, none⟩ = some (.string s)) := Lib.hid fun V hV => by
                        have q := (hV.block X5 hXl5).trans hx5r
                        exact ⟨nd_cell ((hV.block r hMl).trans hq6) rfl, nd_cell q rfl, nd_cell q rfl, nd_cell q rfl⟩
                      have HRW := Lib.hid hr6
                      have HNV5 : Hid ((Value.slice va m vc).ownBlock ≠ some X5) := Lib.hid fun e => by
                        rcases h36 _ (hv6 _ e) with h | h
                        · exact HNF5.out h
                        · have := (Array.getElem?_eq_some_iff.1 HX57.out).1
                          omega
                      have HE : Hid (∀ w9, (W1.drew.alloc (.cells #[.int .i64 f, .int .i64 o, .string s, .int .i64 (a + (j : Int))] 74)).grownBy w9 (Value.slice va m vc).ownBlock → (w9.cell? ⟨r, 3, none⟩ = some (.slice va m vc) ∧ w9.cell? ⟨X5, 0, none⟩ = some (.int .i64 f) ∧ w9.cell? ⟨X5, 1, none⟩ = some (.int .i64 o) ∧ w9.cell? ⟨X5, 2, none⟩ = some (.string s)) ∧ w9.heap[r]? = some (.cells #[.int .i64 nd, .int .i64 ((k + 1 : Nat) : Int), sc6, .slice va m vc] 65 (0, 0)) ∧ FrS (fun b => (Value.slice va m vc).ownBlock = some b) W1 w9) := Lib.hid fun w9 hg => by
                        have hd := Below.drew (balloc (Below.refl _ W1) (.cells #[.int .i64 f, .int .i64 o, .string s, .int .i64 (a + (j : Int))] 74))
                        have hbl : ∀ b, b < W1.heap.size → (Value.slice va m vc).ownBlock ≠ some b → w9.heap[b]? = W1.heap[b]? := fun b hb hne => (hg.block b (Nat.lt_of_lt_of_le hb hd.size) (fun e => hne e.symm)).trans (hd.block b hb)
                        have qX := (hbl X5 hXl5 HNV5.out).trans hx5r
                        have qM := (hbl r hMl (fun e => by have := (HRW.out.lt r e).1; omega)).trans hq6
                        exact ⟨⟨nd_cell qM rfl, nd_cell qX rfl, nd_cell qX rfl, nd_cell qX rfl⟩, qM, (FrS.of (S := fun b => (Value.slice va m vc).ownBlock = some b) hd).trans (FrS.grown hg (fun r e => e))⟩
                      have HV6 := Lib.hid hv6
                      have HS6 := Lib.hid hs6
                      have HSF6 := Lib.hid hsf6
                      have HFM6 := Lib.hid fM6
                      have HLT6 := Lib.hid lt6
                      have H36 := Lib.hid h36
                      have HFR := Lib.hid hfr
                      have HM := Lib.hid hm
                      have HNX := Lib.hid hnext
                      have HML := Lib.hid hMl
                      have hwj : IntKind.i64.wrap (a + (j : Int)) = a + (j : Int) := by rw [IntKind.wrap_i64]; omega
                      obtain ⟨i0, hi0, hz0, hz1, hz2⟩ := info_parts info_cy
                      have mixed : Try.prog.follows .mixedOrders = true := by kernel_rfl
                      clear hPP hnext hfr hq6 hr6 hv6 hs6 hsf6 fM6 lt6 h36 hx5r hm hMl hXl5
                      go_upto_region 12 with fail
                      refine wp_region_last #[{ dst := some 84, op := Op.move (Operand.tmp 0), type := 28, pos := "ref.go:43", after := #[], guard := none }, { dst := some 85, op := Op.move (Operand.tmp 0), type := 28, pos := "ref.go:43", after := #[], guard := none }, { dst := some 86, op := Op.nilCheck (Operand.tmp 85), type := 0, pos := "ref.go:43", after := #[{ on := 1, ground := Ground.data }], guard := none }, { dst := some 87, op := Op.fieldAddr 65 (Operand.tmp 86) 3, type := 0, pos := "ref.go:43", after := #[{ on := 2, ground := Ground.data }], guard := none }, { dst := some 88, op := Op.load 63 (Operand.tmp 87), type := 63, pos := "ref.go:43", after := #[{ on := 3, ground := Ground.data }], guard := none }, { dst := some 89, op := Op.load 31 (Operand.tmp 5), type := 31, pos := "ref.go:43", after := #[], guard := none }, { dst := some 90, op := Op.move (Operand.tmp 8), type := 3, pos := "ref.go:43", after := #[], guard := none }, { dst := some 91, op := Op.move (Operand.tmp 9), type := 3, pos := "ref.go:43", after := #[], guard := none }, { dst := some 92, op := Op.binOp BinOp.add 3 (Operand.tmp 90) (Operand.tmp 91) 3, type := 3, pos := "ref.go:43", after := #[{ on := 6, ground := Ground.data }, { on := 7, ground := Ground.data }], guard := none }, { dst := some 93, op := Op.build 74 #[(0, Operand.tmp 89), (1, Operand.tmp 92)], type := 74, pos := "ref.go:43", after := #[{ on := 5, ground := Ground.data }, { on := 8, ground := Ground.data }], guard := none }, { dst := some 94, op := Op.buildSlice 63 1 #[(0, Operand.tmp 93)], type := 63, pos := "ref.go:43", after := #[{ on := 9, ground := Ground.data }], guard := none }, { dst := some 95, op := Op.call { callee := Callee.builtin Builtin.append, args := #[Operand.tmp 88, Operand.tmp 94], argTypes := #[63, 63] }, type := 63, pos := "ref.go:43", after := #[{ on := 4, ground := Ground.data }, { on := 10, ground := Ground.data }], guard := none }, { dst := some 96, op := Op.nilCheck (Operand.tmp 84), type := 0, pos := "ref.go:43", after := #[{ on := 0, ground := Ground.data }, { on := 0, ground := Ground.phase }, { on := 1, ground := Ground.phase }, { on := 2, ground := Ground.phase }, { on := 3, ground := Ground.phase }, { on := 4, ground := Ground.phase }, { on := 5, ground := Ground.phase }, { on := 6, ground := Ground.phase }, { on := 7, ground := Ground.phase }, { on := 8, ground := Ground.phase }, { on := 9, ground := Ground.phase }, { on := 10, ground := Ground.phase }, { on := 11, ground := Ground.phase }], guard := none }, { dst := some 97, op := Op.fieldAddr 65 (Operand.tmp 96) 3, type := 0, pos := "ref.go:43", after := #[{ on := 12, ground := Ground.data }, { on := 0, ground := Ground.phase }, { on := 1, ground := Ground.phase }, { on := 2, ground := Ground.phase }, { on := 3, ground := Ground.phase }, { on := 4, ground := Ground.phase }, { on := 5, ground := Ground.phase }, { on := 6, ground := Ground.phase }, { on := 7, ground := Ground.phase }, { on := 8, ground := Ground.phase }, { on := 9, ground := Ground.phase }, { on := 10, ground := Ground.phase }, { on := 11, ground := Ground.phase }], guard := none }] { dst := none, op := Op.store 63 (Operand.tmp 97) (Operand.tmp 95), type := 0, pos := "ref.go:43", after := #[{ on := 13, ground := Ground.data }, { on := 11, ground := Ground.data }, { on := 11, ground := Ground.chain }, { on := 0, ground := Ground.phase }, { on := 1, ground := Ground.phase }, { on := 2, ground := Ground.phase }, { on := 3, ground := Ground.phase }, { on := 4, ground := Ground.phase }, { on := 5, ground := Ground.phase }, { on := 6, ground := Ground.phase }, { on := 7, ground := Ground.phase }, { on := 8, ground := Ground.phase }, { on := 9, ground := Ground.phase }, { on := 10, ground := Ground.phase }, { on := 11, ground := Ground.phase }], guard := none } rfl (by kernel_rfl) (by kernel_rfl) ((fun w' => w'.cell? ⟨r, 3, none⟩ = some (.slice va m vc) ∧ w'.cell? ⟨X5, 0, none⟩ = some (.int .i64 f) ∧ w'.cell? ⟨X5, 1, none⟩ = some (.int .i64 o) ∧ w'.cell? ⟨X5, 2, none⟩ = some (.string s))) ?_ (fun hHeld => ?_)
                      · first | exact hS1 | exact HS.out _ (Below.drew (Below.refl _ W1)) | exact HS.out _ (Below.drew (balloc (Below.refl _ W1) _))
                      refine wpAnyH_take (i := 0) (oi := { dst := some 84, op := Op.move (Operand.tmp 0), type := 28, pos := "ref.go:43", after := #[], guard := none }) (v := ?_) rfl (by kernel_rfl) (by kernel_rfl) (by kernel_rfl) (fun _ _ _ h => h) (Or.inl ⟨by rfl, ?_⟩) (by assumption) ?_
                      rotate_left
                      · ((intro w hSw; (try dsimp only at hSw); go_simp; (try rw [if_neg (by omega)])); try with_reducible rfl)
                      (try simp only [Act.put, List.setIfInBounds_toArray, List.set_cons_zero, List.set_cons_succ])
                      refine wpAnyH_take (i := 1) (oi := { dst := some 85, op := Op.move (Operand.tmp 0), type := 28, pos := "ref.go:43", after := #[], guard := none }) (v := ?_) rfl (by kernel_rfl) (by kernel_rfl) (by kernel_rfl) (fun _ _ _ h => h) (Or.inl ⟨by rfl, ?_⟩) (by assumption) ?_
                      rotate_left
                      · ((intro w hSw; (try dsimp only at hSw); go_simp; (try rw [if_neg (by omega)])); try with_reducible rfl)
                      (try simp only [Act.put, List.setIfInBounds_toArray, List.set_cons_zero, List.set_cons_succ])
                      refine wpAnyH_take (i := 2) (oi := { dst := some 86, op := Op.nilCheck (Operand.tmp 85), type := 0, pos := "ref.go:43", after := #[{ on := 1, ground := Ground.data }], guard := none }) (v := ?_) rfl (by kernel_rfl) (by kernel_rfl) (by kernel_rfl) (fun _ _ _ h => h) (Or.inl ⟨by rfl, ?_⟩) (by assumption) ?_
                      rotate_left
                      · ((intro w hSw; (try dsimp only at hSw); go_simp; (try rw [if_neg (by omega)])); try with_reducible rfl)
                      (try simp only [Act.put, List.setIfInBounds_toArray, List.set_cons_zero, List.set_cons_succ])
                      refine wpAnyH_take (i := 3) (oi := { dst := some 87, op := Op.fieldAddr 65 (Operand.tmp 86) 3, type := 0, pos := "ref.go:43", after := #[{ on := 2, ground := Ground.data }], guard := none }) (v := ?_) rfl (by kernel_rfl) (by kernel_rfl) (by kernel_rfl) (fun _ _ _ h => h) (Or.inl ⟨by rfl, ?_⟩) (by assumption) ?_
                      rotate_left
                      · ((intro w hSw; (try dsimp only at hSw); go_simp; (try rw [if_neg (by omega)])); try with_reducible rfl)
                      (try simp only [Act.put, List.setIfInBounds_toArray, List.set_cons_zero, List.set_cons_succ])
                      refine wpAnyH_take (i := 4) (oi := { dst := some 88, op := Op.load 63 (Operand.tmp 87), type := 63, pos := "ref.go:43", after := #[{ on := 3, ground := Ground.data }], guard := none }) (v := ?_) rfl (by kernel_rfl) (by kernel_rfl) (by kernel_rfl) (fun _ _ _ h => h) (Or.inl ⟨by rfl, ?_⟩) (by assumption) ?_
                      rotate_left
                      · ((intro w hSw; (try dsimp only at hSw); go_simp; (try rw [if_neg (by omega)])); try with_reducible rfl)
                      (try simp only [Act.put, List.setIfInBounds_toArray, List.set_cons_zero, List.set_cons_succ])
                      refine wpAnyH_take (i := 5) (oi := { dst := some 89, op := Op.load 31 (Operand.tmp 5), type := 31, pos := "ref.go:43", after := #[], guard := none }) (v := ?_) rfl (by kernel_rfl) (by kernel_rfl) (by kernel_rfl) (fun _ _ _ h => h) (Or.inl ⟨by rfl, ?_⟩) (by assumption) ?_
                      rotate_left
                      · ((intro w hSw; (try dsimp only at hSw); go_simp; (try rw [if_neg (by omega)])); try with_reducible rfl)
                      (try simp only [Act.put, List.setIfInBounds_toArray, List.set_cons_zero, List.set_cons_succ])
                      refine wpAnyH_take (i := 6) (oi := { dst := some 90, op := Op.move (Operand.tmp 8), type := 3, pos := "ref.go:43", after := #[], guard := none }) (v := ?_) rfl (by kernel_rfl) (by kernel_rfl) (by kernel_rfl) (fun _ _ _ h => h) (Or.inl ⟨by rfl, ?_⟩) (by assumption) ?_
                      rotate_left
                      · ((intro w hSw; (try dsimp only at hSw); go_simp; (try rw [if_neg (by omega)])); try with_reducible rfl)
                      (try simp only [Act.put, List.setIfInBounds_toArray, List.set_cons_zero, List.set_cons_succ])
                      refine wpAnyH_take (i := 7) (oi := { dst := some 91, op := Op.move (Operand.tmp 9), type := 3, pos := "ref.go:43", after := #[], guard := none }) (v := ?_) rfl (by kernel_rfl) (by kernel_rfl) (by kernel_rfl) (fun _ _ _ h => h) (Or.inl ⟨by rfl, ?_⟩) (by assumption) ?_
                      rotate_left
                      · ((intro w hSw; (try dsimp only at hSw); go_simp; (try rw [if_neg (by omega)])); try with_reducible rfl)
                      (try simp only [Act.put, List.setIfInBounds_toArray, List.set_cons_zero, List.set_cons_succ])
                      refine wpAnyH_take (i := 8) (oi := { dst := some 92, op := Op.binOp BinOp.add 3 (Operand.tmp 90) (Operand.tmp 91) 3, type := 3, pos := "ref.go:43", after := #[{ on := 6, ground := Ground.data }, { on := 7, ground := Ground.data }], guard := none }) (v := ?_) rfl (by kernel_rfl) (by kernel_rfl) (by kernel_rfl) (fun _ _ _ h => h) (Or.inl ⟨by rfl, ?_⟩) (by assumption) ?_
                      rotate_left
                      · ((intro w hSw; (try dsimp only at hSw); go_simp; (try rw [if_neg (by omega)])); try with_reducible rfl)
                      (try simp only [Act.put, List.setIfInBounds_toArray, List.set_cons_zero, List.set_cons_succ])
                      refine wpAnyH_take (i := 9) (oi := { dst := some 93, op := Op.build 74 #[(0, Operand.tmp 89), (1, Operand.tmp 92)], type := 74, pos := "ref.go:43", after := #[{ on := 5, ground := Ground.data }, { on := 8, ground := Ground.data }], guard := none }) (v := ?_) rfl (by kernel_rfl) (by kernel_rfl) (by kernel_rfl) (fun _ _ _ h => h) (Or.inl ⟨by rfl, ?_⟩) (by assumption) ?_
                      rotate_left
                      · ((intro w hSw; (try dsimp only at hSw); go_simp; (try rw [if_neg (by omega)])); try with_reducible rfl)
                      (try simp only [Act.put, List.setIfInBounds_toArray, List.set_cons_zero, List.set_cons_succ])
                      refine wpAnyH_ready (rs := [10]) (by kernel_rfl) (by simp) ?_
                      refine AllReadyH.cons (o := { dst := some 94, op := Op.buildSlice 63 1 #[(0, Operand.tmp 93)], type := 63, pos := "ref.go:43", after := #[{ on := 9, ground := Ground.data }], guard := none }) rfl (fun K hK => ?_) AllReadyH.nil
                      go_simp
                      refine hK.out _ _ ?_ (fun hHeld => ?_)
                      · first | exact hS1 | exact HS.out _ (Below.drew (Below.refl _ W1)) | exact HS.out _ (Below.drew (balloc (Below.refl _ W1) _))
                      clear hK K
                      (try simp only [Act.put, List.setIfInBounds_toArray, List.set_cons_zero, List.set_cons_succ])
                      refine wpAnyH_ready (rs := [11]) (by kernel_rfl) (by simp) ?_
                      refine AllReadyH.cons (o := { dst := some 95, op := Op.call { callee := Callee.builtin Builtin.append, args := #[Operand.tmp 88, Operand.tmp 94], argTypes := #[63, 63] }, type := 63, pos := "ref.go:43", after := #[{ on := 4, ground := Ground.data }, { on := 10, ground := Ground.data }], guard := none }) rfl (fun K hK => ?_) AllReadyH.nil
                      (refine step_appN (by rfl) _ _ _ (by rfl) (r + 1) 74 i0 _ 4 40 Try.underlying63 hi0 hz0 hz1 hz2 rfl (by decide) (.slice va m vc) m (cys PP) (by rfl) (own_below HRW.out (Below.drew (balloc (Below.refl _ W1) _))) (.slice (some ⟨W1.heap.size, 0, none⟩) 1 1) 1 [.int .i64 f, .int .i64 o, .string s, .int .i64 (a + (j : Int))] (by rfl) (srcN_new W1.drew [.int .i64 f, .int .i64 o, .string s, .int .i64 (a + (j : Int))] 74 4 1 1 rfl) (by simp [ Value.oneCell']) (by unfold maxLen; omega) (by omega) (by have := HML.out; simp; omega) ?_; intro v' w9 hown hgrow hat; have HE6 := Lib.hid (HE.out w9 hgrow); have hS1 := HE6.out.1)
                      refine hK.out _ _ ?_ (fun hHeld => ?_)
                      · first | exact hS1 | exact HS.out _ (Below.drew (Below.refl _ W1)) | exact HS.out _ (Below.drew (balloc (Below.refl _ W1) _))
                      clear hK K
                      (try simp only [Act.put, List.setIfInBounds_toArray, List.set_cons_zero, List.set_cons_succ])
                      refine wpAnyH_take (i := 12) (oi := { dst := some 96, op := Op.nilCheck (Operand.tmp 84), type := 0, pos := "ref.go:43", after := #[{ on := 0, ground := Ground.data }, { on := 0, ground := Ground.phase }, { on := 1, ground := Ground.phase }, { on := 2, ground := Ground.phase }, { on := 3, ground := Ground.phase }, { on := 4, ground := Ground.phase }, { on := 5, ground := Ground.phase }, { on := 6, ground := Ground.phase }, { on := 7, ground := Ground.phase }, { on := 8, ground := Ground.phase }, { on := 9, ground := Ground.phase }, { on := 10, ground := Ground.phase }, { on := 11, ground := Ground.phase }], guard := none }) (v := ?_) rfl (by kernel_rfl) (by kernel_rfl) (by kernel_rfl) (fun _ _ _ h => h) (Or.inl ⟨by rfl, ?_⟩) (by assumption) ?_
                      rotate_left
                      · ((intro w hSw; (try dsimp only at hSw); go_simp; (try rw [if_neg (by omega)])); try with_reducible rfl)
                      (try simp only [Act.put, List.setIfInBounds_toArray, List.set_cons_zero, List.set_cons_succ])
                      refine wpAnyH_take (i := 13) (oi := { dst := some 97, op := Op.fieldAddr 65 (Operand.tmp 96) 3, type := 0, pos := "ref.go:43", after := #[{ on := 12, ground := Ground.data }, { on := 0, ground := Ground.phase }, { on := 1, ground := Ground.phase }, { on := 2, ground := Ground.phase }, { on := 3, ground := Ground.phase }, { on := 4, ground := Ground.phase }, { on := 5, ground := Ground.phase }, { on := 6, ground := Ground.phase }, { on := 7, ground := Ground.phase }, { on := 8, ground := Ground.phase }, { on := 9, ground := Ground.phase }, { on := 10, ground := Ground.phase }, { on := 11, ground := Ground.phase }], guard := none }) (v := ?_) rfl (by kernel_rfl) (by kernel_rfl) (by kernel_rfl) (fun _ _ _ h => h) (Or.inl ⟨by rfl, ?_⟩) (by assumption) ?_
                      rotate_left
                      · ((intro w hSw; (try dsimp only at hSw); go_simp; (try rw [if_neg (by omega)])); try with_reducible rfl)
                      (try simp only [Act.put, List.setIfInBounds_toArray, List.set_cons_zero, List.set_cons_succ])
                      refine wpAnyH_done (by kernel_rfl) ?_ _
                      show Oper.wp _ _ _ _ _ _
                      obtain ⟨⟨d3, -⟩, qM, hfr⟩ := HE6.out
                      have hfz := nd_froz qM 3
                      obtain ⟨oa, oc, rfl⟩ := own_shape hown
                      have hset := FrS.set (S := fun b => b = r) w9 (b := r) (i := 3) rfl (.slice oa (m + 1) oc)
                      rw [show cys PP ++ [.int .i64 f, .int .i64 o, .string s, .int .i64 (a + (j : Int))] = cys (PP ++ [⟨a + (j : Int), (k : Int), f, o, s⟩]) by rw [cys_app, cys_one]; rfl] at hown
                      have hsz : (w9.setCell ⟨r, 3, none⟩ (.slice oa (m + 1) oc)).heap.size = w9.heap.size := by simp
                      have HQ : Hid (RS (w9.setCell ⟨r, 3, none⟩ (.slice oa (m + 1) oc)) r nd T (k + 1) (PP ++ [⟨a + (j : Int), (k : Int), f, o, s⟩]) (fun b => F' b ∨ (Value.slice oa (m + 1) oc).ownBlock = some b)) := Lib.hid ⟨⟨sc6, .slice oa (m + 1) oc, heap_setCell_same w9 r 3 _ _ _ qM, by rw [List.length_append, HM.out]; exact hset.own hown (fun q e => by have := (hown.lt q e).1; omega), fun b e => .inr e, hset.own (hfr.own HS6.out (fun q e e2 => by have h1 := (HSF6.out q e).1; have h2 := (HRW.out.lt q e2).1; omega)) (fun q e => by have := (HSF6.out q e).1; omega), fun b e => ⟨(HSF6.out b e).1, .inl (HSF6.out b e).2⟩⟩, .inl HFM6.out, fun b hb => by
                        rw [hsz]
                        rcases hb with hb | hb
                        · exact Nat.lt_of_lt_of_le (HLT6.out b hb) hfr.size
                        · exact (hown.lt b hb).2⟩
                      have H3 : Hid (∀ b, (F' b ∨ (Value.slice oa (m + 1) oc).ownBlock = some b) → F b ∨ W0.heap.size ≤ b) := Lib.hid fun b hb => by
                        rcases hb with hb | hb
                        · exact H36.out b hb
                        · rcases hat with h | h
                          · exact H36.out b (HV6.out b (h.symm.trans hb))
                          · rw [h] at hb
                            have := Option.some.inj hb
                            have h2 := HFR.out.size
                            simp at this
                            omega
                      have HFR2 : Hid (FrS F W0 (w9.setCell ⟨r, 3, none⟩ (.slice oa (m + 1) oc))) := Lib.hid ((HFR.out.over hfr (fun b e => H36.out b (HV6.out b e))).trans (hset.mono (fun b e => by rw [e]; exact HFM.out)))
                      have HX : Hid (RSr W0 F (w9.setCell ⟨r, 3, none⟩ (.slice oa (m + 1) oc)) r nd T (k + 1) (P ++ cps a k f o s (j + 1))) := Lib.hid (by
                        rw [HNX.out]
                        exact ⟨HFR2.out, _, HQ.out, H3.out⟩)
                      clear hS1 qM hfr hset hown hgrow hat HE6 hHeld hsz
                      go_wp2
                      go_roundw
                      case rel => exact ⟨j + 1, by go_num, hjc, HX⟩
                      case measure => simp [intOf]; omega
                    · have hjz : ¬ (j : Int) < (c : Int) := by omega
                      obtain rfl : j = c := by omega
                      have HE : Hid (RSr W F wr r nd T (k + 1) PS) := Lib.hid (by
                        rw [HNL.out]
                        exact HR.out.glue HFW7.out (fun b hb => .inl hb))
                      clear hjc hj
                      go_wp2
                      go_end0
                      exact ⟨rfl, HE.out⟩
                  
                exact AllReadyH.nil
              exact AllReadyH.nil
            · skip
              have g3 : decide (nd ≤ o) = true := decide_eq_true (by omega)
              have HE : Hid (RSr W F w5 r nd T (k + 1) PS) := Lib.hid (by
                rw [HPX.out, if_pos (by unfold nodeB; simp [h0, h1, h2, h3])]
                exact ⟨HFW5.out, F, HL5.out, fun b hb => .inl hb⟩)
              go_quiet (fail)
              go_wp2
              refine bodyPost_ret (v := .tuple #[]) (results_none Try.results16 _ _ _) rfl ⟨rfl, HE.out.below (below_drewN (Below.refl _ _) _)⟩
          · skip
            have g2 : decide (o < 0) = true := decide_eq_true (by omega)
            have HE : Hid (RSr W F w5 r nd T (k + 1) PS) := Lib.hid (by
              rw [HPX.out, if_pos (by unfold nodeB; simp [h0, h1, h2])]
              exact ⟨HFW5.out, F, HL5.out, fun b hb => .inl hb⟩)
            go_quiet (fail)
            go_wp2
            refine bodyPost_ret (v := .tuple #[]) (results_none Try.results16 _ _ _) rfl ⟨rfl, HE.out.below (below_drewN (Below.refl _ _) _)⟩
        · skip
          have g1 : decide (nd ≤ f) = true := decide_eq_true (by omega)
          have HE : Hid (RSr W F w5 r nd T (k + 1) PS) := Lib.hid (by
            rw [HPX.out, if_pos (by unfold nodeB; simp [h0, h1])]
            exact ⟨HFW5.out, F, HL5.out, fun b hb => .inl hb⟩)
          go_quiet (fail)
          go_wp2
          refine bodyPost_ret (v := .tuple #[]) (results_none Try.results16 _ _ _) rfl ⟨rfl, HE.out.below (below_drewN (Below.refl _ _) _)⟩
      · skip
        have g0 : decide (f < 0) = true := decide_eq_true (by omega)
        have HE : Hid (RSr W F w5 r nd T (k + 1) PS) := Lib.hid (by
          rw [HPX.out, if_pos (by unfold nodeB; simp [h0])]
          exact ⟨HFW5.out, F, HL5.out, fun b hb => .inl hb⟩)
        go_quiet (fail)
        go_wp2
        refine bodyPost_ret (v := .tuple #[]) (results_none Try.results16 _ _ _) rfl ⟨rfl, HE.out.below (below_drewN (Below.refl _ _) _)⟩
  · have hkz : ¬ (k : Int) < (n : Int) := by omega
    go_quiet (fail)
    have ht := HOUT.out hkn
    have hd3 := below_drewN (Below.refl w2.heap.size w2) nq
    obtain ⟨w4, hw4⟩ : ∃ w4, w2.drewN nq = w4 := ⟨_, rfl⟩
    rw [hw4] at hd3
    rw [hw4]
    have HX64 : Hid (w4.heap[X6]? = some (.cells #[.bool t.l, .int .i64 t.c, .int .i64 t.d] 43 (0, 0))) := Lib.hid (by
      rw [ht]
      exact (hd3.block X6 (Array.getElem?_eq_some_iff.1 HX6.out).1).trans HX6.out)
    have HF4 : Hid (FrS (fun b => b = X6) w2 w4) := Lib.hid (FrS.of hd3)
    clear hd3 hw4 c0 c1 c2 hkz ht
    have hl4 := HL2.out.kept HF4.out (fun b hb e => by have := HXL.out; have := this.2 b hb; omega)
    have hs5 := hl4.sent
    obtain ⟨⟨sc4, v4, hq4, -, -, -, -⟩, -, -⟩ := hl4
    have c1 : w4.cell? ⟨r, 1, none⟩ = some (.int .i64 (k : Int)) := nd_cell hq4 rfl
    have f1 := nd_froz hq4 1
    have HS5 := Lib.hid hs5
    have HXX5 := Lib.hid (HF4.out.nd HX5.out (fun e => by have := HXL.out; omega))
    clear hq4 hs5
    go_upto_region 6 with fail
    obtain ⟨w5, hw5⟩ : ∃ w5, w4.setCell ⟨r, 1, none⟩ (.int .i64 ((k : Int) + 1)) = w5 := ⟨_, rfl⟩
    obtain ⟨hl5, hf5⟩ := HS5.out
    rw [hw5] at hl5 hf5
    rw [hw5]
    have hx5 := hf5.nd HXX5.out (fun hb => by have := HXL.out.2 _ hb; omega)
    have hx6 := hf5.nd HX64.out (fun hb => by have := HXL.out; have := this.2 _ hb; omega)
    have HL5 := Lib.hid hl5
    obtain ⟨⟨sc5, v5, hq5, -, -, -, -⟩, -, -⟩ := hl5
    have d0 : w5.cell? ⟨r, 0, none⟩ = some (.int .i64 nd) := nd_cell hq5 rfl
    have p0 : w5.cell? ⟨X5, 0, none⟩ = some (.int .i64 f) := nd_cell hx5 rfl
    have p1 : w5.cell? ⟨X5, 1, none⟩ = some (.int .i64 o) := nd_cell hx5 rfl
    have q0 : w5.cell? ⟨X6, 0, none⟩ = some (.bool t.l) := nd_cell hx6 rfl
    have HFW5 : Hid (FrS F W w5) := Lib.hid (((FrS.of HBB.out).over (HF4.out.then (Below.refl _ _)) (fun b e => .inr (by have h5 := HX5W.out; have := HXL.out; omega))).trans hf5)
    have HX55 := Lib.hid hx5
    have HX65 := Lib.hid hx6
    have HPX : Hid (PS = if t.l || !nodeB nd f || !nodeB nd o then P else P ++ cps (clp at' 0 1048576 + clp t.d 0 1048576) k f o s (clp t.c 1 9).toNat) := Lib.hid (by rw [← HPS.out, ← HTR.out]; rfl)
    obtain ⟨lo, hlo⟩ : ∃ lo, t.l = lo := ⟨_, rfl⟩
    rw [hlo] at q0 HPX
    clear hf5 hx5 hx6 hq5 hw5 c1 f1 hlo
    cases lo with
    | true =>
      have HE : Hid (RSr W F w5 r nd T (k + 1) PS) := Lib.hid (by
        rw [HPX.out, if_pos (by unfold nodeB; simp)]
        exact ⟨HFW5.out, F, HL5.out, fun b hb => .inl hb⟩)
      go_quiet (fail)
      go_wp2
      refine bodyPost_ret (v := .tuple #[]) (results_none Try.results16 _ _ _) rfl ⟨rfl, HE.out.below (below_drewN (Below.refl _ _) _)⟩
    | false =>
      by_cases h0 : 0 ≤ f
      · skip
        have g0 : decide (f < 0) = false := decide_eq_false (by omega)
        by_cases h1 : f < nd
        · skip
          have g1 : decide (nd ≤ f) = false := decide_eq_false (by omega)
          by_cases h2 : 0 ≤ o
          · skip
            have g2 : decide (o < 0) = false := decide_eq_false (by omega)
            by_cases h3 : o < nd
            · skip
              have g3 : decide (nd ≤ o) = false := decide_eq_false (by omega)
              go_quiet (fail)
              have hnl : PS = P ++ cps (clp at' 0 1048576 + clp t.d 0 1048576) k f o s (clp t.c 1 9).toNat := by
                rw [HPX.out, if_neg (by unfold nodeB; simp [h0, h1, h2, h3])]
              have hb1 := clp_bd at' (show (0 : Int) ≤ 1048576 by decide)
              have hb2 := clp_bd t.d (show (0 : Int) ≤ 1048576 by decide)
              have hb3 := clp_bd t.c (show (1 : Int) ≤ 9 by decide)
              obtain ⟨a1, ha1⟩ : ∃ a, clp at' 0 1048576 = a := ⟨_, rfl⟩
              obtain ⟨a2, ha2⟩ : ∃ a, clp t.d 0 1048576 = a := ⟨_, rfl⟩
              obtain ⟨c, hc⟩ : ∃ c : Nat, clp t.c 1 9 = (c : Int) := ⟨(clp t.c 1 9).toNat, by omega⟩
              have hcl1 : ∀ w, Calls Try.prog 19 #[.int .i64 at', .int .i64 0, .int .i64 1048576] w fun e w' => e = .returned (.int .i64 a1) ∧ w' = w := fun w => by rw [← ha1]; exact rclamp_any _ _ _ _
              have hcl2 : ∀ w, Calls Try.prog 19 #[.int .i64 t.d, .int .i64 0, .int .i64 1048576] w fun e w' => e = .returned (.int .i64 a2) ∧ w' = w := fun w => by rw [← ha2]; exact rclamp_any _ _ _ _
              have hcl3 : ∀ w, Calls Try.prog 19 #[.int .i64 t.c, .int .i64 1, .int .i64 9] w fun e w' => e = .returned (.int .i64 (c : Int)) ∧ w' = w := fun w => by rw [← hc]; exact rclamp_any _ _ _ _
              rw [ha1, ha2, hc, Int.toNat_natCast] at hnl
              rw [ha1] at hb1
              rw [ha2] at hb2
              rw [hc] at hb3
              obtain ⟨a, ha⟩ : ∃ a, a1 + a2 = a := ⟨_, rfl⟩
              rw [ha] at hnl
              have hab : 0 ≤ a ∧ a ≤ 2097152 := by omega
              have hwa : IntKind.i64.wrap a = a := by rw [IntKind.wrap_i64]; omega
              have HC1 := Lib.hid hcl1
              have HC2 := Lib.hid hcl2
              have HC3 := Lib.hid hcl3
              have HNL := Lib.hid hnl
              clear hcl1 hcl2 hcl3 hnl ha1 ha2 hc
              have hd6 := below_drewN (Below.refl w5.heap.size w5) nq
              obtain ⟨w6, hw6⟩ : ∃ w6, w5.drewN nq = w6 := ⟨_, rfl⟩
              rw [hw6] at hd6
              rw [hw6]
              have hx6 := (hd6.block X6 (Array.getElem?_eq_some_iff.1 HX65.out).1).trans HX65.out
              have HX66 := Lib.hid hx6
              have r1 : w6.cell? ⟨X6, 1, none⟩ = some (.int .i64 t.c) := nd_cell hx6 rfl
              have r2 : w6.cell? ⟨X6, 2, none⟩ = some (.int .i64 t.d) := nd_cell hx6 rfl
              have HD6 := Lib.hid hd6
              clear hd6 hw6 hx6 d0 p0 p1 q0 g0 g1 g2 g3 h0 h1 h2 h3
              go_upto_region 7 with fail
              go_wp2_with fail
              go_at_call 19
              refine (HC3.out _).mono ?_
              rintro x wx ⟨rfl, he⟩
              have he' := he.symm
              subst he'
              go_upto_region 8 with fail
              have r2' : w6.cell? ⟨X6, 2, none⟩ = some (.int .i64 t.d) := r2
              have HR2 : Hid (∀ V, Below w6.heap.size w6 V → V.cell? ⟨X6, 2, none⟩ = some (.int .i64 t.d)) := Lib.hid fun V hV => nd_cell ((hV.block X6 (Array.getElem?_eq_some_iff.1 HX66.out).1).trans HX66.out) rfl
              have HWD0 := Below.drew (Below.refl w6.heap.size w6)
              obtain ⟨W0, hW0⟩ : ∃ W0, w6.drew = W0 := ⟨_, rfl⟩
              rw [hW0] at HWD0
              have HWD := Lib.hid HWD0
              have HW0 := Lib.hid hW0
              clear HWD0 hW0 r1 r2 r2'
              refine wp_region_held_drew (S := (fun w' => w'.cell? ⟨X6, 2, none⟩ = some (.int .i64 t.d))) (by kernel_rfl) ?_ (fun hHeld => ?_)
              · (rw [HW0.out]; exact HR2.out _ HWD.out)
              rw [HW0.out] at hHeld ⊢
              refine wpAnyH_take (i := 0) (oi := { dst := some 73, op := Op.move (Operand.tmp 1), type := 3, pos := "ref.go:41", after := #[], guard := none }) (v := ?_) rfl (by kernel_rfl) (by kernel_rfl) (by kernel_rfl) (fun _ _ _ h => h) (Or.inl ⟨by rfl, ?_⟩) (by assumption) ?_
              rotate_left
              · ((intro w hSw; (try dsimp only at hSw); go_simp; (try rw [if_neg (by omega)])); try with_reducible rfl)
              (try simp only [Act.put, List.setIfInBounds_toArray, List.set_cons_zero, List.set_cons_succ])
              refine wpAnyH_take (i := 2) (oi := { dst := some 75, op := Op.fieldAddr 43 (Operand.tmp 6) 2, type := 0, pos := "ref.go:41", after := #[], guard := none }) (v := ?_) rfl (by kernel_rfl) (by kernel_rfl) (by kernel_rfl) (fun _ _ _ h => h) (Or.inl ⟨by rfl, ?_⟩) (by assumption) ?_
              rotate_left
              · ((intro w hSw; (try dsimp only at hSw); go_simp; (try rw [if_neg (by omega)])); try with_reducible rfl)
              (try simp only [Act.put, List.setIfInBounds_toArray, List.set_cons_zero, List.set_cons_succ])
              refine wpAnyH_take (i := 3) (oi := { dst := some 76, op := Op.load 3 (Operand.tmp 75), type := 3, pos := "ref.go:41", after := #[{ on := 2, ground := Ground.data }], guard := none }) (v := ?_) rfl (by kernel_rfl) (by kernel_rfl) (by kernel_rfl) (fun _ _ _ h => h) (Or.inl ⟨by rfl, ?_⟩) (by assumption) ?_
              rotate_left
              · ((intro w hSw; (try dsimp only at hSw); go_simp; (try rw [if_neg (by omega)])); try with_reducible rfl)
              (try simp only [Act.put, List.setIfInBounds_toArray, List.set_cons_zero, List.set_cons_succ])
              refine wpAnyH_ready (rs := [1]) (by kernel_rfl) (by simp) ?_
              refine AllReadyH.cons (o := { dst := some 74, op := Op.call { callee := Callee.value (Operand.func 19), args := #[Operand.tmp 73, Operand.const (Value.int IntKind.i64 0), Operand.const (Value.int IntKind.i64 1048576)], argTypes := #[3, 3, 3] }, type := 3, pos := "ref.go:41", after := #[{ on := 0, ground := Ground.data }], guard := none }) rfl (fun K hK => ?_) ?_
              · (go_simp; go_at_call 19; refine (HC1.out _).mono ?_; rintro u wz ⟨rfl, he⟩; have he1 := he.symm; subst he1; dsimp only)
                refine hK.out _ _ ?_ (fun hHeld => ?_)
                · exact HR2.out _ HWD.out
                clear hK K
                (try simp only [Act.put, List.setIfInBounds_toArray, List.set_cons_zero, List.set_cons_succ])
                refine wpAnyH_ready (rs := [4]) (by kernel_rfl) (by simp) ?_
                refine AllReadyH.cons (o := { dst := some 77, op := Op.call { callee := Callee.value (Operand.func 19), args := #[Operand.tmp 76, Operand.const (Value.int IntKind.i64 0), Operand.const (Value.int IntKind.i64 1048576)], argTypes := #[3, 3, 3] }, type := 3, pos := "ref.go:41", after := #[{ on := 3, ground := Ground.data }, { on := 1, ground := Ground.chain }], guard := none }) rfl (fun K hK => ?_) ?_
                · (go_simp; go_at_call 19; refine (HC2.out _).mono ?_; rintro u wz ⟨rfl, he⟩; have he1 := he.symm; subst he1; dsimp only)
                  refine hK.out _ _ ?_ (fun hHeld => ?_)
                  · exact HR2.out _ HWD.out
                  clear hK K
                  (try simp only [Act.put, List.setIfInBounds_toArray, List.set_cons_zero, List.set_cons_succ])
                  refine wpAnyH_take (i := 5) (oi := { dst := some 78, op := Op.binOp BinOp.add 3 (Operand.tmp 74) (Operand.tmp 77) 3, type := 3, pos := "ref.go:41", after := #[{ on := 1, ground := Ground.data }, { on := 4, ground := Ground.data }], guard := none }) (v := ?_) rfl (by kernel_rfl) (by kernel_rfl) (by kernel_rfl) (fun _ _ _ h => h) (Or.inl ⟨by rfl, ?_⟩) (by assumption) ?_
                  rotate_left
                  · ((intro w hSw; (try dsimp only at hSw); go_simp; (try rw [if_neg (by omega)])); try with_reducible rfl)
                  (try simp only [Act.put, List.setIfInBounds_toArray, List.set_cons_zero, List.set_cons_succ])
                  refine wpAnyH_take (i := 6) (oi := { dst := some 8, op := Op.assign (Operand.tmp 78), type := 3, pos := "ref.go:41", after := #[{ on := 5, ground := Ground.data }, { on := 4, ground := Ground.chain }, { on := 0, ground := Ground.phase }, { on := 1, ground := Ground.phase }, { on := 2, ground := Ground.phase }, { on := 3, ground := Ground.phase }, { on := 4, ground := Ground.phase }, { on := 5, ground := Ground.phase }], guard := none }) (v := ?_) rfl (by kernel_rfl) (by kernel_rfl) (by kernel_rfl) (fun _ _ _ h => h) (Or.inl ⟨by rfl, ?_⟩) (by assumption) ?_
                  rotate_left
                  · ((intro w hSw; (try dsimp only at hSw); go_simp; (try rw [if_neg (by omega)])); try with_reducible rfl)
                  (try simp only [Act.put, List.setIfInBounds_toArray, List.set_cons_zero, List.set_cons_succ])
                  refine wpAnyH_done (by kernel_rfl) ?_ _
                  try rw [hwa]
                  have HB65 := Lib.hid (bnext HD6.out HWD.out)
                  have HL7 := Lib.hid (HL5.out.below HB65.out)
                  have HX57 := Lib.hid ((HB65.out.block X5 (Array.getElem?_eq_some_iff.1 HX55.out).1).trans HX55.out)
                  have HFW7 := Lib.hid (HFW5.out.then HB65.out)
                  have HNF5 : Hid (¬ F X5) := Lib.hid (fun h => Nat.lt_irrefl _ (HXL.out.2 _ h))
                  have H07 : Hid (RSr W0 F W0 r nd T (k + 1) (P ++ cps a k f o s 0)) := Lib.hid (by rw [show cps a k f o s 0 = [] by rfl, List.append_nil]; exact HL7.out.here)
                  obtain ⟨hab0, hab1⟩ := hab
                  clear hHeld ha hb1 hb2 hwa
                  go_upto_region 10 with fail
                  go_loopw [9] (fun v9 wr => ∃ j : Nat, v9 = .int .i64 (j : Int) ∧ j ≤ c ∧ Hid (RSr W0 F wr r nd T (k + 1) (P ++ cps a k f o s j))) (fun v _ => c - (intOf v).toNat)
                  case atStart => exact ⟨0, rfl, Nat.zero_le _, H07⟩
                  case round =>
                    clear H07
                    obtain ⟨j, rfl, hj, HR⟩ := hrel
                    by_cases hjc : j < c
                    · have hjz : (j : Int) < (c : Int) := by omega
                      obtain ⟨PP, hPP⟩ : ∃ PP, P ++ cps a k f o s j = PP := ⟨_, rfl⟩
                      have hnext : P ++ cps a k f o s (j + 1) = PP ++ [⟨a + (j : Int), (k : Int), f, o, s⟩] := by rw [cps_next, ← List.append_assoc, hPP]; rfl
                      have hppl : PP.length ≤ 90009 := by rw [← hPP, List.length_append, cps_len]; omega
                      rw [hPP] at HR
                      obtain ⟨hfr, F', ⟨⟨sc6, v6, hq6, hr6, hv6, hs6, hsf6⟩, fM6, lt6⟩, h36⟩ := HR.out
                      obtain ⟨m, hm⟩ : ∃ m, PP.length = m := ⟨_, rfl⟩
                      rw [hm] at hr6 hppl
                      obtain ⟨va, vc, rfl⟩ := own_shape hr6
                      have hx5r := hfr.nd HX57.out HNF5.out
                      obtain ⟨W1, hW1⟩ : ∃ W1, W1 = wr := ⟨_, rfl⟩
                      subst hW1
                      have hMl : r < W1.heap.size := lt6 r fM6
                      have hXl5 : X5 < W1.heap.size := (Array.getElem?_eq_some_iff.1 hx5r).1
                      have HS : Hid (∀ V, Below W1.heap.size W1 V → V.cell? ⟨r, 3, none⟩ = some (.slice va m vc) ∧ V.cell? ⟨X5, 0, none⟩ = some (.int .i64 f) ∧ V.cell? ⟨X5, 1, none⟩ = some (.int .i64 o) ∧ V.cell? ⟨X5, 2, none⟩ = some (.string s)) := Lib.hid fun V hV => by
                        have q := (hV.block X5 hXl5).trans hx5r
                        exact ⟨nd_cell ((hV.block r hMl).trans hq6) rfl, nd_cell q rfl, nd_cell q rfl, nd_cell q rfl⟩
                      have HRW := Lib.hid hr6
                      have HNV5 : Hid ((Value.slice va m vc).ownBlock ≠ some X5) := Lib.hid fun e => by
                        rcases h36 _ (hv6 _ e) with h | h
                        · exact HNF5.out h
                        · have := (Array.getElem?_eq_some_iff.1 HX57.out).1
                          omega
                      have HE : Hid (∀ w9, (W1.drew.alloc (.cells #[.int .i64 f, .int .i64 o, .string s, .int .i64 (a + (j : Int))] 74)).grownBy w9 (Value.slice va m vc).ownBlock → (w9.cell? ⟨r, 3, none⟩ = some (.slice va m vc) ∧ w9.cell? ⟨X5, 0, none⟩ = some (.int .i64 f) ∧ w9.cell? ⟨X5, 1, none⟩ = some (.int .i64 o) ∧ w9.cell? ⟨X5, 2, none⟩ = some (.string s)) ∧ w9.heap[r]? = some (.cells #[.int .i64 nd, .int .i64 ((k + 1 : Nat) : Int), sc6, .slice va m vc] 65 (0, 0)) ∧ FrS (fun b => (Value.slice va m vc).ownBlock = some b) W1 w9) := Lib.hid fun w9 hg => by
                        have hd := Below.drew (balloc (Below.refl _ W1) (.cells #[.int .i64 f, .int .i64 o, .string s, .int .i64 (a + (j : Int))] 74))
                        have hbl : ∀ b, b < W1.heap.size → (Value.slice va m vc).ownBlock ≠ some b → w9.heap[b]? = W1.heap[b]? := fun b hb hne => (hg.block b (Nat.lt_of_lt_of_le hb hd.size) (fun e => hne e.symm)).trans (hd.block b hb)
                        have qX := (hbl X5 hXl5 HNV5.out).trans hx5r
                        have qM := (hbl r hMl (fun e => by have := (HRW.out.lt r e).1; omega)).trans hq6
                        exact ⟨⟨nd_cell qM rfl, nd_cell qX rfl, nd_cell qX rfl, nd_cell qX rfl⟩, qM, (FrS.of (S := fun b => (Value.slice va m vc).ownBlock = some b) hd).trans (FrS.grown hg (fun r e => e))⟩
                      have HV6 := Lib.hid hv6
                      have HS6 := Lib.hid hs6
                      have HSF6 := Lib.hid hsf6
                      have HFM6 := Lib.hid fM6
                      have HLT6 := Lib.hid lt6
                      have H36 := Lib.hid h36
                      have HFR := Lib.hid hfr
                      have HM := Lib.hid hm
                      have HNX := Lib.hid hnext
                      have HML := Lib.hid hMl
                      have hwj : IntKind.i64.wrap (a + (j : Int)) = a + (j : Int) := by rw [IntKind.wrap_i64]; omega
                      obtain ⟨i0, hi0, hz0, hz1, hz2⟩ := info_parts info_cy
                      have mixed : Try.prog.follows .mixedOrders = true := by kernel_rfl
                      clear hPP hnext hfr hq6 hr6 hv6 hs6 hsf6 fM6 lt6 h36 hx5r hm hMl hXl5
                      go_upto_region 12 with fail
                      refine wp_region_last #[{ dst := some 84, op := Op.move (Operand.tmp 0), type := 28, pos := "ref.go:43", after := #[], guard := none }, { dst := some 85, op := Op.move (Operand.tmp 0), type := 28, pos := "ref.go:43", after := #[], guard := none }, { dst := some 86, op := Op.nilCheck (Operand.tmp 85), type := 0, pos := "ref.go:43", after := #[{ on := 1, ground := Ground.data }], guard := none }, { dst := some 87, op := Op.fieldAddr 65 (Operand.tmp 86) 3, type := 0, pos := "ref.go:43", after := #[{ on := 2, ground := Ground.data }], guard := none }, { dst := some 88, op := Op.load 63 (Operand.tmp 87), type := 63, pos := "ref.go:43", after := #[{ on := 3, ground := Ground.data }], guard := none }, { dst := some 89, op := Op.load 31 (Operand.tmp 5), type := 31, pos := "ref.go:43", after := #[], guard := none }, { dst := some 90, op := Op.move (Operand.tmp 8), type := 3, pos := "ref.go:43", after := #[], guard := none }, { dst := some 91, op := Op.move (Operand.tmp 9), type := 3, pos := "ref.go:43", after := #[], guard := none }, { dst := some 92, op := Op.binOp BinOp.add 3 (Operand.tmp 90) (Operand.tmp 91) 3, type := 3, pos := "ref.go:43", after := #[{ on := 6, ground := Ground.data }, { on := 7, ground := Ground.data }], guard := none }, { dst := some 93, op := Op.build 74 #[(0, Operand.tmp 89), (1, Operand.tmp 92)], type := 74, pos := "ref.go:43", after := #[{ on := 5, ground := Ground.data }, { on := 8, ground := Ground.data }], guard := none }, { dst := some 94, op := Op.buildSlice 63 1 #[(0, Operand.tmp 93)], type := 63, pos := "ref.go:43", after := #[{ on := 9, ground := Ground.data }], guard := none }, { dst := some 95, op := Op.call { callee := Callee.builtin Builtin.append, args := #[Operand.tmp 88, Operand.tmp 94], argTypes := #[63, 63] }, type := 63, pos := "ref.go:43", after := #[{ on := 4, ground := Ground.data }, { on := 10, ground := Ground.data }], guard := none }, { dst := some 96, op := Op.nilCheck (Operand.tmp 84), type := 0, pos := "ref.go:43", after := #[{ on := 0, ground := Ground.data }, { on := 0, ground := Ground.phase }, { on := 1, ground := Ground.phase }, { on := 2, ground := Ground.phase }, { on := 3, ground := Ground.phase }, { on := 4, ground := Ground.phase }, { on := 5, ground := Ground.phase }, { on := 6, ground := Ground.phase }, { on := 7, ground := Ground.phase }, { on := 8, ground := Ground.phase }, { on := 9, ground := Ground.phase }, { on := 10, ground := Ground.phase }, { on := 11, ground := Ground.phase }], guard := none }, { dst := some 97, op := Op.fieldAddr 65 (Operand.tmp 96) 3, type := 0, pos := "ref.go:43", after := #[{ on := 12, ground := Ground.data }, { on := 0, ground := Ground.phase }, { on := 1, ground := Ground.phase }, { on := 2, ground := Ground.phase }, { on := 3, ground := Ground.phase }, { on := 4, ground := Ground.phase }, { on := 5, ground := Ground.phase }, { on := 6, ground := Ground.phase }, { on := 7, ground := Ground.phase }, { on := 8, ground := Ground.phase }, { on := 9, ground := Ground.phase }, { on := 10, ground := Ground.phase }, { on := 11, ground := Ground.phase }], guard := none }] { dst := none, op := Op.store 63 (Operand.tmp 97) (Operand.tmp 95), type := 0, pos := "ref.go:43", after := #[{ on := 13, ground := Ground.data }, { on := 11, ground := Ground.data }, { on := 11, ground := Ground.chain }, { on := 0, ground := Ground.phase }, { on := 1, ground := Ground.phase }, { on := 2, ground := Ground.phase }, { on := 3, ground := Ground.phase }, { on := 4, ground := Ground.phase }, { on := 5, ground := Ground.phase }, { on := 6, ground := Ground.phase }, { on := 7, ground := Ground.phase }, { on := 8, ground := Ground.phase }, { on := 9, ground := Ground.phase }, { on := 10, ground := Ground.phase }, { on := 11, ground := Ground.phase }], guard := none } rfl (by kernel_rfl) (by kernel_rfl) ((fun w' => w'.cell? ⟨r, 3, none⟩ = some (.slice va m vc) ∧ w'.cell? ⟨X5, 0, none⟩ = some (.int .i64 f) ∧ w'.cell? ⟨X5, 1, none⟩ = some (.int .i64 o) ∧ w'.cell? ⟨X5, 2, none⟩ = some (.string s))) ?_ (fun hHeld => ?_)
                      · first | exact hS1 | exact HS.out _ (Below.drew (Below.refl _ W1)) | exact HS.out _ (Below.drew (balloc (Below.refl _ W1) _))
                      refine wpAnyH_take (i := 0) (oi := { dst := some 84, op := Op.move (Operand.tmp 0), type := 28, pos := "ref.go:43", after := #[], guard := none }) (v := ?_) rfl (by kernel_rfl) (by kernel_rfl) (by kernel_rfl) (fun _ _ _ h => h) (Or.inl ⟨by rfl, ?_⟩) (by assumption) ?_
                      rotate_left
                      · ((intro w hSw; (try dsimp only at hSw); go_simp; (try rw [if_neg (by omega)])); try with_reducible rfl)
                      (try simp only [Act.put, List.setIfInBounds_toArray, List.set_cons_zero, List.set_cons_succ])
                      refine wpAnyH_take (i := 1) (oi := { dst := some 85, op := Op.move (Operand.tmp 0), type := 28, pos := "ref.go:43", after := #[], guard := none }) (v := ?_) rfl (by kernel_rfl) (by kernel_rfl) (by kernel_rfl) (fun _ _ _ h => h) (Or.inl ⟨by rfl, ?_⟩) (by assumption) ?_
                      rotate_left
                      · ((intro w hSw; (try dsimp only at hSw); go_simp; (try rw [if_neg (by omega)])); try with_reducible rfl)
                      (try simp only [Act.put, List.setIfInBounds_toArray, List.set_cons_zero, List.set_cons_succ])
                      refine wpAnyH_take (i := 2) (oi := { dst := some 86, op := Op.nilCheck (Operand.tmp 85), type := 0, pos := "ref.go:43", after := #[{ on := 1, ground := Ground.data }], guard := none }) (v := ?_) rfl (by kernel_rfl) (by kernel_rfl) (by kernel_rfl) (fun _ _ _ h => h) (Or.inl ⟨by rfl, ?_⟩) (by assumption) ?_
                      rotate_left
                      · ((intro w hSw; (try dsimp only at hSw); go_simp; (try rw [if_neg (by omega)])); try with_reducible rfl)
                      (try simp only [Act.put, List.setIfInBounds_toArray, List.set_cons_zero, List.set_cons_succ])
                      refine wpAnyH_take (i := 3) (oi := { dst := some 87, op := Op.fieldAddr 65 (Operand.tmp 86) 3, type := 0, pos := "ref.go:43", after := #[{ on := 2, ground := Ground.data }], guard := none }) (v := ?_) rfl (by kernel_rfl) (by kernel_rfl) (by kernel_rfl) (fun _ _ _ h => h) (Or.inl ⟨by rfl, ?_⟩) (by assumption) ?_
                      rotate_left
                      · ((intro w hSw; (try dsimp only at hSw); go_simp; (try rw [if_neg (by omega)])); try with_reducible rfl)
                      (try simp only [Act.put, List.setIfInBounds_toArray, List.set_cons_zero, List.set_cons_succ])
                      refine wpAnyH_take (i := 4) (oi := { dst := some 88, op := Op.load 63 (Operand.tmp 87), type := 63, pos := "ref.go:43", after := #[{ on := 3, ground := Ground.data }], guard := none }) (v := ?_) rfl (by kernel_rfl) (by kernel_rfl) (by kernel_rfl) (fun _ _ _ h => h) (Or.inl ⟨by rfl, ?_⟩) (by assumption) ?_
                      rotate_left
                      · ((intro w hSw; (try dsimp only at hSw); go_simp; (try rw [if_neg (by omega)])); try with_reducible rfl)
                      (try simp only [Act.put, List.setIfInBounds_toArray, List.set_cons_zero, List.set_cons_succ])
                      refine wpAnyH_take (i := 5) (oi := { dst := some 89, op := Op.load 31 (Operand.tmp 5), type := 31, pos := "ref.go:43", after := #[], guard := none }) (v := ?_) rfl (by kernel_rfl) (by kernel_rfl) (by kernel_rfl) (fun _ _ _ h => h) (Or.inl ⟨by rfl, ?_⟩) (by assumption) ?_
                      rotate_left
                      · ((intro w hSw; (try dsimp only at hSw); go_simp; (try rw [if_neg (by omega)])); try with_reducible rfl)
                      (try simp only [Act.put, List.setIfInBounds_toArray, List.set_cons_zero, List.set_cons_succ])
                      refine wpAnyH_take (i := 6) (oi := { dst := some 90, op := Op.move (Operand.tmp 8), type := 3, pos := "ref.go:43", after := #[], guard := none }) (v := ?_) rfl (by kernel_rfl) (by kernel_rfl) (by kernel_rfl) (fun _ _ _ h => h) (Or.inl ⟨by rfl, ?_⟩) (by assumption) ?_
                      rotate_left
                      · ((intro w hSw; (try dsimp only at hSw); go_simp; (try rw [if_neg (by omega)])); try with_reducible rfl)
                      (try simp only [Act.put, List.setIfInBounds_toArray, List.set_cons_zero, List.set_cons_succ])
                      refine wpAnyH_take (i := 7) (oi := { dst := some 91, op := Op.move (Operand.tmp 9), type := 3, pos := "ref.go:43", after := #[], guard := none }) (v := ?_) rfl (by kernel_rfl) (by kernel_rfl) (by kernel_rfl) (fun _ _ _ h => h) (Or.inl ⟨by rfl, ?_⟩) (by assumption) ?_
                      rotate_left
                      · ((intro w hSw; (try dsimp only at hSw); go_simp; (try rw [if_neg (by omega)])); try with_reducible rfl)
                      (try simp only [Act.put, List.setIfInBounds_toArray, List.set_cons_zero, List.set_cons_succ])
                      refine wpAnyH_take (i := 8) (oi := { dst := some 92, op := Op.binOp BinOp.add 3 (Operand.tmp 90) (Operand.tmp 91) 3, type := 3, pos := "ref.go:43", after := #[{ on := 6, ground := Ground.data }, { on := 7, ground := Ground.data }], guard := none }) (v := ?_) rfl (by kernel_rfl) (by kernel_rfl) (by kernel_rfl) (fun _ _ _ h => h) (Or.inl ⟨by rfl, ?_⟩) (by assumption) ?_
                      rotate_left
                      · ((intro w hSw; (try dsimp only at hSw); go_simp; (try rw [if_neg (by omega)])); try with_reducible rfl)
                      (try simp only [Act.put, List.setIfInBounds_toArray, List.set_cons_zero, List.set_cons_succ])
                      refine wpAnyH_take (i := 9) (oi := { dst := some 93, op := Op.build 74 #[(0, Operand.tmp 89), (1, Operand.tmp 92)], type := 74, pos := "ref.go:43", after := #[{ on := 5, ground := Ground.data }, { on := 8, ground := Ground.data }], guard := none }) (v := ?_) rfl (by kernel_rfl) (by kernel_rfl) (by kernel_rfl) (fun _ _ _ h => h) (Or.inl ⟨by rfl, ?_⟩) (by assumption) ?_
                      rotate_left
                      · ((intro w hSw; (try dsimp only at hSw); go_simp; (try rw [if_neg (by omega)])); try with_reducible rfl)
                      (try simp only [Act.put, List.setIfInBounds_toArray, List.set_cons_zero, List.set_cons_succ])
                      refine wpAnyH_ready (rs := [10]) (by kernel_rfl) (by simp) ?_
                      refine AllReadyH.cons (o := { dst := some 94, op := Op.buildSlice 63 1 #[(0, Operand.tmp 93)], type := 63, pos := "ref.go:43", after := #[{ on := 9, ground := Ground.data }], guard := none }) rfl (fun K hK => ?_) AllReadyH.nil
                      go_simp
                      refine hK.out _ _ ?_ (fun hHeld => ?_)
                      · first | exact hS1 | exact HS.out _ (Below.drew (Below.refl _ W1)) | exact HS.out _ (Below.drew (balloc (Below.refl _ W1) _))
                      clear hK K
                      (try simp only [Act.put, List.setIfInBounds_toArray, List.set_cons_zero, List.set_cons_succ])
                      refine wpAnyH_ready (rs := [11]) (by kernel_rfl) (by simp) ?_
                      refine AllReadyH.cons (o := { dst := some 95, op := Op.call { callee := Callee.builtin Builtin.append, args := #[Operand.tmp 88, Operand.tmp 94], argTypes := #[63, 63] }, type := 63, pos := "ref.go:43", after := #[{ on := 4, ground := Ground.data }, { on := 10, ground := Ground.data }], guard := none }) rfl (fun K hK => ?_) AllReadyH.nil
                      (refine step_appN (by rfl) _ _ _ (by rfl) (r + 1) 74 i0 _ 4 40 Try.underlying63 hi0 hz0 hz1 hz2 rfl (by decide) (.slice va m vc) m (cys PP) (by rfl) (own_below HRW.out (Below.drew (balloc (Below.refl _ W1) _))) (.slice (some ⟨W1.heap.size, 0, none⟩) 1 1) 1 [.int .i64 f, .int .i64 o, .string s, .int .i64 (a + (j : Int))] (by rfl) (srcN_new W1.drew [.int .i64 f, .int .i64 o, .string s, .int .i64 (a + (j : Int))] 74 4 1 1 rfl) (by simp [ Value.oneCell']) (by unfold maxLen; omega) (by omega) (by have := HML.out; simp; omega) ?_; intro v' w9 hown hgrow hat; have HE6 := Lib.hid (HE.out w9 hgrow); have hS1 := HE6.out.1)
                      refine hK.out _ _ ?_ (fun hHeld => ?_)
                      · first | exact hS1 | exact HS.out _ (Below.drew (Below.refl _ W1)) | exact HS.out _ (Below.drew (balloc (Below.refl _ W1) _))
                      clear hK K
                      (try simp only [Act.put, List.setIfInBounds_toArray, List.set_cons_zero, List.set_cons_succ])
                      refine wpAnyH_take (i := 12) (oi := { dst := some 96, op := Op.nilCheck (Operand.tmp 84), type := 0, pos := "ref.go:43", after := #[{ on := 0, ground := Ground.data }, { on := 0, ground := Ground.phase }, { on := 1, ground := Ground.phase }, { on := 2, ground := Ground.phase }, { on := 3, ground := Ground.phase }, { on := 4, ground := Ground.phase }, { on := 5, ground := Ground.phase }, { on := 6, ground := Ground.phase }, { on := 7, ground := Ground.phase }, { on := 8, ground := Ground.phase }, { on := 9, ground := Ground.phase }, { on := 10, ground := Ground.phase }, { on := 11, ground := Ground.phase }], guard := none }) (v := ?_) rfl (by kernel_rfl) (by kernel_rfl) (by kernel_rfl) (fun _ _ _ h => h) (Or.inl ⟨by rfl, ?_⟩) (by assumption) ?_
                      rotate_left
                      · ((intro w hSw; (try dsimp only at hSw); go_simp; (try rw [if_neg (by omega)])); try with_reducible rfl)
                      (try simp only [Act.put, List.setIfInBounds_toArray, List.set_cons_zero, List.set_cons_succ])
                      refine wpAnyH_take (i := 13) (oi := { dst := some 97, op := Op.fieldAddr 65 (Operand.tmp 96) 3, type := 0, pos := "ref.go:43", after := #[{ on := 12, ground := Ground.data }, { on := 0, ground := Ground.phase }, { on := 1, ground := Ground.phase }, { on := 2, ground := Ground.phase }, { on := 3, ground := Ground.phase }, { on := 4, ground := Ground.phase }, { on := 5, ground := Ground.phase }, { on := 6, ground := Ground.phase }, { on := 7, ground := Ground.phase }, { on := 8, ground := Ground.phase }, { on := 9, ground := Ground.phase }, { on := 10, ground := Ground.phase }, { on := 11, ground := Ground.phase }], guard := none }) (v := ?_) rfl (by kernel_rfl) (by kernel_rfl) (by kernel_rfl) (fun _ _ _ h => h) (Or.inl ⟨by rfl, ?_⟩) (by assumption) ?_
                      rotate_left
                      · ((intro w hSw; (try dsimp only at hSw); go_simp; (try rw [if_neg (by omega)])); try with_reducible rfl)
                      (try simp only [Act.put, List.setIfInBounds_toArray, List.set_cons_zero, List.set_cons_succ])
                      refine wpAnyH_done (by kernel_rfl) ?_ _
                      show Oper.wp _ _ _ _ _ _
                      obtain ⟨⟨d3, -⟩, qM, hfr⟩ := HE6.out
                      have hfz := nd_froz qM 3
                      obtain ⟨oa, oc, rfl⟩ := own_shape hown
                      have hset := FrS.set (S := fun b => b = r) w9 (b := r) (i := 3) rfl (.slice oa (m + 1) oc)
                      rw [show cys PP ++ [.int .i64 f, .int .i64 o, .string s, .int .i64 (a + (j : Int))] = cys (PP ++ [⟨a + (j : Int), (k : Int), f, o, s⟩]) by rw [cys_app, cys_one]; rfl] at hown
                      have hsz : (w9.setCell ⟨r, 3, none⟩ (.slice oa (m + 1) oc)).heap.size = w9.heap.size := by simp
                      have HQ : Hid (RS (w9.setCell ⟨r, 3, none⟩ (.slice oa (m + 1) oc)) r nd T (k + 1) (PP ++ [⟨a + (j : Int), (k : Int), f, o, s⟩]) (fun b => F' b ∨ (Value.slice oa (m + 1) oc).ownBlock = some b)) := Lib.hid ⟨⟨sc6, .slice oa (m + 1) oc, heap_setCell_same w9 r 3 _ _ _ qM, by rw [List.length_append, HM.out]; exact hset.own hown (fun q e => by have := (hown.lt q e).1; omega), fun b e => .inr e, hset.own (hfr.own HS6.out (fun q e e2 => by have h1 := (HSF6.out q e).1; have h2 := (HRW.out.lt q e2).1; omega)) (fun q e => by have := (HSF6.out q e).1; omega), fun b e => ⟨(HSF6.out b e).1, .inl (HSF6.out b e).2⟩⟩, .inl HFM6.out, fun b hb => by
                        rw [hsz]
                        rcases hb with hb | hb
                        · exact Nat.lt_of_lt_of_le (HLT6.out b hb) hfr.size
                        · exact (hown.lt b hb).2⟩
                      have H3 : Hid (∀ b, (F' b ∨ (Value.slice oa (m + 1) oc).ownBlock = some b) → F b ∨ W0.heap.size ≤ b) := Lib.hid fun b hb => by
                        rcases hb with hb | hb
                        · exact H36.out b hb
                        · rcases hat with h | h
                          · exact H36.out b (HV6.out b (h.symm.trans hb))
                          · rw [h] at hb
                            have := Option.some.inj hb
                            have h2 := HFR.out.size
                            simp at this
                            omega
                      have HFR2 : Hid (FrS F W0 (w9.setCell ⟨r, 3, none⟩ (.slice oa (m + 1) oc))) := Lib.hid ((HFR.out.over hfr (fun b e => H36.out b (HV6.out b e))).trans (hset.mono (fun b e => by rw [e]; exact HFM.out)))
                      have HX : Hid (RSr W0 F (w9.setCell ⟨r, 3, none⟩ (.slice oa (m + 1) oc)) r nd T (k + 1) (P ++ cps a k f o s (j + 1))) := Lib.hid (by
                        rw [HNX.out]
                        exact ⟨HFR2.out, _, HQ.out, H3.out⟩)
                      clear hS1 qM hfr hset hown hgrow hat HE6 hHeld hsz
                      go_wp2
                      go_roundw
                      case rel => exact ⟨j + 1, by go_num, hjc, HX⟩
                      case measure => simp [intOf]; omega
                    · have hjz : ¬ (j : Int) < (c : Int) := by omega
                      obtain rfl : j = c := by omega
                      have HE : Hid (RSr W F wr r nd T (k + 1) PS) := Lib.hid (by
                        rw [HNL.out]
                        exact HR.out.glue HFW7.out (fun b hb => .inl hb))
                      clear hjc hj
                      go_wp2
                      go_end0
                      exact ⟨rfl, HE.out⟩
                  
                exact AllReadyH.nil
              exact AllReadyH.nil
            · skip
              have g3 : decide (nd ≤ o) = true := decide_eq_true (by omega)
              have HE : Hid (RSr W F w5 r nd T (k + 1) PS) := Lib.hid (by
                rw [HPX.out, if_pos (by unfold nodeB; simp [h0, h1, h2, h3])]
                exact ⟨HFW5.out, F, HL5.out, fun b hb => .inl hb⟩)
              go_quiet (fail)
              go_wp2
              refine bodyPost_ret (v := .tuple #[]) (results_none Try.results16 _ _ _) rfl ⟨rfl, HE.out.below (below_drewN (Below.refl _ _) _)⟩
          · skip
            have g2 : decide (o < 0) = true := decide_eq_true (by omega)
            have HE : Hid (RSr W F w5 r nd T (k + 1) PS) := Lib.hid (by
              rw [HPX.out, if_pos (by unfold nodeB; simp [h0, h1, h2])]
              exact ⟨HFW5.out, F, HL5.out, fun b hb => .inl hb⟩)
            go_quiet (fail)
            go_wp2
            refine bodyPost_ret (v := .tuple #[]) (results_none Try.results16 _ _ _) rfl ⟨rfl, HE.out.below (below_drewN (Below.refl _ _) _)⟩
        · skip
          have g1 : decide (nd ≤ f) = true := decide_eq_true (by omega)
          have HE : Hid (RSr W F w5 r nd T (k + 1) PS) := Lib.hid (by
            rw [HPX.out, if_pos (by unfold nodeB; simp [h0, h1])]
            exact ⟨HFW5.out, F, HL5.out, fun b hb => .inl hb⟩)
          go_quiet (fail)
          go_wp2
          refine bodyPost_ret (v := .tuple #[]) (results_none Try.results16 _ _ _) rfl ⟨rfl, HE.out.below (below_drewN (Below.refl _ _) _)⟩
      · skip
        have g0 : decide (f < 0) = true := decide_eq_true (by omega)
        have HE : Hid (RSr W F w5 r nd T (k + 1) PS) := Lib.hid (by
          rw [HPX.out, if_pos (by unfold nodeB; simp [h0])]
          exact ⟨HFW5.out, F, HL5.out, fun b hb => .inl hb⟩)
        go_quiet (fail)
        go_wp2
        refine bodyPost_ret (v := .tuple #[]) (results_none Try.results16 _ _ _) rfl ⟨rfl, HE.out.below (below_drewN (Below.refl _ _) _)⟩
end
end Go.Proofs.Ytgphdgalcbcamaa
