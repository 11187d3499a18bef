/- Messages are sent. No conditions. -/
import Derived.Test.YtgphdgalcbcamaaLn7
namespace Go.Proofs.Ytgphdgalcbcamaa
set_option maxRecDepth 100000
set_option linter.unusedVariables false
open Go.RowKit Go.Deep
/-- A copy of a message. -/
def cpy (a : Int) (k : Nat) (f o : Int) (s : ByteArray) (j : Nat) : Pc := ⟨a + j, (k : Int), f, o, s⟩
def cps (a : Int) (k : Nat) (f o : Int) (s : ByteArray) (c : Nat) : List Pc := (List.range c).map (cpy a k f o s)
theorem cps_len (a : Int) (k : Nat) (f o : Int) (s : ByteArray) (c : Nat) : (cps a k f o s c).length = c := by simp [cps]
theorem cps_next (a : Int) (k : Nat) (f o : Int) (s : ByteArray) (c : Nat) : cps a k f o s (c + 1) = cps a k f o s c ++ [cpy a k f o s c] := by simp [cps, List.range_succ]
/-- What waits after a message was sent. -/
def sendP (T : List Tr) (nd : Int) (k : Nat) (at' f o : Int) (s : ByteArray) (P : List Pc) : List Pc :=
  if (tro T k).l || !nodeB nd f || !nodeB nd o then P else P ++ cps (clp at' 0 1048576 + clp (tro T k).d 0 1048576) k f o s (clp (tro T k).c 1 9).toNat
section
variable {W w w' V : World} {M : Nat} {nd : Int} {T : List Tr} {k k' : Nat} {P Q C : List Pc} {F F' F2 S : Nat → Prop}
/-- One more was sent. -/
theorem LS.sent (h : LS W M nd T k P F) : LS (W.setCell ⟨M, 2, none⟩ (.int .i64 ((k : Int) + 1))) M nd T (k + 1) P F ∧ FrS F W (W.setCell ⟨M, 2, none⟩ (.int .i64 ((k : Int) + 1))) := by
  obtain ⟨⟨sc, v, A, hq, hp, hh, hv, hs, hsf⟩, fM, lt⟩ := h
  have hf := FrS.set (S := fun b => b = M) W (b := M) (i := 2) rfl (.int .i64 ((k : Int) + 1))
  have e : ((k + 1 : Nat) : Int) = (k : Int) + 1 := by omega
  exact ⟨⟨⟨sc, v, A, ⟨by rw [e]; exact heap_setCell_same W M 2 _ _ _ hq.blk, hf.own hq.row (fun q e => by have := (hq.row.lt q e).1; omega)⟩, hp, hh, hv, hf.own hs (fun q e => by have := (hsf q e).1; omega), hsf⟩, fM, fun b hb => Nat.lt_of_lt_of_le (lt b hb) hf.size⟩, hf.mono (fun b hb => by rw [hb]; exact fM)⟩
set_option maxHeartbeats 4000000 in
theorem send_any (h : LSr W F w M nd T k P) (at' f o : Int) (s : ByteArray) (hk : k ≤ 1000000) (hl : P.length ≤ 90000) :
    Calls Try.prog 15 #[ptr M, .int .i64 at', msV f o s] w fun x w' => x = .returned (.tuple #[]) ∧ LSr W F w' M nd T (k + 1) (sendP T nd k at' f o s P) := by
  obtain ⟨i0, hi0, hz0, hz1, hz2⟩ := info_parts info_pc
  obtain ⟨PS, hPS⟩ : ∃ PS, sendP T nd k at' f o s P = PS := ⟨_, rfl⟩
  rw [hPS]
  have HPS := Lib.hid hPS
  obtain ⟨fr0, F', hls, h3⟩ := h
  have hb1 := balloc (Below.refl _ w) (.cells #[.int .i64 f, .int .i64 o, .string s] 31)
  have hx1 := heap_alloc_new w (.cells #[.int .i64 f, .int .i64 o, .string s] 31)
  obtain ⟨X5, hX5⟩ : ∃ X5, w.heap.size = X5 := ⟨_, rfl⟩
  obtain ⟨w1, hw1⟩ : ∃ w1, w.alloc (.cells #[.int .i64 f, .int .i64 o, .string s] 31) = w1 := ⟨_, rfl⟩
  rw [hw1] at hb1 hx1
  rw [hX5] at hx1
  have hl1 := hls.below hb1
  obtain ⟨sc, v, hblk, hscr⟩ := hl1.cells
  have c0 : w1.cell? ⟨M, 0, none⟩ = some (.int .i64 nd) := nd_cell hblk rfl
  have c2 : w1.cell? ⟨M, 2, none⟩ = some (.int .i64 k) := nd_cell hblk rfl
  have f2 := nd_froz hblk 2
  have HMX : Hid (∀ b, F' b → b < X5) := Lib.hid fun b hb => by rw [← hX5]; exact hls.lt b hb
  have HSENT := Lib.hid hl1.sent
  have HX1 := Lib.hid hx1
  have HFR0 := Lib.hid fr0
  have H3 := Lib.hid h3
  have HB1 := Lib.hid hb1
  have HXW := Lib.hid hX5
  have HFM := Lib.hid hls.fM
  have HW1 := Lib.hid hw1
  clear hPS fr0 hls h3 hb1 hx1 hl1 hblk hscr hX5 hw1
  go_enter Try.func15, Try.ntmps15
  go_upto_region 1 with fail
  rw [HW1.out]
  try rw [HXW.out]
  go_upto_region 4 with fail
  obtain ⟨w2, hw2⟩ : ∃ w2, w1.setCell ⟨M, 2, none⟩ (.int .i64 ((k : Int) + 1)) = w2 := ⟨_, rfl⟩
  obtain ⟨hls2, hfr2⟩ := HSENT.out
  rw [hw2] at hls2 hfr2
  rw [hw2]
  have hx2 := hfr2.nd HX1.out (fun h => by have := HMX.out _ h; omega)
  have HT := Lib.hid (trouble_any w2 M nd T (k + 1) P F' hls2 k)
  obtain ⟨t, ht⟩ : ∃ t, tro T k = t := ⟨_, rfl⟩
  rw [ht] at HT
  have HTR := Lib.hid ht
  have HL2 := Lib.hid hls2
  have HF2 := Lib.hid hfr2
  have HX2 := Lib.hid hx2
  clear hls2 hfr2 hx2 ht hw2 c0 c2 f2
  go_wp2_with fail
  go_at_call 24
  refine HT.out.mono ?_
  rintro x w3 ⟨rfl, hb3⟩
  have hl3 := HL2.out.below hb3
  have hx3 := (hb3.block X5 (Array.getElem?_eq_some_iff.1 HX2.out).1).trans HX2.out
  have HB3 := Lib.hid hb3
  have HL3 := Lib.hid hl3
  have HX3 := Lib.hid hx3
  clear hb3 hl3 hx3
  go_upto_region 5 with fail
  have hb4 := balloc (Below.refl _ w3) (.cells #[.bool t.l, .int .i64 t.c, .int .i64 t.d] 43)
  have hx4 := heap_alloc_new w3 (.cells #[.bool t.l, .int .i64 t.c, .int .i64 t.d] 43)
  obtain ⟨X7, hX7⟩ : ∃ X7, w3.heap.size = X7 := ⟨_, rfl⟩
  obtain ⟨w4, hw4⟩ : ∃ w4, w3.alloc (.cells #[.bool t.l, .int .i64 t.c, .int .i64 t.d] 43) = w4 := ⟨_, rfl⟩
  rw [hX7] at hx4
  rw [hw4] at hb4 hx4
  rw [hw4]
  try rw [hX7]
  have hl4 := HL3.out.below hb4
  have hx54 := (hb4.block X5 (Array.getElem?_eq_some_iff.1 HX3.out).1).trans HX3.out
  have HL4 := Lib.hid hl4
  have HS : Hid (∀ V, Below w4.heap.size w4 V → (V.cell? ⟨X5, 0, none⟩ = some (.int .i64 f) ∧ V.cell? ⟨X5, 1, none⟩ = some (.int .i64 o) ∧ V.cell? ⟨X5, 2, none⟩ = some (.string s)) ∧ V.cell? ⟨X7, 2, none⟩ = some (.int .i64 t.d)) := Lib.hid fun V hV => by
    have q5 := (hV.block X5 (Array.getElem?_eq_some_iff.1 hx54).1).trans hx54
    have q7 := (hV.block X7 (Array.getElem?_eq_some_iff.1 hx4).1).trans hx4
    exact ⟨⟨nd_cell q5 rfl, nd_cell q5 rfl, nd_cell q5 rfl⟩, nd_cell q7 rfl⟩
  have HFW : Hid (FrS (fun b => F' b ∨ w.heap.size ≤ b) w w4) := Lib.hid ((((FrS.of HB1.out).trans (HF2.out.mono (fun b hb => .inl hb))).trans (FrS.of HB3.out)).trans (FrS.of hb4))
  have HEND : Hid (LSr W F w4 M nd T (k + 1) P) := Lib.hid (LSr.join HFR0.out H3.out HFW.out hl4 (fun b hb => .inl hb))
  obtain ⟨sc', v', hblk4, -⟩ := hl4.cells
  have c0 : w4.cell? ⟨M, 0, none⟩ = some (.int .i64 nd) := nd_cell hblk4 rfl
  have q0 : w4.cell? ⟨X5, 0, none⟩ = some (.int .i64 f) := nd_cell hx54 rfl
  have q1 : w4.cell? ⟨X5, 1, none⟩ = some (.int .i64 o) := nd_cell hx54 rfl
  have r0 : w4.cell? ⟨X7, 0, none⟩ = some (.bool t.l) := nd_cell hx4 rfl
  have r1 : w4.cell? ⟨X7, 1, none⟩ = some (.int .i64 t.c) := nd_cell hx4 rfl
  have HNF := Lib.hid (node_any w4 M nd f c0)
  have HNO := Lib.hid (node_any w4 M nd o c0)
  obtain ⟨d1, hd1⟩ : ∃ d, nodeB nd f = d := ⟨_, rfl⟩
  obtain ⟨d2, hd2⟩ : ∃ d, nodeB nd o = d := ⟨_, rfl⟩
  obtain ⟨lo, hlo⟩ : ∃ lo, t.l = lo := ⟨_, rfl⟩
  rw [hd1] at HNF
  rw [hd2] at HNO
  rw [hlo] at r0
  have hps : PS = if lo || !d1 || !d2 then P else P ++ cps (clp at' 0 1048576 + clp t.d 0 1048576) k f o s (clp t.c 1 9).toNat := by rw [← HPS.out, ← hd1, ← hd2, ← hlo, ← HTR.out]; rfl
  have HPX := Lib.hid hps
  have HXL : Hid (X5 < w4.heap.size ∧ X7 < w4.heap.size) := Lib.hid ⟨(Array.getElem?_eq_some_iff.1 hx54).1, (Array.getElem?_eq_some_iff.1 hx4).1⟩
  clear hb4 hx4 hX7 hw4 hl4 hx54 hblk4 hd1 hd2 hlo hps c0
  cases lo with
  | true =>
    have HE : Hid (LSr W F w4 M nd T (k + 1) PS) := Lib.hid (by rw [HPX.out]; exact HEND.out)
    go_wp2
    refine bodyPost_ret (v := .tuple #[]) (results_none Try.results15 _ _ _) rfl ⟨rfl, HE.out⟩
  | false =>
    cases d1 with
    | false =>
      have HE : Hid (LSr W F w4 M nd T (k + 1) PS) := Lib.hid (by rw [HPX.out]; exact HEND.out)
      go_wp2_with fail
      go_at_call 25
      refine HNF.out.mono ?_
      rintro x wx ⟨rfl, he⟩
      have he' := he.symm
      subst he'
      go_wp2
      refine bodyPost_ret (v := .tuple #[]) (results_none Try.results15 _ _ _) rfl ⟨rfl, HE.out⟩
    | true =>
      go_wp2_with fail
      go_at_call 25
      refine HNF.out.mono ?_
      rintro x wx ⟨rfl, he⟩
      have he' := he.symm
      subst he'
      cases d2 with
      | false =>
        have HE : Hid (LSr W F w4 M nd T (k + 1) PS) := Lib.hid (by rw [HPX.out]; exact HEND.out)
        go_wp2_with fail
        go_at_call 25
        refine HNO.out.mono ?_
        rintro x wx ⟨rfl, he⟩
        have he' := he.symm
        subst he'
        go_wp2
        refine bodyPost_ret (v := .tuple #[]) (results_none Try.results15 _ _ _) rfl ⟨rfl, HE.out⟩
      | true =>
        go_wp2_with fail
        go_at_call 25
        refine HNO.out.mono ?_
        rintro x wx ⟨rfl, he⟩
        have he' := he.symm
        subst he'
        have hcb := clp_bd t.c (show (1 : Int) ≤ 9 by decide)
        obtain ⟨c, hc⟩ : ∃ c : Nat, clp t.c 1 9 = (c : Int) := ⟨(clp t.c 1 9).toNat, by omega⟩
        have hc9 : c ≤ 9 := by omega
        have HCL := Lib.hid fun V => clamp_any t.c 1 9 V
        rw [hc] at HCL
        have ha1 := clp_bd at' (show (0 : Int) ≤ 1048576 by decide)
        have ha2 := clp_bd t.d (show (0 : Int) ≤ 1048576 by decide)
        obtain ⟨u1, hu1⟩ : ∃ u1, clp at' 0 1048576 = u1 := ⟨_, rfl⟩
        obtain ⟨u2, hu2⟩ : ∃ u2, clp t.d 0 1048576 = u2 := ⟨_, rfl⟩
        obtain ⟨a, ha⟩ : ∃ a, u1 + u2 = a := ⟨_, rfl⟩
        have HCA := Lib.hid fun V => clt_any at' V
        have HCD := Lib.hid fun V => clt_any t.d V
        rw [hu1] at HCA ha1
        rw [hu2] at HCD ha2
        have HPZ : Hid (PS = P ++ cps a k f o s c) := Lib.hid (by rw [HPX.out, hu1, hu2, ha, hc]; rfl)
        obtain ⟨ha10, ha11⟩ := ha1
        obtain ⟨ha20, ha21⟩ := ha2
        have HA := Lib.hid ha
        clear hc hu1 hu2 hcb ha
        go_upto_region 7 with fail
        go_wp2_with fail
        go_at_call 26
        refine (HCL.out _).mono ?_
        rintro x wx ⟨rfl, he⟩
        have he' := he.symm
        subst he'
        clear q0 q1 r0 r1
        go_upto_region 8 with fail
        obtain ⟨w5, hw5⟩ : ∃ w5, w5 = w4 := ⟨_, rfl⟩
        subst hw5
        go_loopw [8, 45] (fun v8 v45 wr => ∃ j : Nat, v45 = .int .i64 (j : Int) ∧ j ≤ c ∧ wr.ownsRow w5.heap.size 70 5 v8 j (pcs (cps a k f o s j)) ∧ Hid (Below w5.heap.size w5 wr)) (fun _ v _ => c - (intOf v).toNat)
        case atStart => exact ⟨0, rfl, Nat.zero_le _, World.ownsRow_nil _ _ _ _, Lib.hid (Below.refl _ _)⟩
        case round =>
          obtain ⟨j, rfl, hj, hown, HBW⟩ := hrel
          obtain ⟨oa, oc, rfl⟩ := own_shape hown
          by_cases hjc : j < c
          · have hjz : (j : Int) < (c : Int) := by omega
            obtain ⟨U, hU⟩ : ∃ U, pcs (cps a k f o s j) = U := ⟨_, rfl⟩
            rw [hU] at hown
            have HOW := Lib.hid hown
            have HUN : Hid (pcs (cps a k f o s (j + 1)) = U ++ pcL (cpy a k f o s j)) := Lib.hid (by rw [cps_next, pcs_app, pcs_one, hU])
            have HWD0 := Below.drew (Below.refl wr.heap.size wr)
            obtain ⟨W0, hW0⟩ : ∃ W0, wr.drew = W0 := ⟨_, rfl⟩
            rw [hW0] at HWD0
            have HWD := Lib.hid HWD0
            have HW0 := Lib.hid hW0
            have bz0 : Below W0.heap.size W0 W0 := Below.refl _ _
            have s1 : IntKind.i64.wrap (u1 + u2) = a := by have := HA.out; rw [IntKind.wrap_i64]; omega
            have s2 : IntKind.i64.wrap (a + (j : Int)) = a + (j : Int) := by have := HA.out; rw [IntKind.wrap_i64]; omega
            have mixed : Try.prog.follows .mixedOrders = true := by kernel_rfl
            clear hown hU HWD0 hW0
            go_upto_region 10 with fail
            refine wp_region_held_drew (S := (fun w' => (w'.cell? ⟨X5, 0, none⟩ = some (.int .i64 f) ∧ w'.cell? ⟨X5, 1, none⟩ = some (.int .i64 o) ∧ w'.cell? ⟨X5, 2, none⟩ = some (.string s)) ∧ w'.cell? ⟨X7, 2, none⟩ = some (.int .i64 t.d))) (by kernel_rfl) ?_ (fun hHeld => ?_)
            · (rw [HW0.out]; exact HS.out _ (bnext HBW.out (bnext HWD.out bz0)))
            rw [HW0.out] at hHeld ⊢
            refine wpAnyH_take (i := 0) (oi := { dst := some 48, op := Op.move (Operand.tmp 8), type := 56, pos := "lines.go:98", after := #[], guard := none }) (v := ?_) rfl (by kernel_rfl) (by kernel_rfl) (by kernel_rfl) (fun _ _ _ h => h) (Or.inl ⟨by rfl, ?_⟩) (by assumption) ?_
            rotate_left
            · ((intro w hSw; (try dsimp only at hSw); go_simp; (try rw [if_neg (by omega)])); try with_reducible rfl)
            (try simp only [Act.put, List.setIfInBounds_toArray, List.set_cons_zero, List.set_cons_succ])
            refine wpAnyH_take (i := 1) (oi := { dst := some 49, op := Op.move (Operand.tmp 1), type := 3, pos := "lines.go:98", after := #[], guard := none }) (v := ?_) rfl (by kernel_rfl) (by kernel_rfl) (by kernel_rfl) (fun _ _ _ h => h) (Or.inl ⟨by rfl, ?_⟩) (by assumption) ?_
            rotate_left
            · ((intro w hSw; (try dsimp only at hSw); go_simp; (try rw [if_neg (by omega)])); try with_reducible rfl)
            (try simp only [Act.put, List.setIfInBounds_toArray, List.set_cons_zero, List.set_cons_succ])
            refine wpAnyH_take (i := 3) (oi := { dst := some 51, op := Op.fieldAddr 43 (Operand.tmp 7) 2, type := 0, pos := "lines.go:98", after := #[], guard := none }) (v := ?_) rfl (by kernel_rfl) (by kernel_rfl) (by kernel_rfl) (fun _ _ _ h => h) (Or.inl ⟨by rfl, ?_⟩) (by assumption) ?_
            rotate_left
            · ((intro w hSw; (try dsimp only at hSw); go_simp; (try rw [if_neg (by omega)])); try with_reducible rfl)
            (try simp only [Act.put, List.setIfInBounds_toArray, List.set_cons_zero, List.set_cons_succ])
            refine wpAnyH_take (i := 4) (oi := { dst := some 52, op := Op.load 3 (Operand.tmp 51), type := 3, pos := "lines.go:98", after := #[{ on := 3, ground := Ground.data }], guard := none }) (v := ?_) rfl (by kernel_rfl) (by kernel_rfl) (by kernel_rfl) (fun _ _ _ h => h) (Or.inl ⟨by rfl, ?_⟩) (by assumption) ?_
            rotate_left
            · ((intro w hSw; (try dsimp only at hSw); go_simp; (try rw [if_neg (by omega)])); try with_reducible rfl)
            (try simp only [Act.put, List.setIfInBounds_toArray, List.set_cons_zero, List.set_cons_succ])
            refine wpAnyH_take (i := 7) (oi := { dst := some 55, op := Op.move (Operand.tmp 9), type := 3, pos := "lines.go:98", after := #[], guard := none }) (v := ?_) rfl (by kernel_rfl) (by kernel_rfl) (by kernel_rfl) (fun _ _ _ h => h) (Or.inl ⟨by rfl, ?_⟩) (by assumption) ?_
            rotate_left
            · ((intro w hSw; (try dsimp only at hSw); go_simp; (try rw [if_neg (by omega)])); try with_reducible rfl)
            (try simp only [Act.put, List.setIfInBounds_toArray, List.set_cons_zero, List.set_cons_succ])
            refine wpAnyH_take (i := 9) (oi := { dst := some 57, op := Op.move (Operand.tmp 6), type := 3, pos := "lines.go:98", after := #[], guard := none }) (v := ?_) rfl (by kernel_rfl) (by kernel_rfl) (by kernel_rfl) (fun _ _ _ h => h) (Or.inl ⟨by rfl, ?_⟩) (by assumption) ?_
            rotate_left
            · ((intro w hSw; (try dsimp only at hSw); go_simp; (try rw [if_neg (by omega)])); try with_reducible rfl)
            (try simp only [Act.put, List.setIfInBounds_toArray, List.set_cons_zero, List.set_cons_succ])
            refine wpAnyH_take (i := 10) (oi := { dst := some 58, op := Op.load 31 (Operand.tmp 5), type := 31, pos := "lines.go:98", after := #[], guard := none }) (v := ?_) rfl (by kernel_rfl) (by kernel_rfl) (by kernel_rfl) (fun _ _ _ h => h) (Or.inl ⟨by rfl, ?_⟩) (by assumption) ?_
            rotate_left
            · ((intro w hSw; (try dsimp only at hSw); go_simp; (try rw [if_neg (by omega)])); try with_reducible rfl)
            (try simp only [Act.put, List.setIfInBounds_toArray, List.set_cons_zero, List.set_cons_succ])
            refine wpAnyH_ready (rs := [2]) (by kernel_rfl) (by simp) ?_
            refine AllReadyH.cons (o := { dst := some 50, op := Op.call { callee := Callee.value (Operand.func 27), args := #[Operand.tmp 49], argTypes := #[3] }, type := 3, pos := "lines.go:98", after := #[{ on := 1, ground := Ground.data }], guard := none }) rfl (fun K hK => ?_) ?_
            · (go_simp; go_at_call 27; refine (HCA.out W0).mono ?_; rintro u wz1 ⟨rfl, he1⟩; have bz1 : Below W0.heap.size W0 wz1 := (by rw [he1]; exact bz0); clear he1; dsimp only)
              refine hK.out _ _ ?_ (fun hHeld => ?_)
              · exact HS.out _ (bnext HBW.out (bnext HWD.out bz1))
              clear hK K
              (try simp only [Act.put, List.setIfInBounds_toArray, List.set_cons_zero, List.set_cons_succ])
              refine wpAnyH_ready (rs := [5]) (by kernel_rfl) (by simp) ?_
              refine AllReadyH.cons (o := { dst := some 53, op := Op.call { callee := Callee.value (Operand.func 27), args := #[Operand.tmp 52], argTypes := #[3] }, type := 3, pos := "lines.go:98", after := #[{ on := 4, ground := Ground.data }, { on := 2, ground := Ground.chain }], guard := none }) rfl (fun K hK => ?_) ?_
              · (go_simp; go_at_call 27; refine (HCD.out wz1).mono ?_; rintro u wz2 ⟨rfl, he2⟩; have bz2 : Below W0.heap.size W0 wz2 := (by rw [he2]; exact bz1); clear he2; dsimp only)
                refine hK.out _ _ ?_ (fun hHeld => ?_)
                · exact HS.out _ (bnext HBW.out (bnext HWD.out bz2))
                clear hK K
                (try simp only [Act.put, List.setIfInBounds_toArray, List.set_cons_zero, List.set_cons_succ])
                refine wpAnyH_take (i := 6) (oi := { dst := some 54, op := Op.binOp BinOp.add 3 (Operand.tmp 50) (Operand.tmp 53) 3, type := 3, pos := "lines.go:98", after := #[{ on := 2, ground := Ground.data }, { on := 5, ground := Ground.data }], guard := none }) (v := ?_) rfl (by kernel_rfl) (by kernel_rfl) (by kernel_rfl) (fun _ _ _ h => h) (Or.inl ⟨by rfl, ?_⟩) (by assumption) ?_
                rotate_left
                · ((intro w hSw; (try dsimp only at hSw); go_simp; (try rw [if_neg (by omega)])); try with_reducible rfl)
                (try simp only [Act.put, List.setIfInBounds_toArray, List.set_cons_zero, List.set_cons_succ])
                refine wpAnyH_take (i := 8) (oi := { dst := some 56, op := Op.binOp BinOp.add 3 (Operand.tmp 54) (Operand.tmp 55) 3, type := 3, pos := "lines.go:98", after := #[{ on := 6, ground := Ground.data }, { on := 7, ground := Ground.data }], guard := none }) (v := ?_) rfl (by kernel_rfl) (by kernel_rfl) (by kernel_rfl) (fun _ _ _ h => h) (Or.inl ⟨by rfl, ?_⟩) (by assumption) ?_
                rotate_left
                · ((intro w hSw; (try dsimp only at hSw); go_simp; (try rw [if_neg (by omega)])); try with_reducible rfl)
                (try simp only [Act.put, List.setIfInBounds_toArray, List.set_cons_zero, List.set_cons_succ])
                refine wpAnyH_take (i := 11) (oi := { dst := some 59, op := Op.build 70 #[(0, Operand.tmp 56), (1, Operand.tmp 57), (2, Operand.tmp 58)], type := 70, pos := "lines.go:98", after := #[{ on := 8, ground := Ground.data }, { on := 9, ground := Ground.data }, { on := 10, ground := Ground.data }], guard := none }) (v := ?_) rfl (by kernel_rfl) (by kernel_rfl) (by kernel_rfl) (fun _ _ _ h => h) (Or.inl ⟨by rfl, ?_⟩) (by assumption) ?_
                rotate_left
                · ((intro w hSw; (try dsimp only at hSw); go_simp; (try rw [if_neg (by omega)])); try with_reducible rfl)
                (try simp only [Act.put, List.setIfInBounds_toArray, List.set_cons_zero, List.set_cons_succ])
                refine wpAnyH_ready (rs := [12]) (by kernel_rfl) (by simp) ?_
                refine AllReadyH.cons (o := { dst := some 60, op := Op.buildSlice 56 1 #[(0, Operand.tmp 59)], type := 56, pos := "lines.go:98", after := #[{ on := 11, ground := Ground.data }], guard := none }) rfl (fun K hK => ?_) ?_
                · (go_simp; have hsrc := srcN_new wz2 (pcL (cpy a k f o s j)) 70 5 1 1 rfl; have dz3 := balloc (Below.refl _ wz2) (pcC (cpy a k f o s j)); obtain ⟨wz3, hq⟩ : ∃ w', wz2.alloc (pcC (cpy a k f o s j)) = w' := ⟨_, rfl⟩; change SrcN 5 (wz2.alloc (pcC (cpy a k f o s j))) _ _ _ at hsrc; rw [hq] at hsrc dz3; change K _ (wz2.alloc (pcC (cpy a k f o s j))); rw [hq]; clear hq; have bz3 := bnext bz2 dz3)
                  refine hK.out _ _ ?_ (fun hHeld => ?_)
                  · exact HS.out _ (bnext HBW.out (bnext HWD.out bz3))
                  clear hK K
                  (try simp only [Act.put, List.setIfInBounds_toArray, List.set_cons_zero, List.set_cons_succ])
                  refine wpAnyH_ready (rs := [13]) (by kernel_rfl) (by simp) ?_
                  refine AllReadyH.cons (o := { dst := some 61, op := Op.call { callee := Callee.builtin Builtin.append, args := #[Operand.tmp 48, Operand.tmp 60], argTypes := #[56, 56] }, type := 56, pos := "lines.go:98", after := #[{ on := 0, ground := Ground.data }, { on := 12, ground := Ground.data }, { on := 5, ground := Ground.chain }], guard := none }) rfl (fun K hK => ?_) ?_
                  · (refine step_appN (by rfl) _ _ _ (by rfl) w5.heap.size 70 i0 _ 5 48 Try.underlying56 hi0 hz0 hz1 hz2 rfl (by decide) (.slice oa j oc) j U (by rfl) (own_below HOW.out (bnext HWD.out bz3)) _ 1 (pcL (cpy a k f o s j)) (by rfl) hsrc (by simp [pcL, Value.oneCell']) (by unfold maxLen; omega) (by omega) (by have h1 := (bnext HBW.out (bnext HWD.out bz3)).size; omega) ?_; intro v' wz4 hown' hgrow _; have bz4 : Below w5.heap.size w5 wz4 := (bnext HBW.out (bnext HWD.out bz3)).grown hgrow (bnext HBW.out (bnext HWD.out bz3)).size (fun q e => (HOW.out.lt q e).1))
                    refine hK.out _ _ ?_ (fun hHeld => ?_)
                    · exact HS.out _ bz4
                    clear hK K
                    (try simp only [Act.put, List.setIfInBounds_toArray, List.set_cons_zero, List.set_cons_succ])
                    refine wpAnyH_take (i := 14) (oi := { dst := some 8, op := Op.assign (Operand.tmp 61), type := 56, pos := "lines.go:98", after := #[{ on := 13, ground := Ground.data }, { on := 13, ground := Ground.chain }, { on := 0, ground := Ground.phase }, { on := 1, ground := Ground.phase }, { on := 2, ground := Ground.phase }, { on := 3, ground := Ground.phase }, { on := 4, ground := Ground.phase }, { on := 5, ground := Ground.phase }, { on := 6, ground := Ground.phase }, { on := 7, ground := Ground.phase }, { on := 8, ground := Ground.phase }, { on := 9, ground := Ground.phase }, { on := 10, ground := Ground.phase }, { on := 11, ground := Ground.phase }, { on := 12, ground := Ground.phase }, { on := 13, ground := Ground.phase }], guard := none }) (v := ?_) rfl (by kernel_rfl) (by kernel_rfl) (by kernel_rfl) (fun _ _ _ h => h) (Or.inl ⟨by rfl, ?_⟩) (by assumption) ?_
                    rotate_left
                    · ((intro w hSw; (try dsimp only at hSw); go_simp; (try rw [if_neg (by omega)])); try with_reducible rfl)
                    (try simp only [Act.put, List.setIfInBounds_toArray, List.set_cons_zero, List.set_cons_succ])
                    refine wpAnyH_done (by kernel_rfl) ?_ _
                    obtain ⟨oa', oc', rfl⟩ := own_shape hown'
                    have HO8 := Lib.hid hown'
                    have HB8 := Lib.hid bz4
                    clear hown' hgrow hsrc bz0 bz1 bz2 bz3 bz4
                    go_wp2
                    go_roundw
                    case rel => exact ⟨j + 1, by go_num, hjc, by rw [HUN.out]; exact HO8.out, HB8⟩
                    case measure => simp [intOf]; omega
                  exact AllReadyH.nil
                exact AllReadyH.nil
              exact AllReadyH.nil
            exact AllReadyH.nil
          · obtain rfl : c = j := by omega
            have hjz : ¬ (c : Int) < (c : Int) := by omega
            have HL5 := Lib.hid (HL4.out.below HBW.out)
            have HFB : Hid (∀ b, F' b → b < w5.heap.size) := Lib.hid HL4.out.lt
            have hadd := add_any (HL5.out.here) (cps a k f o s c) oa c oc (cps_len _ _ _ _ _ _) (fun V hV => own_srcN (hV.own hown (fun q e hq => by have := (hown.lt q e).1; have := HFB.out q hq; omega))) (by omega)
            rw [← HPZ.out] at hadd
            have HADD := Lib.hid hadd
            have HFWR : Hid (FrS (fun b => F' b ∨ w.heap.size ≤ b) w wr) := Lib.hid (HFW.out.trans (FrS.of HBW.out))
            clear hadd hjc hj hown
            go_wp2_with fail
            go_at_call 28
            refine HADD.out.mono ?_
            rintro x w6 ⟨rfl, h6⟩
            obtain ⟨f6, F6, l6, g6⟩ := h6
            have HFIN : Hid (LSr W F w6 M nd T (k + 1) PS) := Lib.hid (LSr.join HFR0.out H3.out (HFWR.out.trans (f6.mono (fun b hb => .inl hb))) l6 (fun b hb => (g6 b hb).elim .inl (fun h => .inr (Nat.le_trans HFWR.out.size h))))
            clear f6 l6 g6
            go_wp2
            go_end0
            exact ⟨rfl, HFIN.out⟩
end
end Go.Proofs.Ytgphdgalcbcamaa
