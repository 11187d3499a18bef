/- For every number of nodes, all scripts and all ends LinesNodes returns true: what is sent from or to what is no node does not arrive, but uses up its trouble. No conditions. -/
import Derived.Test.YtgphdgalcbcamaaLn15
namespace Go.Proofs.Ytgphdgalcbcamaa.linesNodes
open Go.ChangeShapes Go.WideShapes Go.ChangeAt Go.RowKit Go.Joins Go.Deep
set_option linter.unusedVariables false

set_option maxRecDepth 100000 in
set_option maxHeartbeats 8000000 in
theorem walk (a0 : Int) (v1 : Value) (a1 : List Tr) (v2 : Value) (a2 : List (Int × Int)) (wa0 : (Lit.int .u8 a0).wf = true) (w : World) (H1 : TrArg w v1 a1) (H2 : EnArg w v2 a2) :
    Calls Try.prog 6 #[.int .u8 a0, v1, v2] w fun e w' => e = .returned (.bool true) ∧ Below w.heap.size w w' := by
  have HM : Hid (∀ V, Below w.heap.size w V → TrArg V v1 a1) := Lib.hid fun V hV => H1.keep hV
  have HE : Hid (∀ V, Below w.heap.size w V → EnArg V v2 a2) := Lib.hid fun V hV => H2.keep hV
  obtain ⟨ya, yc, hy, -⟩ := H2.src
  subst hy
  obtain ⟨N2, hN2⟩ : ∃ N, a2.length = N := ⟨_, rfl⟩
  rw [hN2] at HE ⊢
  have hNl : N2 ≤ maxLen := by rw [← hN2]; exact H2.len
  unfold maxLen at hNl
  have HNN := Lib.hid hN2
  obtain ⟨i0, hi0, hz0, hz1, hz2⟩ := info_parts info_ms
  have h8 := bd8 wa0
  have hwr : IntKind.i64.wrap a0 = a0 := by rw [IntKind.wrap_i64]; omega
  obtain ⟨nd, hnd⟩ : ∃ nd, a0.tmod 5 = nd := ⟨_, rfl⟩
  clear H1 H2 hN2
  go_enter Try.func6, Try.ntmps6
  go_wp2_with fail
  refine (sanity_any _).mono ?_
  rintro e w2 ⟨rfl, k2⟩
  have HB2 := Lib.hid k2
  clear k2
  obtain ⟨T, hT⟩ : ∃ T, a1.take 40 = T := ⟨_, rfl⟩
  obtain ⟨v', hsh, hsrc⟩ := short_any w2 v1 a1 (HM.out _ HB2.out)
  rw [hT] at hsrc
  obtain ⟨n, hn⟩ : ∃ n, T.length = n := ⟨_, rfl⟩
  have hn40 : n ≤ 40 := by rw [← hn, ← hT, List.length_take]; omega
  rw [hn] at hsrc
  have HSH := Lib.hid hsh
  have HNT := Lib.hid hn
  have HN1 := Lib.hid (new_any w2 nd v' T n hn (by omega) hsrc)
  clear hsh hsrc hn
  go_upto_region 3 with fail
  have h8' := h8
  clear h8
  go_wp2_with fail
  go_at_call 12
  refine HSH.out.mono ?_
  rintro x wx ⟨rfl, he⟩
  have he' := he.symm
  subst he'
  go_wp2_with fail
  go_at_call 11
  refine HN1.out.mono ?_
  rintro x w5 ⟨A, rfl, hla, hb5⟩
  have HLA := Lib.hid hla
  have HB5 := Lib.hid hb5
  clear hla hb5
  obtain ⟨v'', hsh, hsrc⟩ := short_any w5 v1 a1 (HM.out _ (bnext HB2.out HB5.out))
  rw [hT, HNT.out] at hsrc
  have HSH2 := Lib.hid hsh
  have HN2 := Lib.hid (new_any w5 1000 v'' T n HNT.out (by omega) hsrc)
  clear hsh hsrc hT
  go_wp2_with fail
  go_at_call 12
  refine HSH2.out.mono ?_
  rintro x wx ⟨rfl, he⟩
  have he' := he.symm
  subst he'
  go_wp2_with fail
  go_at_call 11
  refine HN2.out.mono ?_
  rintro x w6 ⟨B, rfl, hlb, hb6⟩
  have HTW : Hid (Two w w2.heap.size w6 A B nd 1000 T T 0 0 [] []) := Lib.hid ⟨_, _, HLA.out.below hb6, hlb, fun b h1 h2 => by omega, fun b h => h.1, fun b h => Nat.le_trans HB5.out.size h.1, bnext (bnext HB2.out HB5.out) hb6, HB2.out.size⟩
  clear hlb hb6
  go_upto_region 7 with fail
  go_loopw [12] (fun v12 wr => ∃ i : Nat, v12 = .int .i64 (i : Int) ∧ i ≤ N2 ∧ i ≤ 20 ∧ Hid (Two w w2.heap.size wr A B nd 1000 T T i i (NP T nd a2 i) (NQ T nd a2 i))) (fun v _ => N2 - (intOf v).toNat)
  case atStart => exact ⟨0, rfl, by omega, by omega, HTW⟩
  case round =>
    obtain ⟨i, rfl, hi, hi20, HW⟩ := hrel
    by_cases hin : i < N2 ∧ i < 20
    · obtain ⟨hin, hi2⟩ := hin
      have hii : (i : Int) < (N2 : Int) := by omega
      have hii2 : (i : Int) < 20 := by omega
      have hi0' : (0 : Int) ≤ (i : Int) := by omega
      have hsE := (HE.out wr HW.out.bel).src
      rw [HNN.out] at hsE
      obtain ⟨g, o, rfl, hgl, hc0, hc1⟩ := en_at hsE HNN.out hin
      obtain ⟨e0, he0⟩ : ∃ e, (LN.en a2 i).1 = e := ⟨_, rfl⟩
      obtain ⟨e1, he1⟩ : ∃ e, (LN.en a2 i).2 = e := ⟨_, rfl⟩
      rw [he0] at hc0
      rw [he1] at hc1
      have HE0 := Lib.hid he0
      have HE1 := Lib.hid he1
      have HPL : Hid ((NP T nd a2 i).length ≤ 90000) := Lib.hid (by have := (NP_sn T nd a2 i).len; omega)
      have HQL : Hid ((NQ T nd a2 i).length ≤ 90000) := Lib.hid (by have := (NQ_sn T nd a2 i).len; omega)
      have HBW := Lib.hid HW.out.bel
      have mixed : Try.prog.follows .mixedOrders = true := by kernel_rfl
      have hu8 := u8_wrap i (by omega)
      have HGL := Lib.hid hgl
      clear hsE he0 he1
      go_upto_region 9 with fail
      go_cut [13] from 49 to 63 (fun s13 V => ∃ X : Nat, s13 = .pointer (some ⟨X, 0, none⟩) ∧ Hid (V.heap[X]? = some (.cells #[.int .i64 e0, .int .i64 e1, .string (LN.txt i)] 31 (0, 0))) ∧ Hid (wr.heap.size ≤ X) ∧ Hid (Below wr.heap.size wr V))
      case first =>
        have HWD0 := Below.drew (Below.refl wr.heap.size wr)
        obtain ⟨W0, hW0⟩ : ∃ W0, wr.drew = W0 := ⟨_, rfl⟩
        rw [hW0] at HWD0
        have HWD := Lib.hid HWD0
        have HW0 := Lib.hid hW0
        clear HWD0 hW0
        have bz0 : Below W0.heap.size W0 W0 := Below.refl _ _
        have HG0 : Hid (∀ V, Below W0.heap.size W0 V → V.cell? ⟨g, o + i * 2, none⟩ = some (.int .i64 e0) ∧ V.cell? ⟨g, o + i * 2 + 1, none⟩ = some (.int .i64 e1)) := Lib.hid fun V hV => by
          have hb := bnext HWD.out hV
          exact ⟨(hb.cell (p := ⟨g, o + i * 2, none⟩) hgl).trans hc0, (hb.cell (p := ⟨g, o + i * 2 + 1, none⟩) hgl).trans hc1⟩
        clear hgl hc0 hc1
        refine wp_region_held_drew (S := (fun w' => w'.cell? ⟨g, o + i * 2, none⟩ = some (.int .i64 e0) ∧ w'.cell? ⟨g, o + i * 2 + 1, none⟩ = some (.int .i64 e1))) (by kernel_rfl) ?_ (fun hHeld => ?_)
        · (rw [HW0.out]; exact HG0.out _ bz0)
        rw [HW0.out] at hHeld ⊢
        refine wpAnyH_take (i := 0) (oi := { dst := some 49, op := Op.move (Operand.tmp 2), type := 50, pos := "law.go:138", after := #[], guard := none }) (v := ?_) rfl (by kernel_rfl) (by kernel_rfl) (by kernel_rfl) (fun _ _ _ h => h) (Or.inl ⟨by rfl, ?_⟩) (by assumption) ?_
        rotate_left
        · ((intro w hSw; (try dsimp only at hSw); go_simp; (try rw [if_neg (by omega)])); try with_reducible rfl)
        (try simp only [Act.put, List.setIfInBounds_toArray, List.set_cons_zero, List.set_cons_succ])
        refine wpAnyH_take (i := 1) (oi := { dst := some 50, op := Op.move (Operand.tmp 12), type := 3, pos := "law.go:138", after := #[], guard := none }) (v := ?_) rfl (by kernel_rfl) (by kernel_rfl) (by kernel_rfl) (fun _ _ _ h => h) (Or.inl ⟨by rfl, ?_⟩) (by assumption) ?_
        rotate_left
        · ((intro w hSw; (try dsimp only at hSw); go_simp; (try rw [if_neg (by omega)])); try with_reducible rfl)
        (try simp only [Act.put, List.setIfInBounds_toArray, List.set_cons_zero, List.set_cons_succ])
        refine wpAnyH_take (i := 2) (oi := { dst := some 51, op := Op.indexAddr 50 (Operand.tmp 49) (Operand.tmp 50), type := 0, pos := "law.go:138", after := #[{ on := 0, ground := Ground.data }, { on := 1, ground := Ground.data }], guard := none }) (v := ?_) rfl (by kernel_rfl) (by kernel_rfl) (by kernel_rfl) (fun _ _ _ h => h) (Or.inl ⟨by rfl, ?_⟩) (by assumption) ?_
        rotate_left
        · ((intro w hSw; (try dsimp only at hSw); go_simp; (try rw [if_neg (by omega)])); try with_reducible rfl)
        (try simp only [Act.put, List.setIfInBounds_toArray, List.set_cons_zero, List.set_cons_succ])
        refine wpAnyH_take (i := 3) (oi := { dst := some 52, op := Op.indexAddr 52 (Operand.tmp 51) (Operand.const (Value.int IntKind.i64 0)), type := 0, pos := "law.go:138", after := #[{ on := 2, ground := Ground.data }], guard := none }) (v := ?_) rfl (by kernel_rfl) (by kernel_rfl) (by kernel_rfl) (fun _ _ _ h => h) (Or.inl ⟨by rfl, ?_⟩) (by assumption) ?_
        rotate_left
        · ((intro w hSw; (try dsimp only at hSw); go_simp; (try rw [if_neg (by omega)])); try with_reducible rfl)
        (try simp only [Act.put, List.setIfInBounds_toArray, List.set_cons_zero, List.set_cons_succ])
        refine wpAnyH_take (i := 4) (oi := { dst := some 53, op := Op.load 3 (Operand.tmp 52), type := 3, pos := "law.go:138", after := #[{ on := 3, ground := Ground.data }], guard := none }) (v := ?_) rfl (by kernel_rfl) (by kernel_rfl) (by kernel_rfl) (fun _ _ _ h => h) (Or.inl ⟨by rfl, ?_⟩) (by assumption) ?_
        rotate_left
        · ((intro w hSw; (try dsimp only at hSw); go_simp; (try rw [if_neg (by omega)])); try with_reducible rfl)
        (try simp only [Act.put, List.setIfInBounds_toArray, List.set_cons_zero, List.set_cons_succ])
        refine wpAnyH_take (i := 5) (oi := { dst := some 54, op := Op.move (Operand.tmp 2), type := 50, pos := "law.go:138", after := #[], guard := none }) (v := ?_) rfl (by kernel_rfl) (by kernel_rfl) (by kernel_rfl) (fun _ _ _ h => h) (Or.inl ⟨by rfl, ?_⟩) (by assumption) ?_
        rotate_left
        · ((intro w hSw; (try dsimp only at hSw); go_simp; (try rw [if_neg (by omega)])); try with_reducible rfl)
        (try simp only [Act.put, List.setIfInBounds_toArray, List.set_cons_zero, List.set_cons_succ])
        refine wpAnyH_take (i := 6) (oi := { dst := some 55, op := Op.move (Operand.tmp 12), type := 3, pos := "law.go:138", after := #[], guard := none }) (v := ?_) rfl (by kernel_rfl) (by kernel_rfl) (by kernel_rfl) (fun _ _ _ h => h) (Or.inl ⟨by rfl, ?_⟩) (by assumption) ?_
        rotate_left
        · ((intro w hSw; (try dsimp only at hSw); go_simp; (try rw [if_neg (by omega)])); try with_reducible rfl)
        (try simp only [Act.put, List.setIfInBounds_toArray, List.set_cons_zero, List.set_cons_succ])
        refine wpAnyH_take (i := 7) (oi := { dst := some 56, op := Op.indexAddr 50 (Operand.tmp 54) (Operand.tmp 55), type := 0, pos := "law.go:138", after := #[{ on := 5, ground := Ground.data }, { on := 6, ground := Ground.data }], guard := none }) (v := ?_) rfl (by kernel_rfl) (by kernel_rfl) (by kernel_rfl) (fun _ _ _ h => h) (Or.inl ⟨by rfl, ?_⟩) (by assumption) ?_
        rotate_left
        · ((intro w hSw; (try dsimp only at hSw); go_simp; (try rw [if_neg (by omega)])); try with_reducible rfl)
        (try simp only [Act.put, List.setIfInBounds_toArray, List.set_cons_zero, List.set_cons_succ])
        refine wpAnyH_take (i := 8) (oi := { dst := some 57, op := Op.indexAddr 52 (Operand.tmp 56) (Operand.const (Value.int IntKind.i64 1)), type := 0, pos := "law.go:138", after := #[{ on := 7, ground := Ground.data }], guard := none }) (v := ?_) rfl (by kernel_rfl) (by kernel_rfl) (by kernel_rfl) (fun _ _ _ h => h) (Or.inl ⟨by rfl, ?_⟩) (by assumption) ?_
        rotate_left
        · ((intro w hSw; (try dsimp only at hSw); go_simp; (try rw [if_neg (by omega)])); try with_reducible rfl)
        (try simp only [Act.put, List.setIfInBounds_toArray, List.set_cons_zero, List.set_cons_succ])
        refine wpAnyH_take (i := 9) (oi := { dst := some 58, op := Op.load 3 (Operand.tmp 57), type := 3, pos := "law.go:138", after := #[{ on := 8, ground := Ground.data }], guard := none }) (v := ?_) rfl (by kernel_rfl) (by kernel_rfl) (by kernel_rfl) (fun _ _ _ h => h) (Or.inl ⟨by rfl, ?_⟩) (by assumption) ?_
        rotate_left
        · ((intro w hSw; (try dsimp only at hSw); go_simp; (try rw [if_neg (by omega)])); try with_reducible rfl)
        (try simp only [Act.put, List.setIfInBounds_toArray, List.set_cons_zero, List.set_cons_succ])
        refine wpAnyH_take (i := 10) (oi := { dst := some 59, op := Op.move (Operand.tmp 12), type := 3, pos := "law.go:138", after := #[], guard := none }) (v := ?_) rfl (by kernel_rfl) (by kernel_rfl) (by kernel_rfl) (fun _ _ _ h => h) (Or.inl ⟨by rfl, ?_⟩) (by assumption) ?_
        rotate_left
        · ((intro w hSw; (try dsimp only at hSw); go_simp; (try rw [if_neg (by omega)])); try with_reducible rfl)
        (try simp only [Act.put, List.setIfInBounds_toArray, List.set_cons_zero, List.set_cons_succ])
        refine wpAnyH_take (i := 11) (oi := { dst := some 60, op := Op.convert 3 5 (Operand.tmp 59), type := 5, pos := "law.go:138", after := #[{ on := 10, ground := Ground.data }], guard := none }) (v := ?_) rfl (by kernel_rfl) (by kernel_rfl) (by kernel_rfl) (fun _ _ _ h => h) (Or.inl ⟨by rfl, ?_⟩) (by assumption) ?_
        rotate_left
        · ((intro w hSw; (try dsimp only at hSw); go_simp; (try rw [if_neg (by omega)])); try with_reducible rfl)
        (try simp only [Act.put, List.setIfInBounds_toArray, List.set_cons_zero, List.set_cons_succ])
        refine wpAnyH_ready (rs := [12, 15]) (by kernel_rfl) (by simp) ?_
        refine AllReadyH.cons (o := { dst := some 61, op := Op.buildSlice 40 1 #[(0, Operand.tmp 60)], type := 40, pos := "law.go:138", after := #[{ on := 11, ground := Ground.data }], guard := none }) rfl (fun K hK => ?_) ?_
        · (go_simp; have bU := heap_alloc_new W0 (.cells #[.int .u8 (i : Int)] 5); have dz := balloc (Below.refl _ W0) (.cells #[.int .u8 (i : Int)] 5); obtain ⟨wz1, hq⟩ : ∃ w', W0.alloc (.cells #[.int .u8 (i : Int)] 5) = w' := ⟨_, rfl⟩; rw [hq] at bU dz; rw [hq]; clear hq; have hcv := conv_at bU; have bz1 := bnext bz0 dz; clear dz)
          refine hK.out _ _ ?_ (fun hHeld => ?_)
          · exact HG0.out _ bz1
          clear hK K
          (try simp only [Act.put, List.setIfInBounds_toArray, List.set_cons_zero, List.set_cons_succ])
          refine wpAnyH_ready (rs := [13, 15]) (by kernel_rfl) (by simp) ?_
          refine AllReadyH.cons (o := { dst := some 62, op := Op.convert 40 9 (Operand.tmp 61), type := 9, pos := "law.go:138", after := #[{ on := 12, ground := Ground.data }], guard := none }) rfl (fun K hK => ?_) ?_
          · (go_simp; clear hcv)
            refine hK.out _ _ ?_ (fun hHeld => ?_)
            · exact HG0.out _ bz1
            clear hK K
            (try simp only [Act.put, List.setIfInBounds_toArray, List.set_cons_zero, List.set_cons_succ])
            refine wpAnyH_take (i := 14) (oi := { dst := some 63, op := Op.build 31 #[(0, Operand.tmp 53), (1, Operand.tmp 58), (2, Operand.tmp 62)], type := 31, pos := "law.go:138", after := #[{ on := 4, ground := Ground.data }, { on := 9, ground := Ground.data }, { on := 13, ground := Ground.data }], guard := none }) (v := ?_) rfl (by kernel_rfl) (by kernel_rfl) (by kernel_rfl) (fun _ _ _ h => h) (Or.inl ⟨by rfl, ?_⟩) (by assumption) ?_
            rotate_left
            · ((intro w hSw; (try dsimp only at hSw); go_simp; (try rw [if_neg (by omega)])); try with_reducible rfl)
            (try simp only [Act.put, List.setIfInBounds_toArray, List.set_cons_zero, List.set_cons_succ])
            refine wpAnyH_ready (rs := [15]) (by kernel_rfl) (by simp) ?_
            refine AllReadyH.cons (o := { dst := some 13, op := Op.alloc 31, type := 0, pos := "law.go:138", after := #[], guard := none }) rfl (fun K hK => ?_) ?_
            · (go_simp; have bX := heap_alloc_new wz1 (.cells #[.int .i64 0, .int .i64 0, .string ⟨#[]⟩] 31); have dz := balloc (Below.refl _ wz1) (.cells #[.int .i64 0, .int .i64 0, .string ⟨#[]⟩] 31); obtain ⟨wz2, hq⟩ : ∃ w', wz1.alloc (.cells #[.int .i64 0, .int .i64 0, .string ⟨#[]⟩] 31) = w' := ⟨_, rfl⟩; rw [hq] at bX dz; rw [hq]; clear hq; obtain ⟨X, hX⟩ : ∃ X, wz1.heap.size = X := ⟨_, rfl⟩; have hXl : W0.heap.size ≤ X := (by rw [← hX]; exact bz1.size); have bz2 := bnext bz1 dz; rw [hX] at bX ⊢; clear hX dz)
              refine hK.out _ _ ?_ (fun hHeld => ?_)
              · exact HG0.out _ bz2
              clear hK K
              (try simp only [Act.put, List.setIfInBounds_toArray, List.set_cons_zero, List.set_cons_succ])
              refine wpAnyH_ready (rs := [16]) (by kernel_rfl) (by simp) ?_
              refine AllReadyH.cons (o := { dst := none, op := Op.store 31 (Operand.tmp 13) (Operand.tmp 63), type := 0, pos := "law.go:138", after := #[{ on := 15, ground := Ground.data }, { on := 14, ground := Ground.data }, { on := 0, ground := Ground.phase }, { on := 1, ground := Ground.phase }, { on := 2, ground := Ground.phase }, { on := 3, ground := Ground.phase }, { on := 4, ground := Ground.phase }, { on := 5, ground := Ground.phase }, { on := 6, ground := Ground.phase }, { on := 7, ground := Ground.phase }, { on := 8, ground := Ground.phase }, { on := 9, ground := Ground.phase }, { on := 10, ground := Ground.phase }, { on := 11, ground := Ground.phase }, { on := 12, ground := Ground.phase }, { on := 13, ground := Ground.phase }, { on := 14, ground := Ground.phase }, { on := 15, ground := Ground.phase }], guard := none }) rfl (fun K hK => ?_) ?_
              · (have x0 : wz2.cell? ⟨X, 0, none⟩ = some (.int .i64 0) := nd_cell bX rfl; have x1 : wz2.cell? ⟨X, 1, none⟩ = some (.int .i64 0) := nd_cell bX rfl; have x2 : wz2.cell? ⟨X, 2, none⟩ = some (.string ⟨#[]⟩) := nd_cell bX rfl; have y0 := nd_froz bX 0; have y1 := nd_froz bX 1; have y2 := nd_froz bX 2; go_simp; obtain ⟨wz3, hq, bY, hbel⟩ := set3 bX (.int .i64 e0) (.int .i64 e1) (.string (LN.txt i)); rw [hq]; have bz3 := hbel.below _ bz2 (fun b hb => by rw [hb]; exact hXl); clear hq hbel x0 x1 x2 y0 y1 y2)
                refine hK.out _ _ ?_ (fun hHeld => ?_)
                · exact HG0.out _ bz3
                clear hK K
                (try simp only [Act.put, List.setIfInBounds_toArray, List.set_cons_zero, List.set_cons_succ])
                refine wpAnyH_done (by kernel_rfl) ?_ _
                have HBY := Lib.hid bY
                have HCU := Lib.hid (bnext HWD.out bz3)
                have HXL : Hid (wr.heap.size ≤ X) := Lib.hid (Nat.le_trans HWD.out.size hXl)
                clear bX bY hXl
                go_wp2_with fail
                go_meet
                exact ⟨X, rfl, HBY, HXL, HCU⟩
              exact AllReadyH.nil
            exact AllReadyH.nil
          refine AllReadyH.cons (o := { dst := some 13, op := Op.alloc 31, type := 0, pos := "law.go:138", after := #[], guard := none }) rfl (fun K hK => ?_) ?_
          · (go_simp; have bX := heap_alloc_new wz1 (.cells #[.int .i64 0, .int .i64 0, .string ⟨#[]⟩] 31); have dz := balloc (Below.refl _ wz1) (.cells #[.int .i64 0, .int .i64 0, .string ⟨#[]⟩] 31); obtain ⟨wz2, hq⟩ : ∃ w', wz1.alloc (.cells #[.int .i64 0, .int .i64 0, .string ⟨#[]⟩] 31) = w' := ⟨_, rfl⟩; have bU := (dz.block _ (Array.getElem?_eq_some_iff.1 bU).1).trans bU; rw [hq] at bX dz bU; clear hcv; have hcv := conv_at bU; rw [hq]; clear hq; obtain ⟨X, hX⟩ : ∃ X, wz1.heap.size = X := ⟨_, rfl⟩; have hXl : W0.heap.size ≤ X := (by rw [← hX]; exact bz1.size); have bz2 := bnext bz1 dz; rw [hX] at bX ⊢; clear hX dz)
            refine hK.out _ _ ?_ (fun hHeld => ?_)
            · exact HG0.out _ bz2
            clear hK K
            (try simp only [Act.put, List.setIfInBounds_toArray, List.set_cons_zero, List.set_cons_succ])
            refine wpAnyH_ready (rs := [13]) (by kernel_rfl) (by simp) ?_
            refine AllReadyH.cons (o := { dst := some 62, op := Op.convert 40 9 (Operand.tmp 61), type := 9, pos := "law.go:138", after := #[{ on := 12, ground := Ground.data }], guard := none }) rfl (fun K hK => ?_) ?_
            · (go_simp; clear hcv)
              refine hK.out _ _ ?_ (fun hHeld => ?_)
              · exact HG0.out _ bz2
              clear hK K
              (try simp only [Act.put, List.setIfInBounds_toArray, List.set_cons_zero, List.set_cons_succ])
              refine wpAnyH_take (i := 14) (oi := { dst := some 63, op := Op.build 31 #[(0, Operand.tmp 53), (1, Operand.tmp 58), (2, Operand.tmp 62)], type := 31, pos := "law.go:138", after := #[{ on := 4, ground := Ground.data }, { on := 9, ground := Ground.data }, { on := 13, ground := Ground.data }], guard := none }) (v := ?_) rfl (by kernel_rfl) (by kernel_rfl) (by kernel_rfl) (fun _ _ _ h => h) (Or.inl ⟨by rfl, ?_⟩) (by assumption) ?_
              rotate_left
              · ((intro w hSw; (try dsimp only at hSw); go_simp; (try rw [if_neg (by omega)])); try with_reducible rfl)
              (try simp only [Act.put, List.setIfInBounds_toArray, List.set_cons_zero, List.set_cons_succ])
              refine wpAnyH_ready (rs := [16]) (by kernel_rfl) (by simp) ?_
              refine AllReadyH.cons (o := { dst := none, op := Op.store 31 (Operand.tmp 13) (Operand.tmp 63), type := 0, pos := "law.go:138", after := #[{ on := 15, ground := Ground.data }, { on := 14, ground := Ground.data }, { on := 0, ground := Ground.phase }, { on := 1, ground := Ground.phase }, { on := 2, ground := Ground.phase }, { on := 3, ground := Ground.phase }, { on := 4, ground := Ground.phase }, { on := 5, ground := Ground.phase }, { on := 6, ground := Ground.phase }, { on := 7, ground := Ground.phase }, { on := 8, ground := Ground.phase }, { on := 9, ground := Ground.phase }, { on := 10, ground := Ground.phase }, { on := 11, ground := Ground.phase }, { on := 12, ground := Ground.phase }, { on := 13, ground := Ground.phase }, { on := 14, ground := Ground.phase }, { on := 15, ground := Ground.phase }], guard := none }) rfl (fun K hK => ?_) ?_
              · (have x0 : wz2.cell? ⟨X, 0, none⟩ = some (.int .i64 0) := nd_cell bX rfl; have x1 : wz2.cell? ⟨X, 1, none⟩ = some (.int .i64 0) := nd_cell bX rfl; have x2 : wz2.cell? ⟨X, 2, none⟩ = some (.string ⟨#[]⟩) := nd_cell bX rfl; have y0 := nd_froz bX 0; have y1 := nd_froz bX 1; have y2 := nd_froz bX 2; go_simp; obtain ⟨wz3, hq, bY, hbel⟩ := set3 bX (.int .i64 e0) (.int .i64 e1) (.string (LN.txt i)); rw [hq]; have bz3 := hbel.below _ bz2 (fun b hb => by rw [hb]; exact hXl); clear hq hbel x0 x1 x2 y0 y1 y2)
                refine hK.out _ _ ?_ (fun hHeld => ?_)
                · exact HG0.out _ bz3
                clear hK K
                (try simp only [Act.put, List.setIfInBounds_toArray, List.set_cons_zero, List.set_cons_succ])
                refine wpAnyH_done (by kernel_rfl) ?_ _
                have HBY := Lib.hid bY
                have HCU := Lib.hid (bnext HWD.out bz3)
                have HXL : Hid (wr.heap.size ≤ X) := Lib.hid (Nat.le_trans HWD.out.size hXl)
                clear bX bY hXl
                go_wp2_with fail
                go_meet
                exact ⟨X, rfl, HBY, HXL, HCU⟩
              exact AllReadyH.nil
            exact AllReadyH.nil
          exact AllReadyH.nil
        refine AllReadyH.cons (o := { dst := some 13, op := Op.alloc 31, type := 0, pos := "law.go:138", after := #[], guard := none }) rfl (fun K hK => ?_) ?_
        · (go_simp; have bX := heap_alloc_new W0 (.cells #[.int .i64 0, .int .i64 0, .string ⟨#[]⟩] 31); have dz := balloc (Below.refl _ W0) (.cells #[.int .i64 0, .int .i64 0, .string ⟨#[]⟩] 31); obtain ⟨wz1, hq⟩ : ∃ w', W0.alloc (.cells #[.int .i64 0, .int .i64 0, .string ⟨#[]⟩] 31) = w' := ⟨_, rfl⟩; rw [hq] at bX dz; rw [hq]; clear hq; obtain ⟨X, hX⟩ : ∃ X, W0.heap.size = X := ⟨_, rfl⟩; have hXl : W0.heap.size ≤ X := (by rw [← hX]; exact bz0.size); have bz1 := bnext bz0 dz; rw [hX] at bX ⊢; clear hX dz)
          refine hK.out _ _ ?_ (fun hHeld => ?_)
          · exact HG0.out _ bz1
          clear hK K
          (try simp only [Act.put, List.setIfInBounds_toArray, List.set_cons_zero, List.set_cons_succ])
          refine wpAnyH_ready (rs := [12]) (by kernel_rfl) (by simp) ?_
          refine AllReadyH.cons (o := { dst := some 61, op := Op.buildSlice 40 1 #[(0, Operand.tmp 60)], type := 40, pos := "law.go:138", after := #[{ on := 11, ground := Ground.data }], guard := none }) rfl (fun K hK => ?_) ?_
          · (go_simp; have bU := heap_alloc_new wz1 (.cells #[.int .u8 (i : Int)] 5); have dz := balloc (Below.refl _ wz1) (.cells #[.int .u8 (i : Int)] 5); have bX := (dz.block _ (Array.getElem?_eq_some_iff.1 bX).1).trans bX; obtain ⟨wz2, hq⟩ : ∃ w', wz1.alloc (.cells #[.int .u8 (i : Int)] 5) = w' := ⟨_, rfl⟩; rw [hq] at bU dz bX; rw [hq]; clear hq; have hcv := conv_at bU; have bz2 := bnext bz1 dz; clear dz)
            refine hK.out _ _ ?_ (fun hHeld => ?_)
            · exact HG0.out _ bz2
            clear hK K
            (try simp only [Act.put, List.setIfInBounds_toArray, List.set_cons_zero, List.set_cons_succ])
            refine wpAnyH_ready (rs := [13]) (by kernel_rfl) (by simp) ?_
            refine AllReadyH.cons (o := { dst := some 62, op := Op.convert 40 9 (Operand.tmp 61), type := 9, pos := "law.go:138", after := #[{ on := 12, ground := Ground.data }], guard := none }) rfl (fun K hK => ?_) ?_
            · (go_simp; clear hcv)
              refine hK.out _ _ ?_ (fun hHeld => ?_)
              · exact HG0.out _ bz2
              clear hK K
              (try simp only [Act.put, List.setIfInBounds_toArray, List.set_cons_zero, List.set_cons_succ])
              refine wpAnyH_take (i := 14) (oi := { dst := some 63, op := Op.build 31 #[(0, Operand.tmp 53), (1, Operand.tmp 58), (2, Operand.tmp 62)], type := 31, pos := "law.go:138", after := #[{ on := 4, ground := Ground.data }, { on := 9, ground := Ground.data }, { on := 13, ground := Ground.data }], guard := none }) (v := ?_) rfl (by kernel_rfl) (by kernel_rfl) (by kernel_rfl) (fun _ _ _ h => h) (Or.inl ⟨by rfl, ?_⟩) (by assumption) ?_
              rotate_left
              · ((intro w hSw; (try dsimp only at hSw); go_simp; (try rw [if_neg (by omega)])); try with_reducible rfl)
              (try simp only [Act.put, List.setIfInBounds_toArray, List.set_cons_zero, List.set_cons_succ])
              refine wpAnyH_ready (rs := [16]) (by kernel_rfl) (by simp) ?_
              refine AllReadyH.cons (o := { dst := none, op := Op.store 31 (Operand.tmp 13) (Operand.tmp 63), type := 0, pos := "law.go:138", after := #[{ on := 15, ground := Ground.data }, { on := 14, ground := Ground.data }, { on := 0, ground := Ground.phase }, { on := 1, ground := Ground.phase }, { on := 2, ground := Ground.phase }, { on := 3, ground := Ground.phase }, { on := 4, ground := Ground.phase }, { on := 5, ground := Ground.phase }, { on := 6, ground := Ground.phase }, { on := 7, ground := Ground.phase }, { on := 8, ground := Ground.phase }, { on := 9, ground := Ground.phase }, { on := 10, ground := Ground.phase }, { on := 11, ground := Ground.phase }, { on := 12, ground := Ground.phase }, { on := 13, ground := Ground.phase }, { on := 14, ground := Ground.phase }, { on := 15, ground := Ground.phase }], guard := none }) rfl (fun K hK => ?_) ?_
              · (have x0 : wz2.cell? ⟨X, 0, none⟩ = some (.int .i64 0) := nd_cell bX rfl; have x1 : wz2.cell? ⟨X, 1, none⟩ = some (.int .i64 0) := nd_cell bX rfl; have x2 : wz2.cell? ⟨X, 2, none⟩ = some (.string ⟨#[]⟩) := nd_cell bX rfl; have y0 := nd_froz bX 0; have y1 := nd_froz bX 1; have y2 := nd_froz bX 2; go_simp; obtain ⟨wz3, hq, bY, hbel⟩ := set3 bX (.int .i64 e0) (.int .i64 e1) (.string (LN.txt i)); rw [hq]; have bz3 := hbel.below _ bz2 (fun b hb => by rw [hb]; exact hXl); clear hq hbel x0 x1 x2 y0 y1 y2)
                refine hK.out _ _ ?_ (fun hHeld => ?_)
                · exact HG0.out _ bz3
                clear hK K
                (try simp only [Act.put, List.setIfInBounds_toArray, List.set_cons_zero, List.set_cons_succ])
                refine wpAnyH_done (by kernel_rfl) ?_ _
                have HBY := Lib.hid bY
                have HCU := Lib.hid (bnext HWD.out bz3)
                have HXL : Hid (wr.heap.size ≤ X) := Lib.hid (Nat.le_trans HWD.out.size hXl)
                clear bX bY hXl
                go_wp2_with fail
                go_meet
                exact ⟨X, rfl, HBY, HXL, HCU⟩
              exact AllReadyH.nil
            exact AllReadyH.nil
          exact AllReadyH.nil
        exact AllReadyH.nil
      case rest =>
        obtain ⟨X, rfl, HX, HXL, HBC⟩ := hcut
        clear hc0 hc1 hgl hu8
        have HS1 := Lib.hid (send_1k HW.out HBC.out 0 e0 e1 (LN.txt i) (by omega) HPL.out)
        have c0 := nd_cell (i := 0) HX.out rfl
        have c1 := nd_cell (i := 1) HX.out rfl
        have c2 := nd_cell (i := 2) HX.out rfl
        go_upto_region 10 with fail
        go_wp2_with fail
        go_at_call 15
        refine HS1.out.mono ?_
        rintro x w7 ⟨rfl, hW7, hf7⟩
        have hx7 := hf7.nd HX.out (fun h => by have := HXL.out; omega)
        have HP1 : Hid (sendP T nd i 0 e0 e1 (LN.txt i) (NP T nd a2 i) = NP T nd a2 (i + 1)) := Lib.hid (by rw [← HE0.out, ← HE1.out]; rfl)
        rw [HP1.out] at hW7
        have HW7 := Lib.hid hW7
        clear c0 c1 c2 hW7 hf7
        have c0 := nd_cell (i := 0) hx7 rfl
        have c1 := nd_cell (i := 1) hx7 rfl
        have c2 := nd_cell (i := 2) hx7 rfl
        have HX7 := Lib.hid hx7
        clear hx7
        go_upto_region 11 with fail
        go_wp2_with fail
        go_at_call 18
        refine (told_any _ _).mono ?_
        rintro x w8 ⟨rfl, hb8⟩
        clear c0 c1 c2
        go_upto_region 12 with fail
        have hb9 := bnext hb8 (balloc (Below.refl _ w8) (.cells #[.int .i64 0, .int .i64 1, .string (LN.txt i)] 31))
        have hy9 := heap_alloc_new w8 (.cells #[.int .i64 0, .int .i64 1, .string (LN.txt i)] 31)
        obtain ⟨Y, hY⟩ : ∃ Y, w8.heap.size = Y := ⟨_, rfl⟩
        obtain ⟨w9, hw9⟩ : ∃ w9, w8.alloc (.cells #[.int .i64 0, .int .i64 1, .string (LN.txt i)] 31) = w9 := ⟨_, rfl⟩
        rw [hY] at hy9
        rw [hw9] at hb9 hy9
        rw [hY, hw9]
        have HYL : Hid (w7.heap.size ≤ Y) := Lib.hid (by rw [← hY]; exact hb8.size)
        have HY := Lib.hid hY
        have HW9 := Lib.hid hw9
        have HB9 := Lib.hid hb9
        have HY9 := Lib.hid hy9
        have hx9 := (hb9.block X (Array.getElem?_eq_some_iff.1 HX7.out).1).trans HX7.out
        have c0 := nd_cell (i := 0) hx9 rfl
        have c1 := nd_cell (i := 1) hx9 rfl
        have c2 := nd_cell (i := 2) hx9 rfl
        have d0 := nd_cell (i := 0) hy9 rfl
        have d1 := nd_cell (i := 1) hy9 rfl
        have d2 := nd_cell (i := 2) hy9 rfl
        have y0 := nd_froz hy9 0
        have y1 := nd_froz hy9 1
        have y2 := nd_froz hy9 2
        clear hY hw9 hb8 hb9 hx9 hy9
        by_cases h0 : 0 ≤ e0
        · skip
          by_cases h1 : e0 < nd
          · skip
            by_cases h2 : 0 ≤ e1
            · skip
              by_cases h3 : e1 < nd
              · skip
                have g0 := h0
                have g1 := h1
                have g2 := h2
                have g3 := h3
                have hnk : nok nd (LN.en a2 i) = true := by
                  unfold nok nodeB
                  rw [HE0.out, HE1.out]
                  simp [g0, g1, g2, g3]
                have HNK := Lib.hid hnk
                clear hnk
                go_upto_region 14 with fail
                try rw [HY.out]
                try rw [HW9.out]
                obtain ⟨V, hV, hxV, hfV⟩ := set3 HY9.out (.int .i64 999) (.int .i64 999) (.string (LN.txt i))
                rw [hV]
                have q0 := nd_cell (i := 0) hxV rfl
                have q1 := nd_cell (i := 1) hxV rfl
                have q2 := nd_cell (i := 2) hxV rfl
                have HWV := Lib.hid (HW7.out.below (hfV.below w7 HB9.out (fun b hb => by rw [hb]; exact HYL.out)))
                clear c0 c1 c2 y0 y1 y2 d0 d1 d2 hV hxV hfV
                go_wp2_with fail
                go_at_call 15
                refine (send_2 HWV.out 0 999 999 (LN.txt i) (by omega) HQL.out).mono ?_
                rintro x w10 ⟨rfl, h10⟩
                have hq : sendP T 1000 i 0 999 999 (LN.txt i) (NQ T nd a2 i) = NQ T nd a2 (i + 1) := by
                  show _ = if nok nd (LN.en a2 i) = true then _ else _
                  rw [HNK.out]
                  rfl
                rw [hq] at h10
                have H10 := Lib.hid h10
                clear h10 q0 q1 q2 hq
                go_wp2
                go_roundw
                case rel => exact ⟨i + 1, by go_num, hin, by omega, H10⟩
                case measure => simp [intOf]; omega
              · skip
                have g0 := h0
                have g1 := h1
                have g2 := h2
                have g3 := h3
                have hnk : nok nd (LN.en a2 i) = false := by
                  unfold nok nodeB
                  rw [HE0.out, HE1.out]
                  simp [g0, g1, g2, g3]
                have HNK := Lib.hid hnk
                clear hnk
                go_upto_region 14 with fail
                try rw [HY.out]
                try rw [HW9.out]
                have q0 := d0
                have q1 := d1
                have q2 := d2
                have HWV := Lib.hid (HW7.out.below HB9.out)
                clear c0 c1 c2 y0 y1 y2 d0 d1 d2
                go_wp2_with fail
                go_at_call 15
                refine (send_2 HWV.out 0 0 1 (LN.txt i) (by omega) HQL.out).mono ?_
                rintro x w10 ⟨rfl, h10⟩
                have hq : sendP T 1000 i 0 0 1 (LN.txt i) (NQ T nd a2 i) = NQ T nd a2 (i + 1) := by
                  show _ = if nok nd (LN.en a2 i) = true then _ else _
                  rw [HNK.out]
                  rfl
                rw [hq] at h10
                have H10 := Lib.hid h10
                clear h10 q0 q1 q2 hq
                go_wp2
                go_roundw
                case rel => exact ⟨i + 1, by go_num, hin, by omega, H10⟩
                case measure => simp [intOf]; omega
            · skip
              have g0 := h0
              have g1 := h1
              have g2 := h2
              have hnk : nok nd (LN.en a2 i) = false := by
                unfold nok nodeB
                rw [HE0.out, HE1.out]
                simp [g0, g1, g2]
              have HNK := Lib.hid hnk
              clear hnk
              go_upto_region 14 with fail
              try rw [HY.out]
              try rw [HW9.out]
              have q0 := d0
              have q1 := d1
              have q2 := d2
              have HWV := Lib.hid (HW7.out.below HB9.out)
              clear c0 c1 c2 y0 y1 y2 d0 d1 d2
              go_wp2_with fail
              go_at_call 15
              refine (send_2 HWV.out 0 0 1 (LN.txt i) (by omega) HQL.out).mono ?_
              rintro x w10 ⟨rfl, h10⟩
              have hq : sendP T 1000 i 0 0 1 (LN.txt i) (NQ T nd a2 i) = NQ T nd a2 (i + 1) := by
                show _ = if nok nd (LN.en a2 i) = true then _ else _
                rw [HNK.out]
                rfl
              rw [hq] at h10
              have H10 := Lib.hid h10
              clear h10 q0 q1 q2 hq
              go_wp2
              go_roundw
              case rel => exact ⟨i + 1, by go_num, hin, by omega, H10⟩
              case measure => simp [intOf]; omega
          · skip
            have g0 := h0
            have g1 := h1
            have hnk : nok nd (LN.en a2 i) = false := by
              unfold nok nodeB
              rw [HE0.out, HE1.out]
              simp [g0, g1]
            have HNK := Lib.hid hnk
            clear hnk
            go_upto_region 14 with fail
            try rw [HY.out]
            try rw [HW9.out]
            have q0 := d0
            have q1 := d1
            have q2 := d2
            have HWV := Lib.hid (HW7.out.below HB9.out)
            clear c0 c1 c2 y0 y1 y2 d0 d1 d2
            go_wp2_with fail
            go_at_call 15
            refine (send_2 HWV.out 0 0 1 (LN.txt i) (by omega) HQL.out).mono ?_
            rintro x w10 ⟨rfl, h10⟩
            have hq : sendP T 1000 i 0 0 1 (LN.txt i) (NQ T nd a2 i) = NQ T nd a2 (i + 1) := by
              show _ = if nok nd (LN.en a2 i) = true then _ else _
              rw [HNK.out]
              rfl
            rw [hq] at h10
            have H10 := Lib.hid h10
            clear h10 q0 q1 q2 hq
            go_wp2
            go_roundw
            case rel => exact ⟨i + 1, by go_num, hin, by omega, H10⟩
            case measure => simp [intOf]; omega
        · skip
          have g0 := h0
          have hnk : nok nd (LN.en a2 i) = false := by
            unfold nok nodeB
            rw [HE0.out, HE1.out]
            simp [g0]
          have HNK := Lib.hid hnk
          clear hnk
          go_upto_region 14 with fail
          try rw [HY.out]
          try rw [HW9.out]
          have q0 := d0
          have q1 := d1
          have q2 := d2
          have HWV := Lib.hid (HW7.out.below HB9.out)
          clear c0 c1 c2 y0 y1 y2 d0 d1 d2
          go_wp2_with fail
          go_at_call 15
          refine (send_2 HWV.out 0 0 1 (LN.txt i) (by omega) HQL.out).mono ?_
          rintro x w10 ⟨rfl, h10⟩
          have hq : sendP T 1000 i 0 0 1 (LN.txt i) (NQ T nd a2 i) = NQ T nd a2 (i + 1) := by
            show _ = if nok nd (LN.en a2 i) = true then _ else _
            rw [HNK.out]
            rfl
          rw [hq] at h10
          have H10 := Lib.hid h10
          clear h10 q0 q1 q2 hq
          go_wp2
          go_roundw
          case rel => exact ⟨i + 1, by go_num, hin, by omega, H10⟩
          case measure => simp [intOf]; omega
    · by_cases hin2 : i < N2
      · have hii : (i : Int) < (N2 : Int) := by omega
        have hii2 : ¬ (i : Int) < 20 := by omega
        clear hin hin2
        have HSQ := Lib.hid (NQ_sn T nd a2 i)
        have HGD := Lib.hid (NQ_gd T nd a2 i)
        have hle := HSQ.out.len
        obtain ⟨Q, hQ⟩ : ∃ Q, NQ T nd a2 i = Q := ⟨_, rfl⟩
        have hres := NP_res T nd a2 i
        have HTR : Hid (TwR w w2.heap.size wr A B nd 1000 T T i i (LN.Res a2 Q) Q (.slice none 0 0) 0 (mgs a2 [])) := Lib.hid (by
          rw [← hQ, hres]
          exact HW.out.row)
        rw [hQ] at HSQ HGD hle
        clear hQ hres HW
        have hl180 : 0 + Q.length ≤ 180 := by omega
        clear hle
        obtain ⟨wz, hwz⟩ : ∃ wz, wz = wr := ⟨_, rfl⟩
        subst hwz
        go_upto_region 16 with fail
        go_loopw [11, 15] (fun v11 v15 wr => ∃ (j q : Nat) (R : List Pc) (ws : List Nat) (va : Option Addr) (vc : Nat), v11 = .slice va q vc ∧ v15 = .int .i64 (j : Int) ∧ j ≤ 200 ∧ q ≤ j ∧ j + R.length ≤ 180 ∧ Hid (ws.length = q) ∧ Hid (LN.Ord R) ∧ Hid (LN.Gd i R) ∧ Hid (∀ n ∈ ws, n < i) ∧ Hid (TwR w w2.heap.size wr A B nd 1000 T T i i (LN.Res a2 R) R (.slice va q vc) q (mgs a2 ws))) (fun _ v _ => 200 - (intOf v).toNat)
        case atStart => exact ⟨0, 0, Q, [], none, 0, rfl, rfl, by omega, by omega, hl180, Lib.hid rfl, Lib.hid HSQ.out.ord, HGD, Lib.hid (fun n h => by cases h), HTR⟩
        case round =>
          clear HTR HSQ HGD hl180
          obtain ⟨j, q, R, ws, va, vc, rfl, rfl, hj, hqj, hjl, HQW, HO, HG, HWS, HW⟩ := hrel
          have hj2 : j < 200 := by omega
          have hjj : (j : Int) < 200 := by omega
          have hrl : R.length ≤ 100000 := by omega
          by_cases hR : R = []
          · subst hR
            have HN2 := Lib.hid HW.out.none2
            go_wp2_with fail
            go_at_call 20
            refine HN2.out.mono ?_
            rintro x wa ⟨rfl, ha⟩
            have HT := Lib.hid (ha.below (balloc (Below.refl _ wa) ms0C))
            clear ha HN2
            go_upto_region 25 with fail
            obtain ⟨wy, hwy⟩ : ∃ wy, wa.alloc ms0C = wy := ⟨_, rfl⟩
            have hwy' : wa.alloc (.cells #[.int .i64 0, .int .i64 0, .string ⟨#[]⟩] 31) = wy := hwy
            rw [hwy'] at HT
            rw [hwy']
            clear hwy hwy'
            go_upto_region 26 with fail
            go_loopw [137] (fun v137 wr => ∃ h : Nat, v137 = .int .i64 (h : Int) ∧ h ≤ q ∧ Hid (Below wy.heap.size wy wr)) (fun v _ => q - (intOf v).toNat)
            case atStart => exact ⟨0, rfl, Nat.zero_le _, Lib.hid (Below.refl _ _)⟩
            case round =>
              obtain ⟨h, rfl, hh, HBY⟩ := hrel
              by_cases hhq : h < q
              · have hhk : (h : Int) < (q : Int) := by omega
                have hh0 : (0 : Int) ≤ (h : Int) := by omega
                obtain ⟨m, hm⟩ : ∃ m, ws[h]? = some m := ⟨_, List.getElem?_eq_getElem (by rw [HQW.out]; exact hhq)⟩
                have hmi : m < i := HWS.out m (List.mem_of_getElem? hm)
                have hrow := (HT.out.below HBY.out)
                obtain ⟨g9, o9, rfl, hg9, m0, m1, m2⟩ := mg_at (own_srcN hrow.row) hm hhq
                have hsE := (HE.out wr hrow.bel).src
                rw [HNN.out] at hsE
                obtain ⟨g, o, rfl, hgl, hc0, hc1⟩ := en_at hsE HNN.out (show m < N2 by omega)
                obtain ⟨e0, he0⟩ : ∃ e, (LN.en a2 m).1 = e := ⟨_, rfl⟩
                obtain ⟨e1, he1⟩ : ∃ e, (LN.en a2 m).2 = e := ⟨_, rfl⟩
                rw [he0] at hc0 m0
                rw [he1] at hc1 m1
                have hb := balloc (Below.refl _ wr) (.cells #[.int .i64 e0, .int .i64 e1, .string (LN.txt m)] 31)
                have HZ := Lib.hid (bnext HBY.out hb)
                have k0 := (hb.cell (p := ⟨g, o + m * 2, none⟩) hgl).trans hc0
                have k1 := (hb.cell (p := ⟨g, o + m * 2 + 1, none⟩) hgl).trans hc1
                clear hrow hsE he0 he1 hb hm
                go_upto_region 28 with fail
                have hz0 := txt_size m
                have hmk : (m : Int) < (N2 : Int) := by omega
                have hm0 : (0 : Int) ≤ (m : Int) := by omega
                have hm256 : m < 256 := by omega
                have HIX := Lib.hid (txt_head m hm256 hz0)
                have HWM := Lib.hid (wrap_nat m hm256)
                go_upto_region 29 with fail
                try simp only [HIX.out, HWM.out]
                have z0 : (wr.alloc (.cells #[.int .i64 e0, .int .i64 e1, .string (LN.txt m)] 31)).cell? ⟨wr.heap.size, 0, none⟩ = some (.int .i64 e0) := nd_cell (heap_alloc_new wr _) rfl
                have z1 : (wr.alloc (.cells #[.int .i64 e0, .int .i64 e1, .string (LN.txt m)] 31)).cell? ⟨wr.heap.size, 1, none⟩ = some (.int .i64 e1) := nd_cell (heap_alloc_new wr _) rfl
                obtain ⟨w7, hw7⟩ : ∃ w7, wr.alloc (.cells #[.int .i64 e0, .int .i64 e1, .string (LN.txt m)] 31) = w7 := ⟨_, rfl⟩
                obtain ⟨X, hX⟩ : ∃ X, wr.heap.size = X := ⟨_, rfl⟩
                rw [hw7] at z0 z1 k0 k1 HZ
                rw [hX] at z0 z1
                rw [hw7]
                rw [hX]
                have hdec0 : (e0 != e0) = false := by simp
                have hdec1 : (e1 != e1) = false := by simp
                have mixed : Try.prog.follows .mixedOrders = true := by kernel_rfl
                clear hw7 hX hc0 hc1 m0 m1 m2
                go_quiet (fail)
                go_wp2
                go_roundw
                case rel => exact ⟨h + 1, by go_num, hhq, Lib.hid (below_drewN HZ.out _)⟩
                case measure => simp [intOf]; omega
              · have hhk : ¬ (h : Int) < (q : Int) := by omega
                clear hhq hh
                have HN := Lib.hid (HT.out.below HBY.out).none1
                go_upto_region 32 with fail
                go_wp2_with fail
                go_at_call 20
                refine HN.out.mono ?_
                rintro x wx ⟨rfl, hx⟩
                have HX := Lib.hid (hx.below (balloc (Below.refl _ wx) ms0C)).bel
                clear hx
                go_wp2
                go_ret
                exact ⟨rfl, HX.out⟩
          · obtain ⟨p, hp⟩ := LN.bs_some hR
            have hgp := HG.out p (List.mem_of_getElem? hp)
            obtain ⟨hps, hpn0, hpni⟩ := hgp
            have HN2 := Lib.hid (HW.out.next2 HO.out hrl p hp)
            have hrpos : 0 < R.length := List.length_pos_iff.2 hR
            have hrlen : (R.eraseIdx (LN.bs R)).length + 1 = R.length := by
              rw [List.length_eraseIdx, if_pos (List.getElem?_eq_some_iff.1 hp).1]
              omega
            have hjl2 : j + 1 + (R.eraseIdx (LN.bs R)).length ≤ 180 := by omega
            have HO2 := Lib.hid (Ord.erase HO.out (LN.bs R))
            have HG2 := Lib.hid (HG.out.erase (LN.bs R))
            have HJL := Lib.hid hjl2
            have HPP := Lib.hid hp
            have HPS := Lib.hid hps
            have HPN : Hid (p.n.toNat < i) := Lib.hid (by omega)
            clear hR hp hps hpn0 hpni hrpos hrlen hjl2
            obtain ⟨pf, hpf⟩ : ∃ f, p.f = f := ⟨_, rfl⟩
            obtain ⟨po, hpo⟩ : ∃ f, p.o = f := ⟨_, rfl⟩
            obtain ⟨pt, hpt⟩ : ∃ f, p.t = f := ⟨_, rfl⟩
            obtain ⟨pn, hpn⟩ : ∃ f, p.n.toNat = f := ⟨_, rfl⟩
            have hps2 : p.s = LN.txt pn := by rw [← hpn]; exact HPS.out
            rw [hpf, hpo, hpt, hps2] at HN2
            rw [hpn] at HPN
            have HPF := Lib.hid hpf
            have HPT := Lib.hid hpt
            have HPNN := Lib.hid hpn
            have HPS2 := Lib.hid hps2
            clear hpf hpo hpt hpn hps2
            go_wp2_with fail
            go_at_call 20
            refine HN2.out.mono ?_
            rintro x wa ⟨rfl, ha⟩
            have hbx := balloc (Below.refl _ wa) (.cells #[.int .i64 pf, .int .i64 po, .string (LN.txt pn)] 31)
            have hxx := heap_alloc_new wa (.cells #[.int .i64 pf, .int .i64 po, .string (LN.txt pn)] 31)
            have q0 := nd_cell (i := 0) hxx rfl
            have q1 := nd_cell (i := 1) hxx rfl
            have q2 := nd_cell (i := 2) hxx rfl
            have HXX := Lib.hid hxx
            have HA := Lib.hid ha
            have HBX := Lib.hid hbx
            clear ha hbx hxx
            go_upto_region 20 with fail
            by_cases h9 : pf = 999
            · subst h9
              obtain ⟨hb1, hb2⟩ := LN.Res_best a2 HPP.out HPF.out
              have hn1 := HA.out.next1k HBX.out (Res_ord HO.out) (Nat.le_trans (LN.Res_len a2 R) hrl) (LN.rst a2 p) hb1
              rw [hb2] at hn1
              obtain ⟨f1, hf1⟩ : ∃ f, (LN.en a2 pn).1 = f := ⟨_, rfl⟩
              obtain ⟨o1, ho1⟩ : ∃ f, (LN.en a2 pn).2 = f := ⟨_, rfl⟩
              rw [show (LN.rst a2 p).f = f1 by rw [← hf1, ← HPNN.out]; rfl, show (LN.rst a2 p).o = o1 by rw [← ho1, ← HPNN.out]; rfl, show (LN.rst a2 p).t = pt by rw [← HPT.out]; rfl, show (LN.rst a2 p).s = LN.txt pn by rw [← HPS2.out]; rfl] at hn1
              have hmg : LN.en a2 pn = (f1, o1) := by rw [← hf1, ← ho1]
              have HMG : Hid (mgL a2 pn = [.int .i64 f1, .int .i64 o1, .string (LN.txt pn)]) := Lib.hid (by unfold mgL; rw [hmg])
              have HN1 := Lib.hid hn1
              have HQ1 : Hid ((ws ++ [pn]).length = q + 1) := Lib.hid (by rw [List.length_append, HQW.out]; rfl)
              have HWS1 : Hid (∀ n ∈ ws ++ [pn], n < i) := Lib.hid (fun n hn => (List.mem_append.1 hn).elim (HWS.out n) (fun h => by rw [List.mem_singleton.1 h]; exact HPN.out))
              clear hb1 hb2 hn1 hf1 ho1 hmg
              go_upto_region 21 with fail
              go_wp2_with fail
              go_at_call 20
              refine HN1.out.mono ?_
              rintro x wb ⟨rfl, hb, hfb⟩
              have hxb := hfb.nd HXX.out (fun h => by omega)
              have hb4 := balloc (Below.refl _ wb) (.cells #[.int .i64 f1, .int .i64 o1, .string (LN.txt pn)] 31)
              have hz4 := heap_alloc_new wb (.cells #[.int .i64 f1, .int .i64 o1, .string (LN.txt pn)] 31)
              have hx4 := (hb4.block _ (Array.getElem?_eq_some_iff.1 hxb).1).trans hxb
              have ht4 := hb.below hb4
              clear hb hfb hxb hb4 q0 q1 q2
              go_upto_region 22 with fail
              obtain ⟨Y, hY⟩ : ∃ Y, wb.heap.size = Y := ⟨_, rfl⟩
              obtain ⟨X, hX⟩ : ∃ X, wa.heap.size = X := ⟨_, rfl⟩
              obtain ⟨w4, hw4⟩ : ∃ w4, wb.alloc (.cells #[.int .i64 f1, .int .i64 o1, .string (LN.txt pn)] 31) = w4 := ⟨_, rfl⟩
              rw [hY, hw4] at hz4
              rw [hX, hw4] at hx4
              rw [hw4] at ht4
              try rw [hX]
              try rw [hY]
              try rw [hw4]
              have q0 := nd_cell (i := 0) hx4 rfl
              have q1 := nd_cell (i := 1) hx4 rfl
              have q2 := nd_cell (i := 2) hx4 rfl
              have r0 := nd_cell (i := 0) hz4 rfl
              have r1 := nd_cell (i := 1) hz4 rfl
              have r2 := nd_cell (i := 2) hz4 rfl
              have hss : ((LN.txt pn).toList == (LN.txt pn).toList) = true := by simp
              have HT4 := Lib.hid ht4
              have ht5 := ht4.below (balloc (Below.refl _ w4) (.cells #[.int .i64 f1, .int .i64 o1, .string (LN.txt pn)] 31))
              have HT5 := Lib.hid ht5
              clear hX hY hw4 hx4 hz4 ht4 ht5
              go_upto_region 24 with fail
              go_wp2_with (at_builtin; refine wpList_appN _ rfl _ _ 51 rfl 0 31 i0 _ 3 32 Try.underlying51 hi0 hz0 hz1 hz2 rfl (by decide) (.slice va q vc) q (mgs a2 ws) rfl HT5.out.row (.slice (some ⟨w4.heap.size, 0, none⟩) 1 1) 1 [.int .i64 f1, .int .i64 o1, .string (LN.txt pn)] rfl (srcN_new w4 [.int .i64 f1, .int .i64 o1, .string (LN.txt pn)] 31 3 1 1 rfl) (by simp [Value.oneCell']) (by unfold maxLen; omega) (by omega) (Nat.zero_le _) ?_; intro v6 w6 hown hgrow hat)
              rw [← HMG.out, mgs_next] at hown
              obtain ⟨oa, oc, rfl⟩ := own_shape hown
              have HX := Lib.hid (HT5.out.grew hown hgrow hat)
              clear hown hgrow hat q0 q1 q2 r0 r1 r2 hss
              go_wp2
              go_roundw
              case rel => exact ⟨j + 1, q + 1, _, ws ++ [pn], oa, oc, rfl, by go_num, hj2, by omega, HJL.out, HQ1, HO2, HG2, HWS1, HX⟩
              case measure => simp [intOf]; omega
            · have h9b : (pf == 999) = false := by simpa using h9
              have HX : Hid (TwR w w2.heap.size (wa.alloc (.cells #[.int .i64 pf, .int .i64 po, .string (LN.txt pn)] 31)) A B nd 1000 T T i i (LN.Res a2 (R.eraseIdx (LN.bs R))) (R.eraseIdx (LN.bs R)) (.slice va q vc) q (mgs a2 ws)) := Lib.hid (by
                rw [LN.Res_other a2 HPP.out (by rw [HPF.out]; exact h9)]
                exact HA.out.below HBX.out)
              go_wp2
              go_roundw
              case rel => exact ⟨j + 1, q, _, ws, va, vc, rfl, by go_num, hj2, by omega, HJL.out, HQW, HO2, HG2, HWS, HX⟩
              case measure => simp [intOf]; omega
      · have hii : ¬ (i : Int) < (N2 : Int) := by omega
        clear hin hin2
        have HSQ := Lib.hid (NQ_sn T nd a2 i)
        have HGD := Lib.hid (NQ_gd T nd a2 i)
        have hle := HSQ.out.len
        obtain ⟨Q, hQ⟩ : ∃ Q, NQ T nd a2 i = Q := ⟨_, rfl⟩
        have hres := NP_res T nd a2 i
        have HTR : Hid (TwR w w2.heap.size wr A B nd 1000 T T i i (LN.Res a2 Q) Q (.slice none 0 0) 0 (mgs a2 [])) := Lib.hid (by
          rw [← hQ, hres]
          exact HW.out.row)
        rw [hQ] at HSQ HGD hle
        clear hQ hres HW
        have hl180 : 0 + Q.length ≤ 180 := by omega
        clear hle
        obtain ⟨wz, hwz⟩ : ∃ wz, wz = wr := ⟨_, rfl⟩
        subst hwz
        go_upto_region 16 with fail
        go_loopw [11, 15] (fun v11 v15 wr => ∃ (j q : Nat) (R : List Pc) (ws : List Nat) (va : Option Addr) (vc : Nat), v11 = .slice va q vc ∧ v15 = .int .i64 (j : Int) ∧ j ≤ 200 ∧ q ≤ j ∧ j + R.length ≤ 180 ∧ Hid (ws.length = q) ∧ Hid (LN.Ord R) ∧ Hid (LN.Gd i R) ∧ Hid (∀ n ∈ ws, n < i) ∧ Hid (TwR w w2.heap.size wr A B nd 1000 T T i i (LN.Res a2 R) R (.slice va q vc) q (mgs a2 ws))) (fun _ v _ => 200 - (intOf v).toNat)
        case atStart => exact ⟨0, 0, Q, [], none, 0, rfl, rfl, by omega, by omega, hl180, Lib.hid rfl, Lib.hid HSQ.out.ord, HGD, Lib.hid (fun n h => by cases h), HTR⟩
        case round =>
          clear HTR HSQ HGD hl180
          obtain ⟨j, q, R, ws, va, vc, rfl, rfl, hj, hqj, hjl, HQW, HO, HG, HWS, HW⟩ := hrel
          have hj2 : j < 200 := by omega
          have hjj : (j : Int) < 200 := by omega
          have hrl : R.length ≤ 100000 := by omega
          by_cases hR : R = []
          · subst hR
            have HN2 := Lib.hid HW.out.none2
            go_wp2_with fail
            go_at_call 20
            refine HN2.out.mono ?_
            rintro x wa ⟨rfl, ha⟩
            have HT := Lib.hid (ha.below (balloc (Below.refl _ wa) ms0C))
            clear ha HN2
            go_upto_region 25 with fail
            obtain ⟨wy, hwy⟩ : ∃ wy, wa.alloc ms0C = wy := ⟨_, rfl⟩
            have hwy' : wa.alloc (.cells #[.int .i64 0, .int .i64 0, .string ⟨#[]⟩] 31) = wy := hwy
            rw [hwy'] at HT
            rw [hwy']
            clear hwy hwy'
            go_upto_region 26 with fail
            go_loopw [137] (fun v137 wr => ∃ h : Nat, v137 = .int .i64 (h : Int) ∧ h ≤ q ∧ Hid (Below wy.heap.size wy wr)) (fun v _ => q - (intOf v).toNat)
            case atStart => exact ⟨0, rfl, Nat.zero_le _, Lib.hid (Below.refl _ _)⟩
            case round =>
              obtain ⟨h, rfl, hh, HBY⟩ := hrel
              by_cases hhq : h < q
              · have hhk : (h : Int) < (q : Int) := by omega
                have hh0 : (0 : Int) ≤ (h : Int) := by omega
                obtain ⟨m, hm⟩ : ∃ m, ws[h]? = some m := ⟨_, List.getElem?_eq_getElem (by rw [HQW.out]; exact hhq)⟩
                have hmi : m < i := HWS.out m (List.mem_of_getElem? hm)
                have hrow := (HT.out.below HBY.out)
                obtain ⟨g9, o9, rfl, hg9, m0, m1, m2⟩ := mg_at (own_srcN hrow.row) hm hhq
                have hsE := (HE.out wr hrow.bel).src
                rw [HNN.out] at hsE
                obtain ⟨g, o, rfl, hgl, hc0, hc1⟩ := en_at hsE HNN.out (show m < N2 by omega)
                obtain ⟨e0, he0⟩ : ∃ e, (LN.en a2 m).1 = e := ⟨_, rfl⟩
                obtain ⟨e1, he1⟩ : ∃ e, (LN.en a2 m).2 = e := ⟨_, rfl⟩
                rw [he0] at hc0 m0
                rw [he1] at hc1 m1
                have hb := balloc (Below.refl _ wr) (.cells #[.int .i64 e0, .int .i64 e1, .string (LN.txt m)] 31)
                have HZ := Lib.hid (bnext HBY.out hb)
                have k0 := (hb.cell (p := ⟨g, o + m * 2, none⟩) hgl).trans hc0
                have k1 := (hb.cell (p := ⟨g, o + m * 2 + 1, none⟩) hgl).trans hc1
                clear hrow hsE he0 he1 hb hm
                go_upto_region 28 with fail
                have hz0 := txt_size m
                have hmk : (m : Int) < (N2 : Int) := by omega
                have hm0 : (0 : Int) ≤ (m : Int) := by omega
                have hm256 : m < 256 := by omega
                have HIX := Lib.hid (txt_head m hm256 hz0)
                have HWM := Lib.hid (wrap_nat m hm256)
                go_upto_region 29 with fail
                try simp only [HIX.out, HWM.out]
                have z0 : (wr.alloc (.cells #[.int .i64 e0, .int .i64 e1, .string (LN.txt m)] 31)).cell? ⟨wr.heap.size, 0, none⟩ = some (.int .i64 e0) := nd_cell (heap_alloc_new wr _) rfl
                have z1 : (wr.alloc (.cells #[.int .i64 e0, .int .i64 e1, .string (LN.txt m)] 31)).cell? ⟨wr.heap.size, 1, none⟩ = some (.int .i64 e1) := nd_cell (heap_alloc_new wr _) rfl
                obtain ⟨w7, hw7⟩ : ∃ w7, wr.alloc (.cells #[.int .i64 e0, .int .i64 e1, .string (LN.txt m)] 31) = w7 := ⟨_, rfl⟩
                obtain ⟨X, hX⟩ : ∃ X, wr.heap.size = X := ⟨_, rfl⟩
                rw [hw7] at z0 z1 k0 k1 HZ
                rw [hX] at z0 z1
                rw [hw7]
                rw [hX]
                have hdec0 : (e0 != e0) = false := by simp
                have hdec1 : (e1 != e1) = false := by simp
                have mixed : Try.prog.follows .mixedOrders = true := by kernel_rfl
                clear hw7 hX hc0 hc1 m0 m1 m2
                go_quiet (fail)
                go_wp2
                go_roundw
                case rel => exact ⟨h + 1, by go_num, hhq, Lib.hid (below_drewN HZ.out _)⟩
                case measure => simp [intOf]; omega
              · have hhk : ¬ (h : Int) < (q : Int) := by omega
                clear hhq hh
                have HN := Lib.hid (HT.out.below HBY.out).none1
                go_upto_region 32 with fail
                go_wp2_with fail
                go_at_call 20
                refine HN.out.mono ?_
                rintro x wx ⟨rfl, hx⟩
                have HX := Lib.hid (hx.below (balloc (Below.refl _ wx) ms0C)).bel
                clear hx
                go_wp2
                go_ret
                exact ⟨rfl, HX.out⟩
          · obtain ⟨p, hp⟩ := LN.bs_some hR
            have hgp := HG.out p (List.mem_of_getElem? hp)
            obtain ⟨hps, hpn0, hpni⟩ := hgp
            have HN2 := Lib.hid (HW.out.next2 HO.out hrl p hp)
            have hrpos : 0 < R.length := List.length_pos_iff.2 hR
            have hrlen : (R.eraseIdx (LN.bs R)).length + 1 = R.length := by
              rw [List.length_eraseIdx, if_pos (List.getElem?_eq_some_iff.1 hp).1]
              omega
            have hjl2 : j + 1 + (R.eraseIdx (LN.bs R)).length ≤ 180 := by omega
            have HO2 := Lib.hid (Ord.erase HO.out (LN.bs R))
            have HG2 := Lib.hid (HG.out.erase (LN.bs R))
            have HJL := Lib.hid hjl2
            have HPP := Lib.hid hp
            have HPS := Lib.hid hps
            have HPN : Hid (p.n.toNat < i) := Lib.hid (by omega)
            clear hR hp hps hpn0 hpni hrpos hrlen hjl2
            obtain ⟨pf, hpf⟩ : ∃ f, p.f = f := ⟨_, rfl⟩
            obtain ⟨po, hpo⟩ : ∃ f, p.o = f := ⟨_, rfl⟩
            obtain ⟨pt, hpt⟩ : ∃ f, p.t = f := ⟨_, rfl⟩
            obtain ⟨pn, hpn⟩ : ∃ f, p.n.toNat = f := ⟨_, rfl⟩
            have hps2 : p.s = LN.txt pn := by rw [← hpn]; exact HPS.out
            rw [hpf, hpo, hpt, hps2] at HN2
            rw [hpn] at HPN
            have HPF := Lib.hid hpf
            have HPT := Lib.hid hpt
            have HPNN := Lib.hid hpn
            have HPS2 := Lib.hid hps2
            clear hpf hpo hpt hpn hps2
            go_wp2_with fail
            go_at_call 20
            refine HN2.out.mono ?_
            rintro x wa ⟨rfl, ha⟩
            have hbx := balloc (Below.refl _ wa) (.cells #[.int .i64 pf, .int .i64 po, .string (LN.txt pn)] 31)
            have hxx := heap_alloc_new wa (.cells #[.int .i64 pf, .int .i64 po, .string (LN.txt pn)] 31)
            have q0 := nd_cell (i := 0) hxx rfl
            have q1 := nd_cell (i := 1) hxx rfl
            have q2 := nd_cell (i := 2) hxx rfl
            have HXX := Lib.hid hxx
            have HA := Lib.hid ha
            have HBX := Lib.hid hbx
            clear ha hbx hxx
            go_upto_region 20 with fail
            by_cases h9 : pf = 999
            · subst h9
              obtain ⟨hb1, hb2⟩ := LN.Res_best a2 HPP.out HPF.out
              have hn1 := HA.out.next1k HBX.out (Res_ord HO.out) (Nat.le_trans (LN.Res_len a2 R) hrl) (LN.rst a2 p) hb1
              rw [hb2] at hn1
              obtain ⟨f1, hf1⟩ : ∃ f, (LN.en a2 pn).1 = f := ⟨_, rfl⟩
              obtain ⟨o1, ho1⟩ : ∃ f, (LN.en a2 pn).2 = f := ⟨_, rfl⟩
              rw [show (LN.rst a2 p).f = f1 by rw [← hf1, ← HPNN.out]; rfl, show (LN.rst a2 p).o = o1 by rw [← ho1, ← HPNN.out]; rfl, show (LN.rst a2 p).t = pt by rw [← HPT.out]; rfl, show (LN.rst a2 p).s = LN.txt pn by rw [← HPS2.out]; rfl] at hn1
              have hmg : LN.en a2 pn = (f1, o1) := by rw [← hf1, ← ho1]
              have HMG : Hid (mgL a2 pn = [.int .i64 f1, .int .i64 o1, .string (LN.txt pn)]) := Lib.hid (by unfold mgL; rw [hmg])
              have HN1 := Lib.hid hn1
              have HQ1 : Hid ((ws ++ [pn]).length = q + 1) := Lib.hid (by rw [List.length_append, HQW.out]; rfl)
              have HWS1 : Hid (∀ n ∈ ws ++ [pn], n < i) := Lib.hid (fun n hn => (List.mem_append.1 hn).elim (HWS.out n) (fun h => by rw [List.mem_singleton.1 h]; exact HPN.out))
              clear hb1 hb2 hn1 hf1 ho1 hmg
              go_upto_region 21 with fail
              go_wp2_with fail
              go_at_call 20
              refine HN1.out.mono ?_
              rintro x wb ⟨rfl, hb, hfb⟩
              have hxb := hfb.nd HXX.out (fun h => by omega)
              have hb4 := balloc (Below.refl _ wb) (.cells #[.int .i64 f1, .int .i64 o1, .string (LN.txt pn)] 31)
              have hz4 := heap_alloc_new wb (.cells #[.int .i64 f1, .int .i64 o1, .string (LN.txt pn)] 31)
              have hx4 := (hb4.block _ (Array.getElem?_eq_some_iff.1 hxb).1).trans hxb
              have ht4 := hb.below hb4
              clear hb hfb hxb hb4 q0 q1 q2
              go_upto_region 22 with fail
              obtain ⟨Y, hY⟩ : ∃ Y, wb.heap.size = Y := ⟨_, rfl⟩
              obtain ⟨X, hX⟩ : ∃ X, wa.heap.size = X := ⟨_, rfl⟩
              obtain ⟨w4, hw4⟩ : ∃ w4, wb.alloc (.cells #[.int .i64 f1, .int .i64 o1, .string (LN.txt pn)] 31) = w4 := ⟨_, rfl⟩
              rw [hY, hw4] at hz4
              rw [hX, hw4] at hx4
              rw [hw4] at ht4
              try rw [hX]
              try rw [hY]
              try rw [hw4]
              have q0 := nd_cell (i := 0) hx4 rfl
              have q1 := nd_cell (i := 1) hx4 rfl
              have q2 := nd_cell (i := 2) hx4 rfl
              have r0 := nd_cell (i := 0) hz4 rfl
              have r1 := nd_cell (i := 1) hz4 rfl
              have r2 := nd_cell (i := 2) hz4 rfl
              have hss : ((LN.txt pn).toList == (LN.txt pn).toList) = true := by simp
              have HT4 := Lib.hid ht4
              have ht5 := ht4.below (balloc (Below.refl _ w4) (.cells #[.int .i64 f1, .int .i64 o1, .string (LN.txt pn)] 31))
              have HT5 := Lib.hid ht5
              clear hX hY hw4 hx4 hz4 ht4 ht5
              go_upto_region 24 with fail
              go_wp2_with (at_builtin; refine wpList_appN _ rfl _ _ 51 rfl 0 31 i0 _ 3 32 Try.underlying51 hi0 hz0 hz1 hz2 rfl (by decide) (.slice va q vc) q (mgs a2 ws) rfl HT5.out.row (.slice (some ⟨w4.heap.size, 0, none⟩) 1 1) 1 [.int .i64 f1, .int .i64 o1, .string (LN.txt pn)] rfl (srcN_new w4 [.int .i64 f1, .int .i64 o1, .string (LN.txt pn)] 31 3 1 1 rfl) (by simp [Value.oneCell']) (by unfold maxLen; omega) (by omega) (Nat.zero_le _) ?_; intro v6 w6 hown hgrow hat)
              rw [← HMG.out, mgs_next] at hown
              obtain ⟨oa, oc, rfl⟩ := own_shape hown
              have HX := Lib.hid (HT5.out.grew hown hgrow hat)
              clear hown hgrow hat q0 q1 q2 r0 r1 r2 hss
              go_wp2
              go_roundw
              case rel => exact ⟨j + 1, q + 1, _, ws ++ [pn], oa, oc, rfl, by go_num, hj2, by omega, HJL.out, HQ1, HO2, HG2, HWS1, HX⟩
              case measure => simp [intOf]; omega
            · have h9b : (pf == 999) = false := by simpa using h9
              have HX : Hid (TwR w w2.heap.size (wa.alloc (.cells #[.int .i64 pf, .int .i64 po, .string (LN.txt pn)] 31)) A B nd 1000 T T i i (LN.Res a2 (R.eraseIdx (LN.bs R))) (R.eraseIdx (LN.bs R)) (.slice va q vc) q (mgs a2 ws)) := Lib.hid (by
                rw [LN.Res_other a2 HPP.out (by rw [HPF.out]; exact h9)]
                exact HA.out.below HBX.out)
              go_wp2
              go_roundw
              case rel => exact ⟨j + 1, q, _, ws, va, vc, rfl, by go_num, hj2, by omega, HJL.out, HQW, HO2, HG2, HWS, HX⟩
              case measure => simp [intOf]; omega

set_option maxRecDepth 100000 in
theorem lifted (os : Os) (started : os.Started) (H : Type) (enc : TypeId × Value → H) :
    ReturnsInHanded {} Try.checked os 6 .any (Rows.linesNodesSpec.pre6 enc Try.prog Try.f6 Rows.linesNodesRow.domain false) (Rows.linesNodesSpec.post enc Try.prog Try.f6 false true false false) := by
  refine returnsInHanded_of_change (C := Try.checked) own started (by kernel_rfl) Try.func6
    (ChangeSpec.witness6 (enc := enc) (C := Try.checked) false ⟨#[], #[.int .u8 0, .slice none 0 0, .slice none 0 0], []⟩ 8 (by kernel_rfl) (by kernel_rfl) (by kernel_rfl) (by kernel_rfl)) ?_
  intro W base args ds gs before hval0 hW hcnd _
  have hval : ∀ (j : Nat) t v, Try.f6.params[j]? = some t → args[j]? = some v → Value.okWide Try.prog W .any base t v := hval0
  have hW' := hW
  obtain ⟨p, q, hA0, hV, rfl, hfz, hnd⟩ := hW
  have hA : DataW.TrodAll enc Try.prog W 0 (fun _ => true) true Try.f6.params.toList args.toList ds p := hA0
  rw [Try.params6] at hA hval
  obtain ⟨v0, vs0, d0, ds0, p0, q0, hargs, rfl, rfl, h0, r0⟩ := trodAll_cons hA
  obtain ⟨v1, vs1, d1, ds1, p1, q1, rfl, rfl, rfl, h1, r1⟩ := trodAll_cons r0
  obtain ⟨v2, vs2, d2, ds2, p2, q2, rfl, rfl, rfl, h2, r2⟩ := trodAll_cons r1
  obtain ⟨rfl, rfl, rfl⟩ := trodAll_nil r2
  obtain rfl : args = #[v0, v1, v2] := by cases args; simp_all
  obtain ⟨rfl, rfl⟩ := trodVars_none hV
  have k0 := h0
  have lt0 : ∀ x ∈ p0, x.block < W.heap.size := by obtain ⟨m, hm⟩ := k0; exact DataW.trod_lt m _ _ _ hm
  have k1 := h1
  have lt1 : ∀ x ∈ p1, x.block < W.heap.size := by obtain ⟨m, hm⟩ := k1; exact DataW.trod_lt m _ _ _ hm
  have k2 := h2
  have lt2 : ∀ x ∈ p2, x.block < W.heap.size := by obtain ⟨m, hm⟩ := k2; exact DataW.trod_lt m _ _ _ hm
  obtain ⟨a0, rfl, rfl, rfl, wa0⟩ := open_int Try.underlying5 (hval 0 5 v0 rfl rfl) h0
  obtain ⟨a1, H1⟩ := open_trs (hval 1 22 v1 rfl rfl) h1
  obtain ⟨a2, H2⟩ := open_ends (hval 2 50 v2 rfl rfl) h2
  clear hA0 hval0
  refine (walk a0 v1 a1 v2 a2 wa0 W H1 H2).mono fun e W' ⟨he, bel⟩ => ?_
  subst he
  exact ⟨_, rfl, _, _, _, [], _, [], hW', trodAll_mk1 (shut_bool Try.underlying4 _), (trodAll_cons_mk (Below.trod laidOut (by kernel_rfl) (of_decide_eq_true (by kernel_rfl)) k0 bel lt0) (trodAll_cons_mk (Below.trod laidOut (by kernel_rfl) (of_decide_eq_true (by kernel_rfl)) k1 bel lt1) (trodAll_cons_mk (Below.trod laidOut (by kernel_rfl) (of_decide_eq_true (by kernel_rfl)) k2 bel lt2) trodAll_mk0))), rfl, bel.frame _, fun h => by cases h⟩

theorem over : Rows.linesNodesRow.holds Try.pinned (OpenSpec.ofChange Rows.linesNodesSpec) :=
  OpenClaim.holds_of_wide 6 Try.f6 rfl rfl rfl rfl rfl rfl rfl ⟨rfl, rfl, rfl, rfl, rfl⟩ rfl rfl rfl rfl rfl (by kernel_rfl) Try.func6 (by kernel_rfl)
    (of_decide_eq_true (by kernel_rfl)) (by unfold Func.isWrapper; first | (rw [if_pos (by decide +kernel)]; kernel_rfl) | (rw [if_neg (by decide +kernel)]; exact ⟨rfl, rfl⟩))
    (fun os started H enc _ => lifted os started H enc)

end Go.Proofs.Ytgphdgalcbcamaa.linesNodes
namespace Go.Proofs.Ytgphdgalcbcamaa
theorem linesNodes_proved : Rows.LinesNodesSaid := linesNodes.over
#print axioms linesNodes_proved
end Go.Proofs.Ytgphdgalcbcamaa
