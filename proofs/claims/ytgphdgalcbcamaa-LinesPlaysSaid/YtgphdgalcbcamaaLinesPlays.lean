/- For every number of nodes, all scripts and all acts LinesPlays returns true: the messages are those of the reference implementation. No conditions. -/
import Derived.Test.YtgphdgalcbcamaaLn19
namespace Go.Proofs.Ytgphdgalcbcamaa.linesPlays
open Go.ChangeShapes Go.WideShapes Go.ChangeAt Go.RowKit Go.Joins Go.Deep
set_option linter.unusedVariables false

set_option maxRecDepth 100000 in
set_option maxHeartbeats 8000000 in
theorem walk (a0 : Int) (v1 : Value) (a1 : List Tr) (v2 : Value) (a2 : List LAc) (wa0 : (Lit.int .i64 a0).wf = true) (w : World) (H1 : TrArg w v1 a1) (H2 : LAcArg w v2 a2) :
    Calls Try.prog 3 #[.int .i64 a0, v1, v2] w fun e w' => e = .returned (.bool true) ∧ Below w.heap.size w w' := by
  have HM : Hid (∀ V, Below w.heap.size w V → TrArg V v1 a1) := Lib.hid fun V hV => H1.keep hV
  have HA : Hid (∀ V, Below w.heap.size w V → LAcArg V v2 a2) := Lib.hid fun V hV => H2.keep hV
  obtain ⟨ya, yc, hy, -⟩ := H2.src
  subst hy
  obtain ⟨N, hN⟩ : ∃ N, a2.length = N := ⟨_, rfl⟩
  rw [hN] at HA ⊢
  have hNl : N ≤ maxLen := by rw [← hN]; exact H2.len
  unfold maxLen at hNl
  have HNN := Lib.hid hN
  clear H1 H2 hN
  go_enter Try.func3, Try.ntmps3
  go_wp2_with fail
  refine (sanity_any _).mono ?_
  rintro e w2 ⟨rfl, k2⟩
  have HB2 := Lib.hid k2
  clear k2
  obtain ⟨T, hT⟩ : ∃ T, a1.take 40 = T := ⟨_, rfl⟩
  obtain ⟨v', hsh, hsrc⟩ := short_any w2 v1 a1 (HM.out _ HB2.out)
  rw [hT] at hsrc
  obtain ⟨n, hn⟩ : ∃ n, T.length = n := ⟨_, rfl⟩
  have hn40 : n ≤ 40 := by rw [← hn, ← hT, List.length_take]; omega
  rw [hn] at hsrc
  have HSH := Lib.hid hsh
  have HNT := Lib.hid hn
  have HN1 := Lib.hid (new_any w2 a0 v' T n hn (by omega) hsrc)
  clear hsh hsrc hn
  go_upto_region 2 with fail
  go_wp2_with fail
  go_at_call 12
  refine HSH.out.mono ?_
  rintro x wx ⟨rfl, he⟩
  have he' := he.symm
  subst he'
  go_wp2_with fail
  go_at_call 11
  refine HN1.out.mono ?_
  rintro x w5 ⟨A, rfl, hla, hb5⟩
  have HLA := Lib.hid hla
  have HB5 := Lib.hid hb5
  clear hla hb5
  obtain ⟨v'', hsh, hsrc⟩ := short_any w5 v1 a1 (HM.out _ (bnext HB2.out HB5.out))
  rw [hT, HNT.out] at hsrc
  have HSH2 := Lib.hid hsh
  have HN2 := Lib.hid (rnew_any w5 a0 v'' T n HNT.out (by omega) hsrc)
  clear hsh hsrc hT
  go_wp2_with fail
  go_at_call 12
  refine HSH2.out.mono ?_
  rintro x wx ⟨rfl, he⟩
  have he' := he.symm
  subst he'
  go_wp2_with fail
  go_at_call 13
  refine HN2.out.mono ?_
  rintro x w6 ⟨B, rfl, hlb, hb6⟩
  have HTW : Hid (Both w w2.heap.size w6 A B a0 T 0 0 [] []) := Lib.hid ⟨_, _, HLA.out.below hb6, hlb, fun b h1 h2 => by omega, fun b h => h.1, fun b h => Nat.le_trans HB5.out.size h.1, bnext (bnext HB2.out HB5.out) hb6, HB2.out.size⟩
  clear hlb hb6
  go_upto_region 4 with fail
  go_loopw [10] (fun v10 wr => ∃ (i k : Nat) (P : List Pc), v10 = .int .i64 (i : Int) ∧ i ≤ N ∧ i ≤ 60 ∧ k ≤ i ∧ Hid (Sn P k) ∧ Hid (Both w w2.heap.size wr A B a0 T k k P P)) (fun v _ => N - (intOf v).toNat)
  case atStart => exact ⟨0, 0, [], rfl, by omega, by omega, Nat.le_refl _, Lib.hid Sn.nil, HTW⟩
  case round =>
    obtain ⟨i, k, P, rfl, hi, hi60, hki, HSN, HW⟩ := hrel
    have HPL : Hid (P.length ≤ 90000) := Lib.hid (by have := HSN.out.len; omega)
    by_cases hin : i < N ∧ i < 60
    · obtain ⟨hin, hi2⟩ := hin
      have hii : (i : Int) < (N : Int) := by omega
      have hii2 : (i : Int) < 60 := by omega
      have hi0' : (0 : Int) ≤ (i : Int) := by omega
      obtain ⟨t, ht⟩ : ∃ t, a2[i]? = some t := ⟨_, List.getElem?_eq_getElem (by rw [HNN.out]; exact hin)⟩
      have HCX : Hid (∃ g o, ya = some ⟨g, o, none⟩ ∧ ∀ V, Below w.heap.size w V → V.cell? ⟨g, o + i * 5, none⟩ = some (.bool t.l) ∧ V.cell? ⟨g, o + i * 5 + 1, none⟩ = some (.int .i64 t.a) ∧ V.cell? ⟨g, o + i * 5 + 2, none⟩ = some (.int .i64 t.f) ∧ V.cell? ⟨g, o + i * 5 + 3, none⟩ = some (.int .i64 t.o) ∧ V.cell? ⟨g, o + i * 5 + 4, none⟩ = some (.string t.s)) := Lib.hid (by
        have hs := (HA.out w (Below.refl _ _)).src
        rw [HNN.out] at hs
        obtain ⟨g, o, e, hg, c0, c1, c2, c3, c4⟩ := lac_at hs HNN.out ht
        exact ⟨g, o, e, fun V hV => ⟨(hV.cell (p := ⟨g, o + i * 5, none⟩) hg).trans c0, (hV.cell (p := ⟨g, o + i * 5 + 1, none⟩) hg).trans c1, (hV.cell (p := ⟨g, o + i * 5 + 2, none⟩) hg).trans c2, (hV.cell (p := ⟨g, o + i * 5 + 3, none⟩) hg).trans c3, (hV.cell (p := ⟨g, o + i * 5 + 4, none⟩) hg).trans c4⟩⟩)
      obtain ⟨g, o, rfl, hcs⟩ := HCX.out
      obtain ⟨tl, htl⟩ : ∃ x, t.l = x := ⟨_, rfl⟩
      obtain ⟨ta, hta⟩ : ∃ x, t.a = x := ⟨_, rfl⟩
      obtain ⟨tf, htf⟩ : ∃ x, t.f = x := ⟨_, rfl⟩
      obtain ⟨tq, hto⟩ : ∃ x, t.o = x := ⟨_, rfl⟩
      obtain ⟨ts, hts⟩ : ∃ x, t.s = x := ⟨_, rfl⟩
      rw [htl, hta, htf, hto, hts] at hcs
      obtain ⟨q, hq⟩ : ∃ q, o + i * 5 = q := ⟨_, rfl⟩
      rw [hq] at hcs
      have HCL : Hid (∀ V, Below w.heap.size w V → V.cell? ⟨g, q + 1, none⟩ = some (.int .i64 ta) ∧ V.cell? ⟨g, q + 2, none⟩ = some (.int .i64 tf) ∧ V.cell? ⟨g, q + 3, none⟩ = some (.int .i64 tq) ∧ V.cell? ⟨g, q + 4, none⟩ = some (.string ts)) := Lib.hid fun V hV => (hcs V hV).2
      have c0 := (hcs wr HW.out.bel).1
      have HQ := Lib.hid hq
      have mixed : Try.prog.follows .mixedOrders = true := by kernel_rfl
      clear hcs ht htl hta htf hto hts HCX
      cases tl with
      | true =>
        rw [← hq] at c0
        clear hq
        have HS := Lib.hid (same_any HW.out HSN.out.ord (by have := HPL.out; omega))
        have HSN2 : Hid (Sn (P.eraseIdx (LN.bs P)) k) := Lib.hid ⟨Ord.erase HSN.out.ord _, fun p hp => HSN.out.lt p (List.mem_of_mem_eraseIdx hp), Nat.le_trans (len_erase _ _) HSN.out.len⟩
        go_upto_region 7 with fail
        go_wp2_with fail
        go_at_call 14
        refine HS.out.mono ?_
        rintro x wx ⟨rfl, hx⟩
        have HX := Lib.hid hx
        clear hx c0
        go_wp2
        go_roundw
        case rel => exact ⟨i + 1, k, _, by go_num, hin, by omega, by omega, HSN2, HX⟩
        case measure => simp [intOf]; omega
      | false =>
        go_upto_region 9 with fail
        clear c0
        have HWD0 := Below.drew (Below.refl wr.heap.size wr)
        obtain ⟨W0, hW0⟩ : ∃ W0, wr.drew = W0 := ⟨_, rfl⟩
        rw [hW0] at HWD0
        have HWD := Lib.hid HWD0
        have HW0 := Lib.hid hW0
        clear HWD0 hW0
        refine wp_region_held_drew (S := (fun w' => w'.cell? ⟨g, q + 1, none⟩ = some (.int .i64 ta) ∧ w'.cell? ⟨g, q + 2, none⟩ = some (.int .i64 tf) ∧ w'.cell? ⟨g, q + 3, none⟩ = some (.int .i64 tq) ∧ w'.cell? ⟨g, q + 4, none⟩ = some (.string ts))) (by kernel_rfl) ?_ (fun hHeld => ?_)
        · (rw [HW0.out]; exact HCL.out _ (bnext HW.out.bel HWD.out))
        rw [HW0.out] at hHeld ⊢
        refine wpAnyH_take (i := 0) (oi := { dst := some 40, op := Op.move (Operand.tmp 8), type := 25, pos := "law.go:65", after := #[], guard := none }) (v := ?_) rfl (by kernel_rfl) (by kernel_rfl) (by kernel_rfl) (fun _ _ _ h => h) (Or.inl ⟨by rfl, ?_⟩) (by assumption) ?_
        rotate_left
        · ((intro w hSw; (try dsimp only at hSw); go_simp; (try rw [if_neg (by omega)])); try with_reducible rfl)
        (try simp only [Act.put, List.setIfInBounds_toArray, List.set_cons_zero, List.set_cons_succ])
        refine wpAnyH_take (i := 1) (oi := { dst := some 41, op := Op.move (Operand.tmp 2), type := 23, pos := "law.go:65", after := #[], guard := none }) (v := ?_) rfl (by kernel_rfl) (by kernel_rfl) (by kernel_rfl) (fun _ _ _ h => h) (Or.inl ⟨by rfl, ?_⟩) (by assumption) ?_
        rotate_left
        · ((intro w hSw; (try dsimp only at hSw); go_simp; (try rw [if_neg (by omega)])); try with_reducible rfl)
        (try simp only [Act.put, List.setIfInBounds_toArray, List.set_cons_zero, List.set_cons_succ])
        refine wpAnyH_take (i := 2) (oi := { dst := some 42, op := Op.move (Operand.tmp 10), type := 3, pos := "law.go:65", after := #[], guard := none }) (v := ?_) rfl (by kernel_rfl) (by kernel_rfl) (by kernel_rfl) (fun _ _ _ h => h) (Or.inl ⟨by rfl, ?_⟩) (by assumption) ?_
        rotate_left
        · ((intro w hSw; (try dsimp only at hSw); go_simp; (try rw [if_neg (by omega)])); try with_reducible rfl)
        (try simp only [Act.put, List.setIfInBounds_toArray, List.set_cons_zero, List.set_cons_succ])
        refine wpAnyH_take (i := 3) (oi := { dst := some 43, op := Op.indexAddr 23 (Operand.tmp 41) (Operand.tmp 42), type := 0, pos := "law.go:65", after := #[{ on := 1, ground := Ground.data }, { on := 2, ground := Ground.data }], guard := none }) (v := ?_) rfl (by kernel_rfl) (by kernel_rfl) (by kernel_rfl) (fun _ _ _ h => h) (Or.inl ⟨by rfl, ?_⟩) (by assumption) ?_
        rotate_left
        · ((intro w hSw; (try dsimp only at hSw); go_simp; (try rw [if_neg (by omega)])); try with_reducible rfl)
        (try simp only [Act.put, List.setIfInBounds_toArray, List.set_cons_zero, List.set_cons_succ])
        refine wpAnyH_take (i := 4) (oi := { dst := some 44, op := Op.fieldAddr 33 (Operand.tmp 43) 1, type := 0, pos := "law.go:65", after := #[{ on := 3, ground := Ground.data }], guard := none }) (v := ?_) rfl (by kernel_rfl) (by kernel_rfl) (by kernel_rfl) (fun _ _ _ h => h) (Or.inl ⟨by rfl, ?_⟩) (by assumption) ?_
        rotate_left
        · ((intro w hSw; (try dsimp only at hSw); go_simp; (try rw [if_neg (by omega)])); try with_reducible rfl)
        (try simp only [Act.put, List.setIfInBounds_toArray, List.set_cons_zero, List.set_cons_succ])
        refine wpAnyH_take (i := 5) (oi := { dst := some 45, op := Op.load 3 (Operand.tmp 44), type := 3, pos := "law.go:65", after := #[{ on := 4, ground := Ground.data }], guard := none }) (v := ?_) rfl (by kernel_rfl) (by kernel_rfl) (by kernel_rfl) (fun _ _ _ h => h) (Or.inl ⟨by rfl, ?_⟩) (by assumption) ?_
        rotate_left
        · ((intro w hSw; (try dsimp only at hSw); go_simp; (try rw [if_neg (by omega)])); try with_reducible rfl)
        (try simp only [Act.put, List.setIfInBounds_toArray, List.set_cons_zero, List.set_cons_succ])
        refine wpAnyH_take (i := 6) (oi := { dst := some 46, op := Op.move (Operand.tmp 2), type := 23, pos := "law.go:65", after := #[], guard := none }) (v := ?_) rfl (by kernel_rfl) (by kernel_rfl) (by kernel_rfl) (fun _ _ _ h => h) (Or.inl ⟨by rfl, ?_⟩) (by assumption) ?_
        rotate_left
        · ((intro w hSw; (try dsimp only at hSw); go_simp; (try rw [if_neg (by omega)])); try with_reducible rfl)
        (try simp only [Act.put, List.setIfInBounds_toArray, List.set_cons_zero, List.set_cons_succ])
        refine wpAnyH_take (i := 7) (oi := { dst := some 47, op := Op.move (Operand.tmp 10), type := 3, pos := "law.go:65", after := #[], guard := none }) (v := ?_) rfl (by kernel_rfl) (by kernel_rfl) (by kernel_rfl) (fun _ _ _ h => h) (Or.inl ⟨by rfl, ?_⟩) (by assumption) ?_
        rotate_left
        · ((intro w hSw; (try dsimp only at hSw); go_simp; (try rw [if_neg (by omega)])); try with_reducible rfl)
        (try simp only [Act.put, List.setIfInBounds_toArray, List.set_cons_zero, List.set_cons_succ])
        refine wpAnyH_take (i := 8) (oi := { dst := some 48, op := Op.indexAddr 23 (Operand.tmp 46) (Operand.tmp 47), type := 0, pos := "law.go:65", after := #[{ on := 6, ground := Ground.data }, { on := 7, ground := Ground.data }], guard := none }) (v := ?_) rfl (by kernel_rfl) (by kernel_rfl) (by kernel_rfl) (fun _ _ _ h => h) (Or.inl ⟨by rfl, ?_⟩) (by assumption) ?_
        rotate_left
        · ((intro w hSw; (try dsimp only at hSw); go_simp; (try rw [if_neg (by omega)])); try with_reducible rfl)
        (try simp only [Act.put, List.setIfInBounds_toArray, List.set_cons_zero, List.set_cons_succ])
        refine wpAnyH_take (i := 9) (oi := { dst := some 49, op := Op.fieldAddr 33 (Operand.tmp 48) 2, type := 0, pos := "law.go:65", after := #[{ on := 8, ground := Ground.data }], guard := none }) (v := ?_) rfl (by kernel_rfl) (by kernel_rfl) (by kernel_rfl) (fun _ _ _ h => h) (Or.inl ⟨by rfl, ?_⟩) (by assumption) ?_
        rotate_left
        · ((intro w hSw; (try dsimp only at hSw); go_simp; (try rw [if_neg (by omega)])); try with_reducible rfl)
        (try simp only [Act.put, List.setIfInBounds_toArray, List.set_cons_zero, List.set_cons_succ])
        refine wpAnyH_take (i := 10) (oi := { dst := some 50, op := Op.load 31 (Operand.tmp 49), type := 31, pos := "law.go:65", after := #[{ on := 9, ground := Ground.data }], guard := none }) (v := ?_) rfl (by kernel_rfl) (by kernel_rfl) (by kernel_rfl) (fun _ _ _ h => h) (Or.inl ⟨by rfl, ?_⟩) (by assumption) ?_
        rotate_left
        · ((intro w hSw; (try dsimp only at hSw); go_simp; (try rw [if_neg (by omega)])); try with_reducible rfl)
        (try simp only [Act.put, List.setIfInBounds_toArray, List.set_cons_zero, List.set_cons_succ])
        refine wpAnyH_ready (rs := [11]) (by kernel_rfl) (by simp) ?_
        refine AllReadyH.cons (o := { dst := some 51, op := Op.call { callee := Callee.value (Operand.func 15), args := #[Operand.tmp 40, Operand.tmp 45, Operand.tmp 50], argTypes := #[25, 3, 31] }, type := 0, pos := "law.go:65", after := #[{ on := 0, ground := Ground.data }, { on := 5, ground := Ground.data }, { on := 10, ground := Ground.data }], guard := none }) rfl (fun K hK => ?_) ?_
        · (go_simp; go_at_call 15; refine ((HW.out.below HWD.out).send ta tf tq ts (by omega) HPL.out).mono ?_; rintro u wz ⟨rfl, hz⟩; have bz := hz.bel; dsimp only)
          refine hK.out _ _ ?_ (fun hHeld => ?_)
          · exact HCL.out _ bz
          clear hK K
          (try simp only [Act.put, List.setIfInBounds_toArray, List.set_cons_zero, List.set_cons_succ])
          refine wpAnyH_done (by kernel_rfl) ?_ _
          have H9 := Lib.hid hz
          clear hz bz hHeld HWD HW0
          go_upto_region 10 with fail
          have HWD0 := Below.drew (Below.refl wz.heap.size wz)
          obtain ⟨W0, hW0⟩ : ∃ W0, wz.drew = W0 := ⟨_, rfl⟩
          rw [hW0] at HWD0
          have HWD := Lib.hid HWD0
          have HW0 := Lib.hid hW0
          clear HWD0 hW0
          refine wp_region_held_drew (S := (fun w' => w'.cell? ⟨g, q + 1, none⟩ = some (.int .i64 ta) ∧ w'.cell? ⟨g, q + 2, none⟩ = some (.int .i64 tf) ∧ w'.cell? ⟨g, q + 3, none⟩ = some (.int .i64 tq) ∧ w'.cell? ⟨g, q + 4, none⟩ = some (.string ts))) (by kernel_rfl) ?_ (fun hHeld => ?_)
          · (rw [HW0.out]; exact HCL.out _ (bnext H9.out.bel HWD.out))
          rw [HW0.out] at hHeld ⊢
          refine wpAnyH_take (i := 0) (oi := { dst := some 52, op := Op.move (Operand.tmp 9), type := 28, pos := "law.go:66", after := #[], guard := none }) (v := ?_) rfl (by kernel_rfl) (by kernel_rfl) (by kernel_rfl) (fun _ _ _ h => h) (Or.inl ⟨by rfl, ?_⟩) (by assumption) ?_
          rotate_left
          · ((intro w hSw; (try dsimp only at hSw); go_simp; (try rw [if_neg (by omega)])); try with_reducible rfl)
          (try simp only [Act.put, List.setIfInBounds_toArray, List.set_cons_zero, List.set_cons_succ])
          refine wpAnyH_take (i := 1) (oi := { dst := some 53, op := Op.move (Operand.tmp 2), type := 23, pos := "law.go:66", after := #[], guard := none }) (v := ?_) rfl (by kernel_rfl) (by kernel_rfl) (by kernel_rfl) (fun _ _ _ h => h) (Or.inl ⟨by rfl, ?_⟩) (by assumption) ?_
          rotate_left
          · ((intro w hSw; (try dsimp only at hSw); go_simp; (try rw [if_neg (by omega)])); try with_reducible rfl)
          (try simp only [Act.put, List.setIfInBounds_toArray, List.set_cons_zero, List.set_cons_succ])
          refine wpAnyH_take (i := 2) (oi := { dst := some 54, op := Op.move (Operand.tmp 10), type := 3, pos := "law.go:66", after := #[], guard := none }) (v := ?_) rfl (by kernel_rfl) (by kernel_rfl) (by kernel_rfl) (fun _ _ _ h => h) (Or.inl ⟨by rfl, ?_⟩) (by assumption) ?_
          rotate_left
          · ((intro w hSw; (try dsimp only at hSw); go_simp; (try rw [if_neg (by omega)])); try with_reducible rfl)
          (try simp only [Act.put, List.setIfInBounds_toArray, List.set_cons_zero, List.set_cons_succ])
          refine wpAnyH_take (i := 3) (oi := { dst := some 55, op := Op.indexAddr 23 (Operand.tmp 53) (Operand.tmp 54), type := 0, pos := "law.go:66", after := #[{ on := 1, ground := Ground.data }, { on := 2, ground := Ground.data }], guard := none }) (v := ?_) rfl (by kernel_rfl) (by kernel_rfl) (by kernel_rfl) (fun _ _ _ h => h) (Or.inl ⟨by rfl, ?_⟩) (by assumption) ?_
          rotate_left
          · ((intro w hSw; (try dsimp only at hSw); go_simp; (try rw [if_neg (by omega)])); try with_reducible rfl)
          (try simp only [Act.put, List.setIfInBounds_toArray, List.set_cons_zero, List.set_cons_succ])
          refine wpAnyH_take (i := 4) (oi := { dst := some 56, op := Op.fieldAddr 33 (Operand.tmp 55) 1, type := 0, pos := "law.go:66", after := #[{ on := 3, ground := Ground.data }], guard := none }) (v := ?_) rfl (by kernel_rfl) (by kernel_rfl) (by kernel_rfl) (fun _ _ _ h => h) (Or.inl ⟨by rfl, ?_⟩) (by assumption) ?_
          rotate_left
          · ((intro w hSw; (try dsimp only at hSw); go_simp; (try rw [if_neg (by omega)])); try with_reducible rfl)
          (try simp only [Act.put, List.setIfInBounds_toArray, List.set_cons_zero, List.set_cons_succ])
          refine wpAnyH_take (i := 5) (oi := { dst := some 57, op := Op.load 3 (Operand.tmp 56), type := 3, pos := "law.go:66", after := #[{ on := 4, ground := Ground.data }], guard := none }) (v := ?_) rfl (by kernel_rfl) (by kernel_rfl) (by kernel_rfl) (fun _ _ _ h => h) (Or.inl ⟨by rfl, ?_⟩) (by assumption) ?_
          rotate_left
          · ((intro w hSw; (try dsimp only at hSw); go_simp; (try rw [if_neg (by omega)])); try with_reducible rfl)
          (try simp only [Act.put, List.setIfInBounds_toArray, List.set_cons_zero, List.set_cons_succ])
          refine wpAnyH_take (i := 6) (oi := { dst := some 58, op := Op.move (Operand.tmp 2), type := 23, pos := "law.go:66", after := #[], guard := none }) (v := ?_) rfl (by kernel_rfl) (by kernel_rfl) (by kernel_rfl) (fun _ _ _ h => h) (Or.inl ⟨by rfl, ?_⟩) (by assumption) ?_
          rotate_left
          · ((intro w hSw; (try dsimp only at hSw); go_simp; (try rw [if_neg (by omega)])); try with_reducible rfl)
          (try simp only [Act.put, List.setIfInBounds_toArray, List.set_cons_zero, List.set_cons_succ])
          refine wpAnyH_take (i := 7) (oi := { dst := some 59, op := Op.move (Operand.tmp 10), type := 3, pos := "law.go:66", after := #[], guard := none }) (v := ?_) rfl (by kernel_rfl) (by kernel_rfl) (by kernel_rfl) (fun _ _ _ h => h) (Or.inl ⟨by rfl, ?_⟩) (by assumption) ?_
          rotate_left
          · ((intro w hSw; (try dsimp only at hSw); go_simp; (try rw [if_neg (by omega)])); try with_reducible rfl)
          (try simp only [Act.put, List.setIfInBounds_toArray, List.set_cons_zero, List.set_cons_succ])
          refine wpAnyH_take (i := 8) (oi := { dst := some 60, op := Op.indexAddr 23 (Operand.tmp 58) (Operand.tmp 59), type := 0, pos := "law.go:66", after := #[{ on := 6, ground := Ground.data }, { on := 7, ground := Ground.data }], guard := none }) (v := ?_) rfl (by kernel_rfl) (by kernel_rfl) (by kernel_rfl) (fun _ _ _ h => h) (Or.inl ⟨by rfl, ?_⟩) (by assumption) ?_
          rotate_left
          · ((intro w hSw; (try dsimp only at hSw); go_simp; (try rw [if_neg (by omega)])); try with_reducible rfl)
          (try simp only [Act.put, List.setIfInBounds_toArray, List.set_cons_zero, List.set_cons_succ])
          refine wpAnyH_take (i := 9) (oi := { dst := some 61, op := Op.fieldAddr 33 (Operand.tmp 60) 2, type := 0, pos := "law.go:66", after := #[{ on := 8, ground := Ground.data }], guard := none }) (v := ?_) rfl (by kernel_rfl) (by kernel_rfl) (by kernel_rfl) (fun _ _ _ h => h) (Or.inl ⟨by rfl, ?_⟩) (by assumption) ?_
          rotate_left
          · ((intro w hSw; (try dsimp only at hSw); go_simp; (try rw [if_neg (by omega)])); try with_reducible rfl)
          (try simp only [Act.put, List.setIfInBounds_toArray, List.set_cons_zero, List.set_cons_succ])
          refine wpAnyH_take (i := 10) (oi := { dst := some 62, op := Op.load 31 (Operand.tmp 61), type := 31, pos := "law.go:66", after := #[{ on := 9, ground := Ground.data }], guard := none }) (v := ?_) rfl (by kernel_rfl) (by kernel_rfl) (by kernel_rfl) (fun _ _ _ h => h) (Or.inl ⟨by rfl, ?_⟩) (by assumption) ?_
          rotate_left
          · ((intro w hSw; (try dsimp only at hSw); go_simp; (try rw [if_neg (by omega)])); try with_reducible rfl)
          (try simp only [Act.put, List.setIfInBounds_toArray, List.set_cons_zero, List.set_cons_succ])
          refine wpAnyH_ready (rs := [11]) (by kernel_rfl) (by simp) ?_
          refine AllReadyH.cons (o := { dst := some 63, op := Op.call { callee := Callee.value (Operand.func 16), args := #[Operand.tmp 52, Operand.tmp 57, Operand.tmp 62], argTypes := #[28, 3, 31] }, type := 0, pos := "law.go:66", after := #[{ on := 0, ground := Ground.data }, { on := 5, ground := Ground.data }, { on := 10, ground := Ground.data }], guard := none }) rfl (fun K hK => ?_) ?_
          · (go_simp; go_at_call 16; refine ((H9.out.below HWD.out).rsend ta tf tq ts (by omega) HPL.out).mono ?_; rintro u wz ⟨rfl, hz⟩; have bz := hz.bel; dsimp only)
            refine hK.out _ _ ?_ (fun hHeld => ?_)
            · exact HCL.out _ bz
            clear hK K
            (try simp only [Act.put, List.setIfInBounds_toArray, List.set_cons_zero, List.set_cons_succ])
            refine wpAnyH_done (by kernel_rfl) ?_ _
            have HX := Lib.hid hz
            have HSN2 := Lib.hid (HSN.out.send T a0 ta tf tq ts)
            clear hz bz hHeld
            go_wp2
            go_roundw
            case rel => exact ⟨i + 1, k + 1, _, by go_num, hin, by omega, by omega, HSN2, HX⟩
            case measure => simp [intOf]; omega
          exact AllReadyH.nil
        exact AllReadyH.nil
    · by_cases hin2 : i < N
      · have hii : (i : Int) < (N : Int) := by omega
        have hii2 : ¬ (i : Int) < 60 := by omega
        clear hin hin2
        have HORD := Lib.hid HSN.out.ord
        have HPL2 : Hid (P.length ≤ 100000) := Lib.hid (by have := HPL.out; omega)
        clear HSN HPL
        go_upto_region 12 with fail
        go_loopw [11] (fun v11 wr => ∃ (j : Nat) (R : List Pc), v11 = .int .i64 (j : Int) ∧ j ≤ 20 ∧ Hid (LN.Ord R) ∧ Hid (R.length ≤ 100000) ∧ Hid (Both w w2.heap.size wr A B a0 T k k R R)) (fun v _ => 20 - (intOf v).toNat)
        case atStart => exact ⟨0, P, rfl, by omega, HORD, HPL2, HW⟩
        case round =>
          clear HW HORD HPL2
          obtain ⟨j, R, rfl, hj, HO, HL, HW⟩ := hrel
          by_cases hj2 : j < 20
          · have hjj : (j : Int) < 20 := by omega
            have HS := Lib.hid (same_any HW.out HO.out HL.out)
            have HO2 := Lib.hid (Ord.erase HO.out (LN.bs R))
            have HL2 : Hid ((R.eraseIdx (LN.bs R)).length ≤ 100000) := Lib.hid (Nat.le_trans (len_erase _ _) HL.out)
            go_wp2_with fail
            go_at_call 14
            refine HS.out.mono ?_
            rintro x wx ⟨rfl, hx⟩
            have HX := Lib.hid hx
            clear hx
            go_wp2
            go_roundw
            case rel => exact ⟨j + 1, _, by go_num, hj2, HO2, HL2, HX⟩
            case measure => simp [intOf]; omega
          · have hjj : ¬ (j : Int) < 20 := by omega
            have HFI := Lib.hid HW.out.bel
            clear hj2 hj
            go_wp2
            go_ret
            exact ⟨rfl, HFI.out⟩
      · have hii : ¬ (i : Int) < (N : Int) := by omega
        clear hin hin2
        have HORD := Lib.hid HSN.out.ord
        have HPL2 : Hid (P.length ≤ 100000) := Lib.hid (by have := HPL.out; omega)
        clear HSN HPL
        go_upto_region 12 with fail
        go_loopw [11] (fun v11 wr => ∃ (j : Nat) (R : List Pc), v11 = .int .i64 (j : Int) ∧ j ≤ 20 ∧ Hid (LN.Ord R) ∧ Hid (R.length ≤ 100000) ∧ Hid (Both w w2.heap.size wr A B a0 T k k R R)) (fun v _ => 20 - (intOf v).toNat)
        case atStart => exact ⟨0, P, rfl, by omega, HORD, HPL2, HW⟩
        case round =>
          clear HW HORD HPL2
          obtain ⟨j, R, rfl, hj, HO, HL, HW⟩ := hrel
          by_cases hj2 : j < 20
          · have hjj : (j : Int) < 20 := by omega
            have HS := Lib.hid (same_any HW.out HO.out HL.out)
            have HO2 := Lib.hid (Ord.erase HO.out (LN.bs R))
            have HL2 : Hid ((R.eraseIdx (LN.bs R)).length ≤ 100000) := Lib.hid (Nat.le_trans (len_erase _ _) HL.out)
            go_wp2_with fail
            go_at_call 14
            refine HS.out.mono ?_
            rintro x wx ⟨rfl, hx⟩
            have HX := Lib.hid hx
            clear hx
            go_wp2
            go_roundw
            case rel => exact ⟨j + 1, _, by go_num, hj2, HO2, HL2, HX⟩
            case measure => simp [intOf]; omega
          · have hjj : ¬ (j : Int) < 20 := by omega
            have HFI := Lib.hid HW.out.bel
            clear hj2 hj
            go_wp2
            go_ret
            exact ⟨rfl, HFI.out⟩

set_option maxRecDepth 100000 in
theorem lifted (os : Os) (started : os.Started) (H : Type) (enc : TypeId × Value → H) :
    ReturnsInHanded {} Try.checked os 3 .any (Rows.linesPlaysSpec.pre6 enc Try.prog Try.f3 Rows.linesPlaysRow.domain false) (Rows.linesPlaysSpec.post enc Try.prog Try.f3 false true false false) := by
  refine returnsInHanded_of_change (C := Try.checked) own started (by kernel_rfl) Try.func3
    (ChangeSpec.witness6 (enc := enc) (C := Try.checked) false ⟨#[], #[.int .i64 0, .slice none 0 0, .slice none 0 0], []⟩ 8 (by kernel_rfl) (by kernel_rfl) (by kernel_rfl) (by kernel_rfl)) ?_
  intro W base args ds gs before hval0 hW hcnd _
  have hval : ∀ (j : Nat) t v, Try.f3.params[j]? = some t → args[j]? = some v → Value.okWide Try.prog W .any base t v := hval0
  have hW' := hW
  obtain ⟨p, q, hA0, hV, rfl, hfz, hnd⟩ := hW
  have hA : DataW.TrodAll enc Try.prog W 0 (fun _ => true) true Try.f3.params.toList args.toList ds p := hA0
  rw [Try.params3] at hA hval
  obtain ⟨v0, vs0, d0, ds0, p0, q0, hargs, rfl, rfl, h0, r0⟩ := trodAll_cons hA
  obtain ⟨v1, vs1, d1, ds1, p1, q1, rfl, rfl, rfl, h1, r1⟩ := trodAll_cons r0
  obtain ⟨v2, vs2, d2, ds2, p2, q2, rfl, rfl, rfl, h2, r2⟩ := trodAll_cons r1
  obtain ⟨rfl, rfl, rfl⟩ := trodAll_nil r2
  obtain rfl : args = #[v0, v1, v2] := by cases args; simp_all
  obtain ⟨rfl, rfl⟩ := trodVars_none hV
  have k0 := h0
  have lt0 : ∀ x ∈ p0, x.block < W.heap.size := by obtain ⟨m, hm⟩ := k0; exact DataW.trod_lt m _ _ _ hm
  have k1 := h1
  have lt1 : ∀ x ∈ p1, x.block < W.heap.size := by obtain ⟨m, hm⟩ := k1; exact DataW.trod_lt m _ _ _ hm
  have k2 := h2
  have lt2 : ∀ x ∈ p2, x.block < W.heap.size := by obtain ⟨m, hm⟩ := k2; exact DataW.trod_lt m _ _ _ hm
  obtain ⟨a0, rfl, rfl, rfl, wa0⟩ := open_int Try.underlying3 (hval 0 3 v0 rfl rfl) h0
  obtain ⟨a1, H1⟩ := open_trs (hval 1 22 v1 rfl rfl) h1
  obtain ⟨a2, H2⟩ := open_lacts (hval 2 23 v2 rfl rfl) h2
  clear hA0 hval0
  refine (walk a0 v1 a1 v2 a2 wa0 W H1 H2).mono fun e W' ⟨he, bel⟩ => ?_
  subst he
  exact ⟨_, rfl, _, _, _, [], _, [], hW', trodAll_mk1 (shut_bool Try.underlying4 _), (trodAll_cons_mk (Below.trod laidOut (by kernel_rfl) (of_decide_eq_true (by kernel_rfl)) k0 bel lt0) (trodAll_cons_mk (Below.trod laidOut (by kernel_rfl) (of_decide_eq_true (by kernel_rfl)) k1 bel lt1) (trodAll_cons_mk (Below.trod laidOut (by kernel_rfl) (of_decide_eq_true (by kernel_rfl)) k2 bel lt2) trodAll_mk0))), rfl, bel.frame _, fun h => by cases h⟩

theorem over : Rows.linesPlaysRow.holds Try.pinned (OpenSpec.ofChange Rows.linesPlaysSpec) :=
  OpenClaim.holds_of_wide 3 Try.f3 rfl rfl rfl rfl rfl rfl rfl ⟨rfl, rfl, rfl, rfl, rfl⟩ rfl rfl rfl rfl rfl (by kernel_rfl) Try.func3 (by kernel_rfl)
    (of_decide_eq_true (by kernel_rfl)) (by unfold Func.isWrapper; first | (rw [if_pos (by decide +kernel)]; kernel_rfl) | (rw [if_neg (by decide +kernel)]; exact ⟨rfl, rfl⟩))
    (fun os started H enc _ => lifted os started H enc)

end Go.Proofs.Ytgphdgalcbcamaa.linesPlays
namespace Go.Proofs.Ytgphdgalcbcamaa
theorem linesPlays_proved : Rows.LinesPlaysSaid := linesPlays.over
#print axioms linesPlays_proved
end Go.Proofs.Ytgphdgalcbcamaa
