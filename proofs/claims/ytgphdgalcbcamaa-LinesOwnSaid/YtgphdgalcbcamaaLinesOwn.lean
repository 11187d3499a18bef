/- For all scripts and all times LinesOwn returns true: changing a script afterwards has no effect. No conditions. -/
import Derived.Test.YtgphdgalcbcamaaLn14
namespace Go.Proofs.Ytgphdgalcbcamaa.linesOwn
open Go.ChangeShapes Go.WideShapes Go.ChangeAt Go.RowKit Go.Joins Go.Deep
set_option linter.unusedVariables false

set_option maxRecDepth 100000 in
set_option maxHeartbeats 8000000 in
theorem walk (v0 : Value) (a0 : List Tr) (v1 : Value) (a1 : List Tr) (v2 : Value) (a2 : List Int)  (w : World) (H0 : TrArg w v0 a0) (H1 : TrArg w v1 a1) (H2 : RowAt w v2 (a2.map (Value.int .i64))) (L2 : a2.length ≤ maxLen ∧ ∀ a n c, v2 = .slice a n c → n ≤ c) (E2 : ∀ x, x ∈ a2 → -9223372036854775808 ≤ x ∧ x ≤ 9223372036854775807) :
    Calls Try.prog 7 #[v0, v1, v2] w fun e w' => e = .returned (.bool true) ∧ Below w.heap.size w w' := by
  have HM : Hid (∀ V, Below w.heap.size w V → TrArg V v0 a0) := Lib.hid fun V hV => H0.keep hV
  have HO : Hid (∀ V, Below w.heap.size w V → TrArg V v1 a1) := Lib.hid fun V hV => H1.keep hV
  have HT : Hid (∀ V, Below w.heap.size w V → RowAt V v2 (a2.map (Value.int .i64))) := Lib.hid fun V hV => H2.keep hV
  obtain ⟨xa, xc, rfl, -⟩ := H2.out
  obtain ⟨ya, yc, hy, -⟩ := H1.src
  subst hy
  rw [List.length_map] at HT ⊢
  obtain ⟨N2, hN2⟩ : ∃ N, a2.length = N := ⟨_, rfl⟩
  obtain ⟨N1, hN1⟩ : ∃ N, a1.length = N := ⟨_, rfl⟩
  rw [hN2] at HT ⊢
  rw [hN1] at HO ⊢
  have hNl : N2 ≤ maxLen := by rw [← hN2]; exact L2.1
  unfold maxLen at hNl
  have hNl1 : N1 ≤ maxLen := by rw [← hN1]; exact H1.len
  unfold maxLen at hNl1
  have HNN := Lib.hid hN2
  have HNN1 := Lib.hid hN1
  obtain ⟨i0, hi0, hz0, hz1, hz2⟩ := info_parts info_tr
  clear H0 H1 H2 L2 E2 hN2 hN1
  go_enter Try.func7, Try.ntmps7
  go_wp2_with fail
  refine (sanity_any _).mono ?_
  rintro e w2 ⟨rfl, k2⟩
  have HB2 := Lib.hid k2
  clear k2
  have hb3 := balloc (Below.refl _ w2) (.cells #[] 43)
  obtain ⟨T, hT⟩ : ∃ T, a0.take 40 = T := ⟨_, rfl⟩
  obtain ⟨v', hsh, hsrc⟩ := short_any (w2.alloc (.cells #[] 43)) v0 a0 (HM.out _ (bnext HB2.out hb3))
  rw [hT] at hsrc
  have hrE := own_empty w2 43 3 0 (Nat.zero_le _)
  obtain ⟨n, hn⟩ : ∃ n, T.length = n := ⟨_, rfl⟩
  have hn40 : n ≤ 40 := by rw [← hn, ← hT, List.length_take]; omega
  rw [hn] at hsrc
  have HSH := Lib.hid hsh
  have HSRC := Lib.hid hsrc
  have HRE := Lib.hid hrE
  have HNT := Lib.hid hn
  clear hsh hsrc hrE hb3 hn
  go_wp2_with fail
  go_at_call 12
  refine HSH.out.mono ?_
  rintro x wx ⟨rfl, he⟩
  have he' := he.symm
  subst he'
  go_upto_region 3 with (at_builtin; refine wpList_appN _ rfl _ _ 22 rfl 0 43 i0 _ 3 24 Try.underlying22 hi0 hz0 hz1 hz2 rfl (by decide) _ 0 [] rfl HRE.out v' n (trs T) (by rfl) HSRC.out (trs_cells T) (by unfold maxLen; omega) (by omega) (Nat.zero_le _) ?_; intro vm w4 hown hgrow hat)
  rw [Nat.zero_add] at hown
  rw [List.nil_append] at hown
  have hb4 : Below w2.heap.size w2 w4 := (balloc (Below.refl _ w2) (.cells #[] 43)).grown hgrow (by simp) (fun q e => by have : w2.heap.size = q := Option.some.inj e; omega)
  have HB4 := Lib.hid (bnext HB2.out hb4)
  obtain ⟨ma, mc, rfl⟩ := own_shape hown
  have HOM := Lib.hid hown
  have HOQ : Hid (∀ q, (Value.slice ma n mc).ownBlock = some q → w.heap.size ≤ q) := Lib.hid fun q e => by
    have h2 := HB2.out.size
    rcases hat with h | h
    · have : w2.heap.size = q := Option.some.inj (h.symm.trans e)
      omega
    · rw [h] at e
      have := Option.some.inj e
      simp at this
      omega
  clear hgrow hat hown hb4
  have HN1 := Lib.hid (new_any w4 2 (.slice ma n mc) T n HNT.out (by omega) (own_srcN HOM.out))
  go_wp2_with fail
  go_at_call 11
  refine HN1.out.mono ?_
  rintro x w5 ⟨A, rfl, hla, hb5⟩
  have HLA := Lib.hid hla
  have HB5 := Lib.hid hb5
  clear hla hb5
  obtain ⟨v'', hsh, hsrc⟩ := short_any w5 v0 a0 (HM.out _ (bnext HB4.out HB5.out))
  rw [hT, HNT.out] at hsrc
  have HSH2 := Lib.hid hsh
  have HN2 := Lib.hid (new_any w5 2 v'' T n HNT.out (by omega) hsrc)
  clear hsh hsrc hT
  go_wp2_with fail
  go_at_call 12
  refine HSH2.out.mono ?_
  rintro x wx ⟨rfl, he⟩
  have he' := he.symm
  subst he'
  go_wp2_with fail
  go_at_call 11
  refine HN2.out.mono ?_
  rintro x w6 ⟨B, rfl, hlb, hb6⟩
  have HTW : Hid (Two w w4.heap.size w6 A B 2 2 T T 0 0 [] []) := Lib.hid ⟨_, _, HLA.out.below hb6, hlb, fun b h1 h2 => by omega, fun b h => h.1, fun b h => Nat.le_trans HB5.out.size h.1, bnext (bnext HB4.out HB5.out) hb6, HB4.out.size⟩
  have HO6 := Lib.hid (own_below HOM.out (bnext HB5.out hb6))
  have HML : Hid (∀ q, (Value.slice ma n mc).ownBlock = some q → q < w4.heap.size) := Lib.hid fun q e => (HOM.out.lt q e).2
  clear hlb hb6
  go_upto_region 5 with fail
  go_loopw [32] (fun v32 wr => ∃ (i : Nat) (U : List Value), v32 = .int .i64 (i : Int) ∧ i ≤ n ∧ Hid (wr.ownsRow 0 43 3 (.slice ma n mc) n U) ∧ Hid (Two w w4.heap.size wr A B 2 2 T T 0 0 [] [])) (fun v _ => n - (intOf v).toNat)
  case atStart => exact ⟨0, _, rfl, Nat.zero_le _, HO6, HTW⟩
  case round =>
    obtain ⟨i, U, rfl, hi, HR, HW⟩ := hrel
    by_cases hin : i < n
    · have hii : (i : Int) < (n : Int) := by omega
      have hi0' : (0 : Int) ≤ (i : Int) := by omega
      obtain ⟨g, mcc, rfl⟩ : ∃ g mcc, ma = some ⟨g, 0, none⟩ := by
        rcases HR.out.2 with ⟨hv, h0⟩ | ⟨g, cap, cur, hv, -⟩
        · omega
        · injection hv with hv _ _
          exact ⟨g, 0, hv⟩
      have hul := HR.out.1
      have hg4 := HML.out g rfl
      have hgw := HOQ.out g rfl
      have fz : ∀ x, wr.frozen? ⟨g, x, none⟩ = false := fun x => HR.out.frozenAt x
      obtain ⟨y0, x0⟩ : ∃ v, wr.cell? ⟨g, i * 3, none⟩ = some v := ⟨_, (HR.out.cellAt (i * 3) (by omega)).trans (List.getElem?_eq_getElem (by omega))⟩
      obtain ⟨y1, x1⟩ : ∃ v, wr.cell? ⟨g, i * 3 + 1, none⟩ = some v := ⟨_, (HR.out.cellAt (i * 3 + 1) (by omega)).trans (List.getElem?_eq_getElem (by omega))⟩
      obtain ⟨y2, x2⟩ : ∃ v, wr.cell? ⟨g, i * 3 + 2, none⟩ = some v := ⟨_, (HR.out.cellAt (i * 3 + 2) (by omega)).trans (List.getElem?_eq_getElem (by omega))⟩
      have hst : ∀ (a b c : Value) (V : World) (U : List Value), V.ownsRow 0 43 3 (.slice (some ⟨g, 0, none⟩) n mc) n U → ∃ U', (((V.setCell ⟨g, i * 3, none⟩ a).setCell ⟨g, i * 3 + 1, none⟩ b).setCell ⟨g, i * 3 + 2, none⟩ c).ownsRow 0 43 3 (.slice (some ⟨g, 0, none⟩) n mc) n U' := fun a b c V U hV => ⟨_, (((hV.stored (i * 3) a).1.stored (i * 3 + 1) b).1.stored (i * 3 + 2) c).1⟩
      have hfr : ∀ (a b c : Value) (V : World), FrS (fun y => y = g) V (((V.setCell ⟨g, i * 3, none⟩ a).setCell ⟨g, i * 3 + 1, none⟩ b).setCell ⟨g, i * 3 + 2, none⟩ c) := fun a b c V => by
        have s := fun (V : World) (i : Nat) (u : Value) => FrS.set (S := fun b => b = g) V (b := g) (i := i) rfl u
        exact ((s _ _ _).trans (s _ _ _)).trans (s _ _ _)
      go_upto_region 8 with fail
      obtain ⟨U1, hr1⟩ := hst (.bool true) (.int .i64 0) (.int .i64 0) wr U HR.out
      have hf1 := hfr (.bool true) (.int .i64 0) (.int .i64 0) wr
      obtain ⟨W1, hW1⟩ : ∃ W1, (((wr.setCell ⟨g, i * 3, none⟩ (.bool true)).setCell ⟨g, i * 3 + 1, none⟩ (.int .i64 0)).setCell ⟨g, i * 3 + 2, none⟩ (.int .i64 0)) = W1 := ⟨_, rfl⟩
      rw [hW1] at hr1 hf1
      rw [hW1]
      have HR1 := Lib.hid hr1
      have HW1 := Lib.hid (HW.out.write hg4 hgw hf1)
      clear hW1 hr1 hf1 x0 x1 x2 fz
      by_cases hi1 : i < N1
      · have hiz : (i : Int) < (N1 : Int) := by omega
        obtain ⟨t, ht⟩ : ∃ t, a1[i]? = some t := ⟨_, List.getElem?_eq_getElem (by rw [HNN1.out]; exact hi1)⟩
        have hs1 := (HO.out W1 HW1.out.bel).src
        rw [HNN1.out] at hs1
        obtain ⟨g1, o1, rfl, -, k0, k1, k2⟩ := tr_at hs1 ht hi1
        have fz : ∀ x, W1.frozen? ⟨g, x, none⟩ = false := fun x => HR1.out.frozenAt x
        have hul := HR1.out.1
        obtain ⟨y0, x0⟩ : ∃ v, W1.cell? ⟨g, i * 3, none⟩ = some v := ⟨_, (HR1.out.cellAt (i * 3) (by omega)).trans (List.getElem?_eq_getElem (by omega))⟩
        obtain ⟨y1, x1⟩ : ∃ v, W1.cell? ⟨g, i * 3 + 1, none⟩ = some v := ⟨_, (HR1.out.cellAt (i * 3 + 1) (by omega)).trans (List.getElem?_eq_getElem (by omega))⟩
        obtain ⟨y2, x2⟩ : ∃ v, W1.cell? ⟨g, i * 3 + 2, none⟩ = some v := ⟨_, (HR1.out.cellAt (i * 3 + 2) (by omega)).trans (List.getElem?_eq_getElem (by omega))⟩
        obtain ⟨U2, hr2⟩ := hst (.bool t.l) (.int .i64 t.c) (.int .i64 t.d) W1 U1 HR1.out
        have hf2 := hfr (.bool t.l) (.int .i64 t.c) (.int .i64 t.d) W1
        have HR2 := Lib.hid hr2
        have HW2 := Lib.hid (HW1.out.write hg4 hgw hf2)
        clear hr2 hf2 hs1 ht hst hfr
        go_wp2
        go_roundw
        case rel => exact ⟨i + 1, U2, by go_num, hin, HR2, HW2⟩
        case measure => simp [intOf]; omega
      · have hiz : ¬ (i : Int) < (N1 : Int) := by omega
        clear hst hfr
        go_wp2
        go_roundw
        case rel => exact ⟨i + 1, U1, by go_num, hin, HR1, HW1⟩
        case measure => simp [intOf]; omega
    · have hii : ¬ (i : Int) < (n : Int) := by omega
      obtain ⟨wy, hwy⟩ : ∃ wy, wy = wr := ⟨_, rfl⟩
      subst hwy
      clear hin hi
      go_upto_region 12 with fail
      go_loopw [12] (fun v12 wr => ∃ i : Nat, v12 = .int .i64 (i : Int) ∧ i ≤ N2 ∧ i ≤ 20 ∧ Hid (Two w w4.heap.size wr A B 2 2 T T i i (PO T a2 i) (PO T a2 i))) (fun v _ => N2 - (intOf v).toNat)
      case atStart => exact ⟨0, rfl, by omega, by omega, HW⟩
      case round =>
        clear HR HW
        obtain ⟨i, rfl, hi, hi20, HW⟩ := hrel
        by_cases hin : i < N2 ∧ i < 20
        · obtain ⟨hin, hi2⟩ := hin
          have hii : (i : Int) < (N2 : Int) := by omega
          have hii2 : (i : Int) < 20 := by omega
          have hi0' : (0 : Int) ≤ (i : Int) := by omega
          obtain ⟨g, o, rfl, hgl, hcell⟩ := (HT.out w (Below.refl _ _)).cell (k := i) (by rw [List.length_map, HNN.out]; exact hin)
          obtain ⟨z, hz⟩ : ∃ z, a2.getD i 0 = z := ⟨_, rfl⟩
          have hcz : w.cell? ⟨g, o + i, none⟩ = some (.int .i64 z) := by
            rw [hcell, List.getElem_map, ← hz, List.getD_eq_getElem?_getD, List.getElem?_eq_getElem (by rw [HNN.out]; exact hin)]
            rfl
          have HCZ : Hid (∀ V, Below w.heap.size w V → V.cell? ⟨g, o + i, none⟩ = some (.int .i64 z)) := Lib.hid fun V hV => (hV.cell (p := ⟨g, o + i, none⟩) hgl).trans hcz
          have HZZ := Lib.hid hz
          have HPL : Hid ((PO T a2 i).length ≤ 90000) := Lib.hid (by have := (PO_sn T a2 i).len; omega)
          have mixed : Try.prog.follows .mixedOrders = true := by kernel_rfl
          have hu8 := u8_wrap i (by omega)
          clear hcell hgl hcz hz
          have HWD0 := Below.drew (Below.refl wr.heap.size wr)
          obtain ⟨W0, hW0⟩ : ∃ W0, wr.drew = W0 := ⟨_, rfl⟩
          rw [hW0] at HWD0
          have HWD := Lib.hid HWD0
          have HW0 := Lib.hid hW0
          have bq0 := bnext HW.out.bel HWD0
          clear HWD0 hW0
          go_upto_region 14 with fail
          refine wp_region_held_drew (S := (fun w' => w'.cell? ⟨g, o + i, none⟩ = some (.int .i64 z))) (by kernel_rfl) ?_ (fun hHeld => ?_)
          · (rw [HW0.out]; exact HCZ.out _ bq0)
          rw [HW0.out] at hHeld ⊢
          refine wpAnyH_take (i := 0) (oi := { dst := some 61, op := Op.move (Operand.tmp 9), type := 25, pos := "law.go:181", after := #[], guard := none }) (v := ?_) rfl (by kernel_rfl) (by kernel_rfl) (by kernel_rfl) (fun _ _ _ h => h) (Or.inl ⟨by rfl, ?_⟩) (by assumption) ?_
          rotate_left
          · ((intro w hSw; (try dsimp only at hSw); go_simp; (try rw [if_neg (by omega)])); try with_reducible rfl)
          (try simp only [Act.put, List.setIfInBounds_toArray, List.set_cons_zero, List.set_cons_succ])
          refine wpAnyH_take (i := 1) (oi := { dst := some 62, op := Op.move (Operand.tmp 2), type := 37, pos := "law.go:181", after := #[], guard := none }) (v := ?_) rfl (by kernel_rfl) (by kernel_rfl) (by kernel_rfl) (fun _ _ _ h => h) (Or.inl ⟨by rfl, ?_⟩) (by assumption) ?_
          rotate_left
          · ((intro w hSw; (try dsimp only at hSw); go_simp; (try rw [if_neg (by omega)])); try with_reducible rfl)
          (try simp only [Act.put, List.setIfInBounds_toArray, List.set_cons_zero, List.set_cons_succ])
          refine wpAnyH_take (i := 2) (oi := { dst := some 63, op := Op.move (Operand.tmp 12), type := 3, pos := "law.go:181", after := #[], guard := none }) (v := ?_) rfl (by kernel_rfl) (by kernel_rfl) (by kernel_rfl) (fun _ _ _ h => h) (Or.inl ⟨by rfl, ?_⟩) (by assumption) ?_
          rotate_left
          · ((intro w hSw; (try dsimp only at hSw); go_simp; (try rw [if_neg (by omega)])); try with_reducible rfl)
          (try simp only [Act.put, List.setIfInBounds_toArray, List.set_cons_zero, List.set_cons_succ])
          refine wpAnyH_take (i := 3) (oi := { dst := some 64, op := Op.indexAddr 37 (Operand.tmp 62) (Operand.tmp 63), type := 0, pos := "law.go:181", after := #[{ on := 1, ground := Ground.data }, { on := 2, ground := Ground.data }], guard := none }) (v := ?_) rfl (by kernel_rfl) (by kernel_rfl) (by kernel_rfl) (fun _ _ _ h => h) (Or.inl ⟨by rfl, ?_⟩) (by assumption) ?_
          rotate_left
          · ((intro w hSw; (try dsimp only at hSw); go_simp; (try rw [if_neg (by omega)])); try with_reducible rfl)
          (try simp only [Act.put, List.setIfInBounds_toArray, List.set_cons_zero, List.set_cons_succ])
          refine wpAnyH_take (i := 4) (oi := { dst := some 65, op := Op.load 3 (Operand.tmp 64), type := 3, pos := "law.go:181", after := #[{ on := 3, ground := Ground.data }], guard := none }) (v := ?_) rfl (by kernel_rfl) (by kernel_rfl) (by kernel_rfl) (fun _ _ _ h => h) (Or.inl ⟨by rfl, ?_⟩) (by assumption) ?_
          rotate_left
          · ((intro w hSw; (try dsimp only at hSw); go_simp; (try rw [if_neg (by omega)])); try with_reducible rfl)
          (try simp only [Act.put, List.setIfInBounds_toArray, List.set_cons_zero, List.set_cons_succ])
          refine wpAnyH_take (i := 5) (oi := { dst := some 66, op := Op.move (Operand.tmp 12), type := 3, pos := "law.go:181", after := #[], guard := none }) (v := ?_) rfl (by kernel_rfl) (by kernel_rfl) (by kernel_rfl) (fun _ _ _ h => h) (Or.inl ⟨by rfl, ?_⟩) (by assumption) ?_
          rotate_left
          · ((intro w hSw; (try dsimp only at hSw); go_simp; (try rw [if_neg (by omega)])); try with_reducible rfl)
          (try simp only [Act.put, List.setIfInBounds_toArray, List.set_cons_zero, List.set_cons_succ])
          refine wpAnyH_take (i := 6) (oi := { dst := some 67, op := Op.convert 3 5 (Operand.tmp 66), type := 5, pos := "law.go:181", after := #[{ on := 5, ground := Ground.data }], guard := none }) (v := ?_) rfl (by kernel_rfl) (by kernel_rfl) (by kernel_rfl) (fun _ _ _ h => h) (Or.inl ⟨by rfl, ?_⟩) (by assumption) ?_
          rotate_left
          · ((intro w hSw; (try dsimp only at hSw); go_simp; (try rw [if_neg (by omega)])); try with_reducible rfl)
          (try simp only [Act.put, List.setIfInBounds_toArray, List.set_cons_zero, List.set_cons_succ])
          refine wpAnyH_ready (rs := [7]) (by kernel_rfl) (by simp) ?_
          refine AllReadyH.cons (o := { dst := some 68, op := Op.buildSlice 40 1 #[(0, Operand.tmp 67)], type := 40, pos := "law.go:181", after := #[{ on := 6, ground := Ground.data }], guard := none }) rfl (fun K hK => ?_) ?_
          · (go_simp; have hcv := conv_new W0 i; have bz1 := balloc (Below.refl _ W0) (.cells #[.int .u8 (i : Int)] 5); obtain ⟨wz1, hq⟩ : ∃ w', W0.alloc (.cells #[.int .u8 (i : Int)] 5) = w' := ⟨_, rfl⟩; rw [hq] at hcv bz1; rw [hq]; clear hq; have bq1 := bnext bq0 bz1)
            refine hK.out _ _ ?_ (fun hHeld => ?_)
            · exact HCZ.out _ bq1
            clear hK K
            (try simp only [Act.put, List.setIfInBounds_toArray, List.set_cons_zero, List.set_cons_succ])
            refine wpAnyH_ready (rs := [8]) (by kernel_rfl) (by simp) ?_
            refine AllReadyH.cons (o := { dst := some 69, op := Op.convert 40 9 (Operand.tmp 68), type := 9, pos := "law.go:181", after := #[{ on := 7, ground := Ground.data }], guard := none }) rfl (fun K hK => ?_) ?_
            · (go_simp; clear hcv)
              refine hK.out _ _ ?_ (fun hHeld => ?_)
              · exact HCZ.out _ bq1
              clear hK K
              (try simp only [Act.put, List.setIfInBounds_toArray, List.set_cons_zero, List.set_cons_succ])
              refine wpAnyH_ready (rs := [9]) (by kernel_rfl) (by simp) ?_
              refine AllReadyH.cons (o := { dst := some 70, op := Op.call { callee := Callee.value (Operand.func 18), args := #[Operand.tmp 69], argTypes := #[9] }, type := 31, pos := "law.go:181", after := #[{ on := 8, ground := Ground.data }], guard := none }) rfl (fun K hK => ?_) ?_
              · (go_simp; go_at_call 18; refine (told_any _ _).mono ?_; rintro u wz3 ⟨rfl, dz3⟩; have bz3 := bnext bz1 dz3; clear dz3; have bq3 := bnext bq0 bz3; dsimp only)
                refine hK.out _ _ ?_ (fun hHeld => ?_)
                · exact HCZ.out _ bq3
                clear hK K
                (try simp only [Act.put, List.setIfInBounds_toArray, List.set_cons_zero, List.set_cons_succ])
                refine wpAnyH_ready (rs := [10]) (by kernel_rfl) (by simp) ?_
                refine AllReadyH.cons (o := { dst := some 71, op := Op.call { callee := Callee.value (Operand.func 15), args := #[Operand.tmp 61, Operand.tmp 65, Operand.tmp 70], argTypes := #[25, 3, 31] }, type := 0, pos := "law.go:181", after := #[{ on := 0, ground := Ground.data }, { on := 4, ground := Ground.data }, { on := 9, ground := Ground.data }, { on := 9, ground := Ground.chain }], guard := none }) rfl (fun K hK => ?_) ?_
                · (go_simp; go_at_call 15; refine (send_1 ((HW.out.below HWD.out).below bz3) z 0 1 (LN.txt i) (by omega) HPL.out).mono ?_; rintro u wz4 ⟨rfl, h4⟩; have bq4 := h4.bel; dsimp only)
                  refine hK.out _ _ ?_ (fun hHeld => ?_)
                  · exact HCZ.out _ bq4
                  clear hK K
                  (try simp only [Act.put, List.setIfInBounds_toArray, List.set_cons_zero, List.set_cons_succ])
                  refine wpAnyH_done (by kernel_rfl) ?_ _
                  have H4 := Lib.hid h4
                  clear h4 bq0 bq1 bq3 bq4 bz1 bz3 HWD HW0
                  go_upto_region 15 with fail
                  have HWD0 := Below.drew (Below.refl wz4.heap.size wz4)
                  obtain ⟨W0, hW0⟩ : ∃ W0, wz4.drew = W0 := ⟨_, rfl⟩
                  rw [hW0] at HWD0
                  have HWD := Lib.hid HWD0
                  have HW0 := Lib.hid hW0
                  have bq0 := bnext H4.out.bel HWD0
                  clear HWD0 hW0
                  refine wp_region_held_drew (S := (fun w' => w'.cell? ⟨g, o + i, none⟩ = some (.int .i64 z))) (by kernel_rfl) ?_ (fun hHeld => ?_)
                  · (rw [HW0.out]; exact HCZ.out _ bq0)
                  rw [HW0.out] at hHeld ⊢
                  refine wpAnyH_take (i := 0) (oi := { dst := some 72, op := Op.move (Operand.tmp 10), type := 25, pos := "law.go:182", after := #[], guard := none }) (v := ?_) rfl (by kernel_rfl) (by kernel_rfl) (by kernel_rfl) (fun _ _ _ h => h) (Or.inl ⟨by rfl, ?_⟩) (by assumption) ?_
                  rotate_left
                  · ((intro w hSw; (try dsimp only at hSw); go_simp; (try rw [if_neg (by omega)])); try with_reducible rfl)
                  (try simp only [Act.put, List.setIfInBounds_toArray, List.set_cons_zero, List.set_cons_succ])
                  refine wpAnyH_take (i := 1) (oi := { dst := some 73, op := Op.move (Operand.tmp 2), type := 37, pos := "law.go:182", after := #[], guard := none }) (v := ?_) rfl (by kernel_rfl) (by kernel_rfl) (by kernel_rfl) (fun _ _ _ h => h) (Or.inl ⟨by rfl, ?_⟩) (by assumption) ?_
                  rotate_left
                  · ((intro w hSw; (try dsimp only at hSw); go_simp; (try rw [if_neg (by omega)])); try with_reducible rfl)
                  (try simp only [Act.put, List.setIfInBounds_toArray, List.set_cons_zero, List.set_cons_succ])
                  refine wpAnyH_take (i := 2) (oi := { dst := some 74, op := Op.move (Operand.tmp 12), type := 3, pos := "law.go:182", after := #[], guard := none }) (v := ?_) rfl (by kernel_rfl) (by kernel_rfl) (by kernel_rfl) (fun _ _ _ h => h) (Or.inl ⟨by rfl, ?_⟩) (by assumption) ?_
                  rotate_left
                  · ((intro w hSw; (try dsimp only at hSw); go_simp; (try rw [if_neg (by omega)])); try with_reducible rfl)
                  (try simp only [Act.put, List.setIfInBounds_toArray, List.set_cons_zero, List.set_cons_succ])
                  refine wpAnyH_take (i := 3) (oi := { dst := some 75, op := Op.indexAddr 37 (Operand.tmp 73) (Operand.tmp 74), type := 0, pos := "law.go:182", after := #[{ on := 1, ground := Ground.data }, { on := 2, ground := Ground.data }], guard := none }) (v := ?_) rfl (by kernel_rfl) (by kernel_rfl) (by kernel_rfl) (fun _ _ _ h => h) (Or.inl ⟨by rfl, ?_⟩) (by assumption) ?_
                  rotate_left
                  · ((intro w hSw; (try dsimp only at hSw); go_simp; (try rw [if_neg (by omega)])); try with_reducible rfl)
                  (try simp only [Act.put, List.setIfInBounds_toArray, List.set_cons_zero, List.set_cons_succ])
                  refine wpAnyH_take (i := 4) (oi := { dst := some 76, op := Op.load 3 (Operand.tmp 75), type := 3, pos := "law.go:182", after := #[{ on := 3, ground := Ground.data }], guard := none }) (v := ?_) rfl (by kernel_rfl) (by kernel_rfl) (by kernel_rfl) (fun _ _ _ h => h) (Or.inl ⟨by rfl, ?_⟩) (by assumption) ?_
                  rotate_left
                  · ((intro w hSw; (try dsimp only at hSw); go_simp; (try rw [if_neg (by omega)])); try with_reducible rfl)
                  (try simp only [Act.put, List.setIfInBounds_toArray, List.set_cons_zero, List.set_cons_succ])
                  refine wpAnyH_take (i := 5) (oi := { dst := some 77, op := Op.move (Operand.tmp 12), type := 3, pos := "law.go:182", after := #[], guard := none }) (v := ?_) rfl (by kernel_rfl) (by kernel_rfl) (by kernel_rfl) (fun _ _ _ h => h) (Or.inl ⟨by rfl, ?_⟩) (by assumption) ?_
                  rotate_left
                  · ((intro w hSw; (try dsimp only at hSw); go_simp; (try rw [if_neg (by omega)])); try with_reducible rfl)
                  (try simp only [Act.put, List.setIfInBounds_toArray, List.set_cons_zero, List.set_cons_succ])
                  refine wpAnyH_take (i := 6) (oi := { dst := some 78, op := Op.convert 3 5 (Operand.tmp 77), type := 5, pos := "law.go:182", after := #[{ on := 5, ground := Ground.data }], guard := none }) (v := ?_) rfl (by kernel_rfl) (by kernel_rfl) (by kernel_rfl) (fun _ _ _ h => h) (Or.inl ⟨by rfl, ?_⟩) (by assumption) ?_
                  rotate_left
                  · ((intro w hSw; (try dsimp only at hSw); go_simp; (try rw [if_neg (by omega)])); try with_reducible rfl)
                  (try simp only [Act.put, List.setIfInBounds_toArray, List.set_cons_zero, List.set_cons_succ])
                  refine wpAnyH_ready (rs := [7]) (by kernel_rfl) (by simp) ?_
                  refine AllReadyH.cons (o := { dst := some 79, op := Op.buildSlice 40 1 #[(0, Operand.tmp 78)], type := 40, pos := "law.go:182", after := #[{ on := 6, ground := Ground.data }], guard := none }) rfl (fun K hK => ?_) ?_
                  · (go_simp; have hcv := conv_new W0 i; have bz1 := balloc (Below.refl _ W0) (.cells #[.int .u8 (i : Int)] 5); obtain ⟨wz1, hq⟩ : ∃ w', W0.alloc (.cells #[.int .u8 (i : Int)] 5) = w' := ⟨_, rfl⟩; rw [hq] at hcv bz1; rw [hq]; clear hq; have bq1 := bnext bq0 bz1)
                    refine hK.out _ _ ?_ (fun hHeld => ?_)
                    · exact HCZ.out _ bq1
                    clear hK K
                    (try simp only [Act.put, List.setIfInBounds_toArray, List.set_cons_zero, List.set_cons_succ])
                    refine wpAnyH_ready (rs := [8]) (by kernel_rfl) (by simp) ?_
                    refine AllReadyH.cons (o := { dst := some 80, op := Op.convert 40 9 (Operand.tmp 79), type := 9, pos := "law.go:182", after := #[{ on := 7, ground := Ground.data }], guard := none }) rfl (fun K hK => ?_) ?_
                    · (go_simp; clear hcv)
                      refine hK.out _ _ ?_ (fun hHeld => ?_)
                      · exact HCZ.out _ bq1
                      clear hK K
                      (try simp only [Act.put, List.setIfInBounds_toArray, List.set_cons_zero, List.set_cons_succ])
                      refine wpAnyH_ready (rs := [9]) (by kernel_rfl) (by simp) ?_
                      refine AllReadyH.cons (o := { dst := some 81, op := Op.call { callee := Callee.value (Operand.func 18), args := #[Operand.tmp 80], argTypes := #[9] }, type := 31, pos := "law.go:182", after := #[{ on := 8, ground := Ground.data }], guard := none }) rfl (fun K hK => ?_) ?_
                      · (go_simp; go_at_call 18; refine (told_any _ _).mono ?_; rintro u wz3 ⟨rfl, dz3⟩; have bz3 := bnext bz1 dz3; clear dz3; have bq3 := bnext bq0 bz3; dsimp only)
                        refine hK.out _ _ ?_ (fun hHeld => ?_)
                        · exact HCZ.out _ bq3
                        clear hK K
                        (try simp only [Act.put, List.setIfInBounds_toArray, List.set_cons_zero, List.set_cons_succ])
                        refine wpAnyH_ready (rs := [10]) (by kernel_rfl) (by simp) ?_
                        refine AllReadyH.cons (o := { dst := some 82, op := Op.call { callee := Callee.value (Operand.func 15), args := #[Operand.tmp 72, Operand.tmp 76, Operand.tmp 81], argTypes := #[25, 3, 31] }, type := 0, pos := "law.go:182", after := #[{ on := 0, ground := Ground.data }, { on := 4, ground := Ground.data }, { on := 9, ground := Ground.data }, { on := 9, ground := Ground.chain }], guard := none }) rfl (fun K hK => ?_) ?_
                        · (go_simp; go_at_call 15; refine (send_2 ((H4.out.below HWD.out).below bz3) z 0 1 (LN.txt i) (by omega) HPL.out).mono ?_; rintro u wz4 ⟨rfl, h4⟩; have bq4 := h4.bel; dsimp only)
                          refine hK.out _ _ ?_ (fun hHeld => ?_)
                          · exact HCZ.out _ bq4
                          clear hK K
                          (try simp only [Act.put, List.setIfInBounds_toArray, List.set_cons_zero, List.set_cons_succ])
                          refine wpAnyH_done (by kernel_rfl) ?_ _
                          have hpo : sendP T 2 i z 0 1 (LN.txt i) (PO T a2 i) = PO T a2 (i + 1) := by rw [← HZZ.out]; rfl
                          rw [hpo] at h4
                          have H5 := Lib.hid h4
                          clear h4 bq0 bq1 bq3 bq4 bz1 bz3 hpo
                          go_wp2
                          go_roundw
                          case rel => exact ⟨i + 1, by go_num, hin, by omega, H5⟩
                          case measure => simp [intOf]; omega
                        exact AllReadyH.nil
                      exact AllReadyH.nil
                    exact AllReadyH.nil
                  exact AllReadyH.nil
                exact AllReadyH.nil
              exact AllReadyH.nil
            exact AllReadyH.nil
          exact AllReadyH.nil
        · by_cases hin2 : i < N2
          · have hii : (i : Int) < (N2 : Int) := by omega
            have hii2 : ¬ (i : Int) < 20 := by omega
            clear hin hin2
            have HSN := Lib.hid (PO_sn T a2 i)
            have HLEN : Hid ((PO T a2 i).length ≤ 1000) := Lib.hid (by have := HSN.out.len; omega)
            obtain ⟨Q, hQ⟩ : ∃ Q, PO T a2 i = Q := ⟨_, rfl⟩
            rw [hQ] at HW HLEN HSN
            clear hQ
            obtain ⟨wz, hwz⟩ : ∃ wz, wz = wr := ⟨_, rfl⟩
            subst hwz
            go_upto_region 17 with fail
            go_loopw [13] (fun v13 wr => ∃ (j : Nat) (R : List Pc), v13 = .int .i64 (j : Int) ∧ j ≤ 200 ∧ Hid (LN.Ord R) ∧ Hid (R.length ≤ 1000) ∧ Hid (Two w w4.heap.size wr A B 2 2 T T i i R R)) (fun v _ => 200 - (intOf v).toNat)
            case atStart => exact ⟨0, Q, rfl, by omega, Lib.hid HSN.out.ord, HLEN, HW⟩
            case round =>
              clear HW HSN HLEN
              obtain ⟨j, R, rfl, hj, HO, HL, HW⟩ := hrel
              by_cases hj2 : j < 200
              · have hjj : (j : Int) < 200 := by omega
                by_cases hR : R = []
                · subst hR
                  have hne := fun w => neq_ms w 0 0 ⟨#[]⟩
                  have HN1 := Lib.hid (none_1 HW.out)
                  go_wp2_with fail
                  go_at_call 20
                  refine HN1.out.mono ?_
                  rintro x wa ⟨rfl, ha⟩
                  have hbx := balloc (Below.refl _ wa) (ms0C)
                  have hxx := heap_alloc_new wa (ms0C)
                  obtain ⟨X, hX⟩ : ∃ X, wa.heap.size = X := ⟨_, rfl⟩
                  have HN2 := Lib.hid (none_2k ha hbx)
                  have HXE := Lib.hid hX
                  have HXX := Lib.hid hxx
                  clear ha hbx hxx hX
                  go_upto_region 20 with fail
                  try rw [HXE.out]
                  go_wp2_with fail
                  go_at_call 20
                  refine HN2.out.mono ?_
                  rintro x wb ⟨rfl, hb, hfb⟩
                  have hxb := hfb.nd HXX.out (fun h => by omega)
                  have hx2 := ((balloc (Below.refl _ wb) (ms0C)).block wa.heap.size (Array.getElem?_eq_some_iff.1 hxb).1).trans hxb
                  rw [HXE.out] at hx2
                  have q0 := nd_cell (i := 0) hx2 rfl
                  have q1 := nd_cell (i := 1) hx2 rfl
                  have q2 := nd_cell (i := 2) hx2 rfl
                  have HFI := Lib.hid (hb.below (balloc (Below.refl _ wb) ms0C)).bel
                  clear hb hfb hxb hx2
                  go_upto_region 21 with fail
                  go_wp2
                  go_ret
                  exact ⟨rfl, HFI.out⟩
                · obtain ⟨p, hp⟩ := LN.bs_some hR
                  have hne := fun w => neq_ms w p.f p.o p.s
                  have HN1 := Lib.hid (next_1 HW.out HO.out (by have := HL.out; omega) p hp)
                  have HPP := Lib.hid hp
                  clear hR hp
                  go_wp2_with fail
                  go_at_call 20
                  refine HN1.out.mono ?_
                  rintro x wa ⟨rfl, ha⟩
                  have hbx := balloc (Below.refl _ wa) (.cells #[.int .i64 p.f, .int .i64 p.o, .string p.s] 31)
                  have hxx := heap_alloc_new wa (.cells #[.int .i64 p.f, .int .i64 p.o, .string p.s] 31)
                  obtain ⟨X, hX⟩ : ∃ X, wa.heap.size = X := ⟨_, rfl⟩
                  have HN2 := Lib.hid (next_2k ha hbx HO.out (by have := HL.out; omega) p HPP.out)
                  have HXE := Lib.hid hX
                  have HXX := Lib.hid hxx
                  clear ha hbx hxx hX
                  go_upto_region 20 with fail
                  try rw [HXE.out]
                  go_wp2_with fail
                  go_at_call 20
                  refine HN2.out.mono ?_
                  rintro x wb ⟨rfl, hb, hfb⟩
                  have hxb := hfb.nd HXX.out (fun h => by omega)
                  have hx2 := ((balloc (Below.refl _ wb) (.cells #[.int .i64 p.f, .int .i64 p.o, .string p.s] 31)).block wa.heap.size (Array.getElem?_eq_some_iff.1 hxb).1).trans hxb
                  rw [HXE.out] at hx2
                  have q0 := nd_cell (i := 0) hx2 rfl
                  have q1 := nd_cell (i := 1) hx2 rfl
                  have q2 := nd_cell (i := 2) hx2 rfl
                  have HBB := Lib.hid (hb.below (balloc (Below.refl _ wb) (.cells #[.int .i64 p.f, .int .i64 p.o, .string p.s] 31)))
                  have HO2 := Lib.hid (Ord.erase HO.out (LN.bs R))
                  have HL2 : Hid ((R.eraseIdx (LN.bs R)).length ≤ 1000) := Lib.hid (Nat.le_trans (len_erase _ _) HL.out)
                  clear hb hfb hxb hx2
                  go_upto_region 21 with fail
                  go_wp2
                  go_roundw
                  case rel => exact ⟨j + 1, _, by go_num, hj2, HO2, HL2, HBB⟩
                  case measure => simp [intOf]; omega
              · have hjj : ¬ (j : Int) < 200 := by omega
                have HFI := Lib.hid HW.out.bel
                clear hj2 hj
                go_wp2
                go_ret
                exact ⟨rfl, HFI.out⟩
          · have hii : ¬ (i : Int) < (N2 : Int) := by omega
            clear hin hin2
            have HSN := Lib.hid (PO_sn T a2 i)
            have HLEN : Hid ((PO T a2 i).length ≤ 1000) := Lib.hid (by have := HSN.out.len; omega)
            obtain ⟨Q, hQ⟩ : ∃ Q, PO T a2 i = Q := ⟨_, rfl⟩
            rw [hQ] at HW HLEN HSN
            clear hQ
            obtain ⟨wz, hwz⟩ : ∃ wz, wz = wr := ⟨_, rfl⟩
            subst hwz
            go_upto_region 17 with fail
            go_loopw [13] (fun v13 wr => ∃ (j : Nat) (R : List Pc), v13 = .int .i64 (j : Int) ∧ j ≤ 200 ∧ Hid (LN.Ord R) ∧ Hid (R.length ≤ 1000) ∧ Hid (Two w w4.heap.size wr A B 2 2 T T i i R R)) (fun v _ => 200 - (intOf v).toNat)
            case atStart => exact ⟨0, Q, rfl, by omega, Lib.hid HSN.out.ord, HLEN, HW⟩
            case round =>
              clear HW HSN HLEN
              obtain ⟨j, R, rfl, hj, HO, HL, HW⟩ := hrel
              by_cases hj2 : j < 200
              · have hjj : (j : Int) < 200 := by omega
                by_cases hR : R = []
                · subst hR
                  have hne := fun w => neq_ms w 0 0 ⟨#[]⟩
                  have HN1 := Lib.hid (none_1 HW.out)
                  go_wp2_with fail
                  go_at_call 20
                  refine HN1.out.mono ?_
                  rintro x wa ⟨rfl, ha⟩
                  have hbx := balloc (Below.refl _ wa) (ms0C)
                  have hxx := heap_alloc_new wa (ms0C)
                  obtain ⟨X, hX⟩ : ∃ X, wa.heap.size = X := ⟨_, rfl⟩
                  have HN2 := Lib.hid (none_2k ha hbx)
                  have HXE := Lib.hid hX
                  have HXX := Lib.hid hxx
                  clear ha hbx hxx hX
                  go_upto_region 20 with fail
                  try rw [HXE.out]
                  go_wp2_with fail
                  go_at_call 20
                  refine HN2.out.mono ?_
                  rintro x wb ⟨rfl, hb, hfb⟩
                  have hxb := hfb.nd HXX.out (fun h => by omega)
                  have hx2 := ((balloc (Below.refl _ wb) (ms0C)).block wa.heap.size (Array.getElem?_eq_some_iff.1 hxb).1).trans hxb
                  rw [HXE.out] at hx2
                  have q0 := nd_cell (i := 0) hx2 rfl
                  have q1 := nd_cell (i := 1) hx2 rfl
                  have q2 := nd_cell (i := 2) hx2 rfl
                  have HFI := Lib.hid (hb.below (balloc (Below.refl _ wb) ms0C)).bel
                  clear hb hfb hxb hx2
                  go_upto_region 21 with fail
                  go_wp2
                  go_ret
                  exact ⟨rfl, HFI.out⟩
                · obtain ⟨p, hp⟩ := LN.bs_some hR
                  have hne := fun w => neq_ms w p.f p.o p.s
                  have HN1 := Lib.hid (next_1 HW.out HO.out (by have := HL.out; omega) p hp)
                  have HPP := Lib.hid hp
                  clear hR hp
                  go_wp2_with fail
                  go_at_call 20
                  refine HN1.out.mono ?_
                  rintro x wa ⟨rfl, ha⟩
                  have hbx := balloc (Below.refl _ wa) (.cells #[.int .i64 p.f, .int .i64 p.o, .string p.s] 31)
                  have hxx := heap_alloc_new wa (.cells #[.int .i64 p.f, .int .i64 p.o, .string p.s] 31)
                  obtain ⟨X, hX⟩ : ∃ X, wa.heap.size = X := ⟨_, rfl⟩
                  have HN2 := Lib.hid (next_2k ha hbx HO.out (by have := HL.out; omega) p HPP.out)
                  have HXE := Lib.hid hX
                  have HXX := Lib.hid hxx
                  clear ha hbx hxx hX
                  go_upto_region 20 with fail
                  try rw [HXE.out]
                  go_wp2_with fail
                  go_at_call 20
                  refine HN2.out.mono ?_
                  rintro x wb ⟨rfl, hb, hfb⟩
                  have hxb := hfb.nd HXX.out (fun h => by omega)
                  have hx2 := ((balloc (Below.refl _ wb) (.cells #[.int .i64 p.f, .int .i64 p.o, .string p.s] 31)).block wa.heap.size (Array.getElem?_eq_some_iff.1 hxb).1).trans hxb
                  rw [HXE.out] at hx2
                  have q0 := nd_cell (i := 0) hx2 rfl
                  have q1 := nd_cell (i := 1) hx2 rfl
                  have q2 := nd_cell (i := 2) hx2 rfl
                  have HBB := Lib.hid (hb.below (balloc (Below.refl _ wb) (.cells #[.int .i64 p.f, .int .i64 p.o, .string p.s] 31)))
                  have HO2 := Lib.hid (Ord.erase HO.out (LN.bs R))
                  have HL2 : Hid ((R.eraseIdx (LN.bs R)).length ≤ 1000) := Lib.hid (Nat.le_trans (len_erase _ _) HL.out)
                  clear hb hfb hxb hx2
                  go_upto_region 21 with fail
                  go_wp2
                  go_roundw
                  case rel => exact ⟨j + 1, _, by go_num, hj2, HO2, HL2, HBB⟩
                  case measure => simp [intOf]; omega
              · have hjj : ¬ (j : Int) < 200 := by omega
                have HFI := Lib.hid HW.out.bel
                clear hj2 hj
                go_wp2
                go_ret
                exact ⟨rfl, HFI.out⟩

set_option maxRecDepth 100000 in
theorem lifted (os : Os) (started : os.Started) (H : Type) (enc : TypeId × Value → H) :
    ReturnsInHanded {} Try.checked os 7 .any (Rows.linesOwnSpec.pre6 enc Try.prog Try.f7 Rows.linesOwnRow.domain false) (Rows.linesOwnSpec.post enc Try.prog Try.f7 false true false false) := by
  refine returnsInHanded_of_change (C := Try.checked) own started (by kernel_rfl) Try.func7
    (ChangeSpec.witness6 (enc := enc) (C := Try.checked) false ⟨#[], #[.slice none 0 0, .slice none 0 0, .slice none 0 0], []⟩ 8 (by kernel_rfl) (by kernel_rfl) (by kernel_rfl) (by kernel_rfl)) ?_
  intro W base args ds gs before hval0 hW hcnd _
  have hval : ∀ (j : Nat) t v, Try.f7.params[j]? = some t → args[j]? = some v → Value.okWide Try.prog W .any base t v := hval0
  have hW' := hW
  obtain ⟨p, q, hA0, hV, rfl, hfz, hnd⟩ := hW
  have hA : DataW.TrodAll enc Try.prog W 0 (fun _ => true) true Try.f7.params.toList args.toList ds p := hA0
  rw [Try.params7] at hA hval
  obtain ⟨v0, vs0, d0, ds0, p0, q0, hargs, rfl, rfl, h0, r0⟩ := trodAll_cons hA
  obtain ⟨v1, vs1, d1, ds1, p1, q1, rfl, rfl, rfl, h1, r1⟩ := trodAll_cons r0
  obtain ⟨v2, vs2, d2, ds2, p2, q2, rfl, rfl, rfl, h2, r2⟩ := trodAll_cons r1
  obtain ⟨rfl, rfl, rfl⟩ := trodAll_nil r2
  obtain rfl : args = #[v0, v1, v2] := by cases args; simp_all
  obtain ⟨rfl, rfl⟩ := trodVars_none hV
  have k0 := h0
  have lt0 : ∀ x ∈ p0, x.block < W.heap.size := by obtain ⟨m, hm⟩ := k0; exact DataW.trod_lt m _ _ _ hm
  have k1 := h1
  have lt1 : ∀ x ∈ p1, x.block < W.heap.size := by obtain ⟨m, hm⟩ := k1; exact DataW.trod_lt m _ _ _ hm
  have k2 := h2
  have lt2 : ∀ x ∈ p2, x.block < W.heap.size := by obtain ⟨m, hm⟩ := k2; exact DataW.trod_lt m _ _ _ hm
  obtain ⟨a0, H0⟩ := open_trs (hval 0 22 v0 rfl rfl) h0
  obtain ⟨a1, H1⟩ := open_trs (hval 1 22 v1 rfl rfl) h1
  obtain ⟨a2, H2, L2, E2⟩ := open_l (hval 2 37 v2 rfl rfl) h2
  clear hA0 hval0
  refine (walk v0 a0 v1 a1 v2 a2  W H0 H1 H2 L2 E2).mono fun e W' ⟨he, bel⟩ => ?_
  subst he
  exact ⟨_, rfl, _, _, _, [], _, [], hW', trodAll_mk1 (shut_bool Try.underlying4 _), (trodAll_cons_mk (Below.trod laidOut (by kernel_rfl) (of_decide_eq_true (by kernel_rfl)) k0 bel lt0) (trodAll_cons_mk (Below.trod laidOut (by kernel_rfl) (of_decide_eq_true (by kernel_rfl)) k1 bel lt1) (trodAll_cons_mk (Below.trod laidOut (by kernel_rfl) (of_decide_eq_true (by kernel_rfl)) k2 bel lt2) trodAll_mk0))), rfl, bel.frame _, fun h => by cases h⟩

theorem over : Rows.linesOwnRow.holds Try.pinned (OpenSpec.ofChange Rows.linesOwnSpec) :=
  OpenClaim.holds_of_wide 7 Try.f7 rfl rfl rfl rfl rfl rfl rfl ⟨rfl, rfl, rfl, rfl, rfl⟩ rfl rfl rfl rfl rfl (by kernel_rfl) Try.func7 (by kernel_rfl)
    (of_decide_eq_true (by kernel_rfl)) (by unfold Func.isWrapper; first | (rw [if_pos (by decide +kernel)]; kernel_rfl) | (rw [if_neg (by decide +kernel)]; exact ⟨rfl, rfl⟩))
    (fun os started H enc _ => lifted os started H enc)

end Go.Proofs.Ytgphdgalcbcamaa.linesOwn
namespace Go.Proofs.Ytgphdgalcbcamaa
theorem linesOwn_proved : Rows.LinesOwnSaid := linesOwn.over
#print axioms linesOwn_proved
end Go.Proofs.Ytgphdgalcbcamaa
