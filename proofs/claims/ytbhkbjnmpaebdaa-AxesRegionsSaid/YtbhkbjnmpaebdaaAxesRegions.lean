/- For every region, list of coordinates and numbers AxesRegions returns true: Right and Scalar answer as the reference does, for any regions and coordinates, and a region that numbers make is right. No conditions. -/
import Derived.Test.YtbhkbjnmpaebdaaAx32
import Derived.Test.YtbhkbjnmpaebdaaLast
import Derived.Test.YtbhkbjnmpaebdaaHeldIn
namespace Go.Proofs.Ytbhkbjnmpaebdaa.axesRegions
open Go.ChangeShapes Go.WideShapes Go.ChangeAt Go.RowKit Go.Joins Go.Deep
set_option linter.unusedVariables false

set_option maxRecDepth 100000 in
set_option maxHeartbeats 16000000 in
theorem walk (u0 : Value) (a0 : List AX.Tn) (v1 : Value) (a1 : List Int) (p2 : Value) (q2 : Value) (r2 : Value) (l2 : List Int) (m2 : List Int) (n2 : List Int)  (w : World) (H0 : TnArg w u0 a0) (H1 : InArg w v1 a1) (H2 : InArg w p2 l2 ∧ InArg w q2 m2 ∧ InArg w r2 n2) :
    Calls Try.prog 5 #[.agg #[u0], v1, .agg #[p2, q2, r2]] w fun e w' => e = .returned (.bool true) ∧ Below w.heap.size w w' := by
  obtain ⟨i1, hi1, hy0, hy1, hy2⟩ := info_parts info_tn
  obtain ⟨hts, htl, htc⟩ := H0
  have hts' := hts
  obtain ⟨ta, tc, rfl, -, -⟩ := hts'
  obtain ⟨tn, htn⟩ : ∃ tn, a0.length = tn := ⟨_, rfl⟩
  have HTN := Lib.hid htn
  have HTS : Hid (∀ V, Below w.heap.size w V → SrcN 3 V (.slice ta tn tc) a0.length (AX.tnc a0)) := Lib.hid fun V hV => by rw [← HTN.out]; exact hts.keep hV
  have HTC := Lib.hid htc
  rw [htn] at HTC ⊢
  obtain ⟨hp1, hp2, hp3⟩ := H2
  have kp := hp1.1
  have kq := hp2.1
  have kr := hp3.1
  obtain ⟨pa, pc, rfl, -⟩ := kp
  obtain ⟨qa, qc, rfl, -⟩ := kq
  obtain ⟨ra, rc, rfl, hrr⟩ := kr
  obtain ⟨pn, hpn⟩ : ∃ pn, l2.length = pn := ⟨_, rfl⟩
  obtain ⟨qn, hqn⟩ : ∃ qn, m2.length = qn := ⟨_, rfl⟩
  obtain ⟨rn, hrn⟩ : ∃ rn, n2.length = rn := ⟨_, rfl⟩
  rw [hpn] at hp1
  rw [hqn] at hp2
  rw [hpn, hqn, hrn]
  have HIP0 : Hid (∀ V, Below w.heap.size w V → InArg V (.slice pa pn pc) l2) := Lib.hid fun V hV => hp1.keep hV
  have HIQ0 : Hid (∀ V, Below w.heap.size w V → InArg V (.slice qa qn qc) m2) := Lib.hid fun V hV => hp2.keep hV
  have ki := H1.1
  obtain ⟨ia, ic, rfl, -⟩ := ki
  obtain ⟨inn, hin⟩ : ∃ inn, a1.length = inn := ⟨_, rfl⟩
  rw [hin] at H1 ⊢
  have hic := (H1.2.2 _ _ _ rfl).1
  obtain ⟨m, hm⟩ : ∃ m : Nat, (if (5 : Int) < (inn : Int) then 5 else (inn : Int)) = (m : Int) := ⟨min inn 5, by split <;> omega⟩
  have hm5 : m ≤ 5 ∧ m ≤ inn := by split at hm <;> omega
  have hmc : m ≤ ic := by omega
  have HATW : Hid (∀ V, Below w.heap.size w V → InAt V (.slice ia m ic) (a1.take m)) := Lib.hid fun V hV => (H1.1.take hm5.2).keep hV
  have HATL : Hid ((a1.take m).length ≤ 5) := Lib.hid (by rw [List.length_take]; omega)
  obtain ⟨nr, hnr⟩ : ∃ nr, AX.num n2 0 = nr := ⟨_, rfl⟩
  have hnrb := AX.num_bd n2 0
  rw [hnr] at hnrb
  obtain ⟨n, hn⟩ : ∃ n : Nat, nr % 4 = (n : Int) := ⟨(nr % 4).toNat, by omega⟩
  have hn3 : n ≤ 3 := by omega
  have hcase : (rn = 0 ∧ n = 0) ∨ (0 < rn ∧ ∃ g o z, ra = some ⟨g, o, none⟩ ∧ g < w.heap.size ∧ w.cell? ⟨g, o, none⟩ = some (.int .i64 z) ∧ bits .and .i64 z 65535 = nr) := by
    cases hl : n2 with
    | nil =>
      rw [hl] at hrn hnr
      have : nr = 0 := by rw [← hnr]; rfl
      left
      rw [this] at hn
      exact ⟨by simpa using hrn.symm, by omega⟩
    | cons z l =>
      right
      rcases hrr with h | ⟨g, o, e, hg, hc⟩
      · rw [hl] at h
        simp at h
      · refine ⟨by rw [← hrn, hl]; simp, g, o, z, e, hg, hc 0 z (by rw [hl]; rfl), ?_⟩
        rw [i64_and65535, ← hnr, hl]
        rfl
  obtain ⟨B, hB⟩ : ∃ B, w.heap.size = B := ⟨_, rfl⟩
  obtain ⟨W0, hW0, b0, b1, bel0, hsz0⟩ := two_blocks w (.cells #[.slice ta tn tc] 42) (.cells #[.slice pa pn pc, .slice qa qn qc, .slice ra rn rc] 43) B hB
  have HBX0 : Hid (∀ V, Below W0.heap.size W0 V → V.heap[B]? = some (.cells #[.slice ta tn tc] 42 (0, 0))) := Lib.hid fun V hV => (hV.block B (Array.getElem?_eq_some_iff.1 b0).1).trans b0
  have HCX0 : Hid (∀ V, Below W0.heap.size W0 V → V.heap[B + 1]? = some (.cells #[.slice pa pn pc, .slice qa qn qc, .slice ra rn rc] 43 (0, 0))) := Lib.hid fun V hV => (hV.block (B + 1) (Array.getElem?_eq_some_iff.1 b1).1).trans b1
  have HB0 := Lib.hid bel0
  have HB := Lib.hid hB
  have HSZ0 := Lib.hid hsz0
  clear H1 hts htl htc htn hp1 hp2 hp3 hpn hqn hrn hin hrr b0 b1 bel0 hsz0 hnr
  go_enter Try.func5, Try.ntmps5
  go_upto_region 1 with fail
  try rw [hW0]
  try rw [hB]
  clear hW0 hB
  go_wp2_with fail
  refine (sane_any _).mono ?_
  rintro e w1 ⟨rfl, hb1⟩
  have HB1 := Lib.hid hb1
  have c0 := cell_of (HBX0.out w1 hb1) (i := 0) rfl
  have f0 := frozen_of (HBX0.out w1 hb1) 0
  clear hb1
  go_wp2_with fail
  refine (few_any a0 _ w1 (by have := HTS.out w1 (bnext HB0.out HB1.out); exact this) (fun a n c e => (HTC.out a n c e).1)).mono ?_
  rintro e w2 ⟨fv, fm, rfl, hfm5, hfml, hfo, hb2⟩
  obtain ⟨fa, fc, rfl⟩ := own_shape hfo
  have HFM := Lib.hid hfml
  have hx2 := HBX0.out w2 (bnext HB1.out hb2)
  have x0 := cell_of hx2 (i := 0) rfl
  have f1 := frozen_of hx2 0
  have HX3 := Lib.hid (heap_setCell_same w2 B 0 _ _ (.slice fa fm fc) hx2)
  have HC3 := Lib.hid ((Below.heap_setCell w2 ⟨B, 0, none⟩ (.slice fa fm fc) (B + 1) (by show B + 1 ≠ B; omega)).trans (HCX0.out w2 (bnext HB1.out hb2)))
  have HBwb := Lib.hid (bset (bnext HB0.out (bnext HB1.out hb2)) (p := ⟨B, 0, none⟩) (by have := HB.out; show w.heap.size ≤ B; omega) (.slice fa fm fc))
  have HRwb : Hid (SrcN 3 (w2.setCell ⟨B, 0, none⟩ (.slice fa fm fc)) (.slice fa fm fc) fm (AX.tnc (a0.take fm))) := Lib.hid (by
    have h1 := own_of_grown hfo (set_kept w2 B 0 (.slice fa fm fc)) (fun q h1 e => by
      have := (hfo.lt q h1).1
      have := HB1.out.size
      have := HSZ0.out
      have := Option.some.inj e
      omega)
    exact own_srcN h1)
  clear c0 f0 hx2 hfo hb2 hfml
  go_upto_region 3 with fail
  obtain ⟨wb, hwb⟩ : ∃ wb, w2.setCell ⟨B, 0, none⟩ (.slice fa fm fc) = wb := ⟨_, rfl⟩
  try rw [hwb]
  rw [hwb] at HX3 HC3 HBwb HRwb
  clear hwb x0 f1
  have y2 := cell_of HC3.out (i := 2) rfl
  obtain ⟨bt, hbt⟩ : ∃ bt, decide (0 < rn) = bt := ⟨_, rfl⟩
  obtain ⟨bi, hbi⟩ : ∃ bi, decide ((0 : Int) < (rn : Int)) = bi := ⟨_, rfl⟩
  have HBI := Lib.hid hbi
  clear hbt
  go_upto_if 26 with fail
  go_cut [8] from 27 to 32 (fun s8 wx => s8 = .int .i64 (n : Int) ∧ wb = wx)
  case first =>
    rcases hcase with ⟨hr0, hn0⟩ | ⟨hr0, g, o, z, rfl, hg, hcz, hbz⟩
    · have hbf : bi = false := by rw [← HBI.out, hr0]; rfl
      subst hbf
      go_wp2_with fail
      go_meet
      exact ⟨by rw [hn0]; rfl, rfl⟩
    · have hcz3 := (HBwb.out.cell (p := ⟨g, o, none⟩) hg).trans hcz
      have hrn1 : 1 ≤ rn := hr0
      have hbf : bi = true := by rw [← HBI.out, decide_eq_true_iff]; omega
      subst hbf
      go_wp2_with fail
      try simp only [hn]
      go_meet
      exact ⟨rfl, rfl⟩
  case rest =>
    obtain ⟨rfl, he⟩ := hcut
    subst he
    have HIP : Hid (∀ V, Below wb.heap.size wb V → InArg V (.slice pa pn pc) l2) := Lib.hid fun V hV => HIP0.out V (bnext HBwb.out hV)
    have HIQ : Hid (∀ V, Below wb.heap.size wb V → InArg V (.slice qa qn qc) m2) := Lib.hid fun V hV => HIQ0.out V (bnext HBwb.out hV)
    have HS7 : Hid (∀ V, Below wb.heap.size wb V → (fun w' => w'.cell? ⟨B + 1, 0, none⟩ = some (.slice pa pn pc) ∧ w'.cell? ⟨B + 1, 1, none⟩ = some (.slice qa qn qc)) V) := Lib.hid fun V hV => by
      have h := (hV.block (B + 1) (Array.getElem?_eq_some_iff.1 HC3.out).1).trans HC3.out
      exact ⟨cell_of h rfl, cell_of h rfl⟩
    obtain ⟨q0, q1⟩ := HS7.out wb (Below.refl _ _)
    clear y2 hbi hcase
    go_upto_region 7 with fail
    go_cut [9, 10] from 33 to 40 (fun s9 s10 wx => ∃ (D : Nat) (ma : Option Addr) (mc : Nat) (ta' : Option Addr) (tc' : Nat), s9 = .pointer (some ⟨D, 0, none⟩) ∧ s10 = .slice ta' n tc' ∧ wx.heap[D]? = some (.cells #[.slice ma n mc] 42 (0, 0)) ∧ SrcN 3 wx (.slice ma n mc) n (AX.tnc (AX.mkReg l2 n)) ∧ InAt wx (.slice ta' n tc') (AX.mkAt m2 n) ∧ Below wb.heap.size wb wx)
    case first =>
      have r0 := RS.nil wb
      refine wp_region_held_drew (S := fun w' => w'.cell? ⟨B + 1, 0, none⟩ = some (.slice pa pn pc) ∧ w'.cell? ⟨B + 1, 1, none⟩ = some (.slice qa qn qc)) (by kernel_rfl) ?_ (fun hHeld => ?_)
      · first | exact HS7.out _ (balloc r2.bel _) | exact HS7.out _ (r3.fin (.slice ma n mc)).2.2.2 | exact HS7.out _ r3.bel | exact HS7.out _ r2.bel | exact HS7.out _ r1.bel | exact HS7.out _ r0.bel
      refine wpAnyH_take (i := 0) (oi := { dst := some 33, op := Op.indexAddr 43 (Operand.tmp 5) (Operand.const (Value.int IntKind.i64 0)), type := 0, pos := "law.go:127", after := #[], guard := none }) (v := ?_) rfl (by kernel_rfl) (by kernel_rfl) (by kernel_rfl) (fun _ _ _ h => h) (Or.inl ⟨by rfl, ?_⟩) (by assumption) ?_
      rotate_left
      · ((intro w hSw; (try dsimp only at hSw); go_simp; (try rw [if_neg (by omega)])); try with_reducible rfl)
      (try simp only [Act.put, List.setIfInBounds_toArray, List.set_cons_zero, List.set_cons_succ])
      refine wpAnyH_take (i := 1) (oi := { dst := some 34, op := Op.load 25 (Operand.tmp 33), type := 25, pos := "law.go:127", after := #[{ on := 0, ground := Ground.data }], guard := none }) (v := ?_) rfl (by kernel_rfl) (by kernel_rfl) (by kernel_rfl) (fun _ _ _ h => h) (Or.inl ⟨by rfl, ?_⟩) (by assumption) ?_
      rotate_left
      · ((intro w hSw; (try dsimp only at hSw); go_simp; (try rw [if_neg (by omega)])); try with_reducible rfl)
      (try simp only [Act.put, List.setIfInBounds_toArray, List.set_cons_zero, List.set_cons_succ])
      refine wpAnyH_take (i := 2) (oi := { dst := some 35, op := Op.move (Operand.tmp 8), type := 3, pos := "law.go:127", after := #[], guard := none }) (v := ?_) rfl (by kernel_rfl) (by kernel_rfl) (by kernel_rfl) (fun _ _ _ h => h) (Or.inl ⟨by rfl, ?_⟩) (by assumption) ?_
      rotate_left
      · ((intro w hSw; (try dsimp only at hSw); go_simp; (try rw [if_neg (by omega)])); try with_reducible rfl)
      (try simp only [Act.put, List.setIfInBounds_toArray, List.set_cons_zero, List.set_cons_succ])
      refine wpAnyH_take (i := 4) (oi := { dst := some 37, op := Op.indexAddr 43 (Operand.tmp 5) (Operand.const (Value.int IntKind.i64 1)), type := 0, pos := "law.go:127", after := #[], guard := none }) (v := ?_) rfl (by kernel_rfl) (by kernel_rfl) (by kernel_rfl) (fun _ _ _ h => h) (Or.inl ⟨by rfl, ?_⟩) (by assumption) ?_
      rotate_left
      · ((intro w hSw; (try dsimp only at hSw); go_simp; (try rw [if_neg (by omega)])); try with_reducible rfl)
      (try simp only [Act.put, List.setIfInBounds_toArray, List.set_cons_zero, List.set_cons_succ])
      refine wpAnyH_take (i := 5) (oi := { dst := some 38, op := Op.load 25 (Operand.tmp 37), type := 25, pos := "law.go:127", after := #[{ on := 4, ground := Ground.data }], guard := none }) (v := ?_) rfl (by kernel_rfl) (by kernel_rfl) (by kernel_rfl) (fun _ _ _ h => h) (Or.inl ⟨by rfl, ?_⟩) (by assumption) ?_
      rotate_left
      · ((intro w hSw; (try dsimp only at hSw); go_simp; (try rw [if_neg (by omega)])); try with_reducible rfl)
      (try simp only [Act.put, List.setIfInBounds_toArray, List.set_cons_zero, List.set_cons_succ])
      refine wpAnyH_take (i := 6) (oi := { dst := some 39, op := Op.move (Operand.tmp 8), type := 3, pos := "law.go:127", after := #[], guard := none }) (v := ?_) rfl (by kernel_rfl) (by kernel_rfl) (by kernel_rfl) (fun _ _ _ h => h) (Or.inl ⟨by rfl, ?_⟩) (by assumption) ?_
      rotate_left
      · ((intro w hSw; (try dsimp only at hSw); go_simp; (try rw [if_neg (by omega)])); try with_reducible rfl)
      (try simp only [Act.put, List.setIfInBounds_toArray, List.set_cons_zero, List.set_cons_succ])
      refine wpAnyH_ready (rs := [3, 8]) (by kernel_rfl) (by simp) ?_
      refine AllReadyH.cons (o := { dst := some 36, op := Op.call { callee := Callee.value (Operand.func 21), args := #[Operand.tmp 34, Operand.tmp 35], argTypes := #[25, 3] }, type := 42, pos := "law.go:127", after := #[{ on := 1, ground := Ground.data }, { on := 2, ground := Ground.data }], guard := none }) rfl (fun K hK => ?_) ?_
      · go_simp
        go_at_call 21
        refine (maderegion_any l2 n _ _ (HIP.out _ r0.bel).1 (HIP.out _ r0.bel).2.1 hn3).mono ?_
        rintro e w5 ⟨u5, rfl, ho5, hb5⟩
        obtain ⟨ma, mc, rfl⟩ := own_shape ho5
        have r1 := r0.reg hb5 ho5
        dsimp only
        refine hK.out _ _ ?_ (fun hHeld => ?_)
        · first | exact HS7.out _ (balloc r2.bel _) | exact HS7.out _ (r3.fin (.slice ma n mc)).2.2.2 | exact HS7.out _ r3.bel | exact HS7.out _ r2.bel | exact HS7.out _ r1.bel | exact HS7.out _ r0.bel
        clear hK K
        (try simp only [Act.put, List.setIfInBounds_toArray, List.set_cons_zero, List.set_cons_succ])
        refine wpAnyH_ready (rs := [7, 8]) (by kernel_rfl) (by simp) ?_
        refine AllReadyH.cons (o := { dst := some 40, op := Op.call { callee := Callee.value (Operand.func 22), args := #[Operand.tmp 38, Operand.tmp 39], argTypes := #[25, 3] }, type := 25, pos := "law.go:127", after := #[{ on := 5, ground := Ground.data }, { on := 6, ground := Ground.data }, { on := 3, ground := Ground.chain }], guard := none }) rfl (fun K hK => ?_) ?_
        · go_simp
          go_at_call 22
          refine (madeat_any m2 n _ _ (HIQ.out _ r1.bel).1 (HIQ.out _ r1.bel).2.1 hn3).mono ?_
          rintro e w6 ⟨u6', rfl, ho6, hb6⟩
          obtain ⟨ta', tc', rfl⟩ := own_shape ho6
          have r2 := r1.ints hb6 ho6
          dsimp only
          refine hK.out _ _ ?_ (fun hHeld => ?_)
          · first | exact HS7.out _ (balloc r2.bel _) | exact HS7.out _ (r3.fin (.slice ma n mc)).2.2.2 | exact HS7.out _ r3.bel | exact HS7.out _ r2.bel | exact HS7.out _ r1.bel | exact HS7.out _ r0.bel
          clear hK K
          (try simp only [Act.put, List.setIfInBounds_toArray, List.set_cons_zero, List.set_cons_succ])
          refine wpAnyH_ready (rs := [8]) (by kernel_rfl) (by simp) ?_
          refine AllReadyH.cons (o := { dst := some 9, op := Op.alloc 42, type := 0, pos := "law.go:127", after := #[], guard := none }) rfl (fun K hK => ?_) ?_
          · go_simp
            have r3 := r2.bx (b := w6.heap.size) rfl
            refine hK.out _ _ ?_ (fun hHeld => ?_)
            · first | exact HS7.out _ (balloc r2.bel _) | exact HS7.out _ (r3.fin (.slice ma n mc)).2.2.2 | exact HS7.out _ r3.bel | exact HS7.out _ r2.bel | exact HS7.out _ r1.bel | exact HS7.out _ r0.bel
            clear hK K
            (try simp only [Act.put, List.setIfInBounds_toArray, List.set_cons_zero, List.set_cons_succ])
            refine wpAnyH_ready (rs := [9]) (by kernel_rfl) (by simp) ?_
            refine AllReadyH.cons (o := { dst := none, op := Op.store 42 (Operand.tmp 9) (Operand.tmp 36), type := 0, pos := "law.go:127", after := #[{ on := 8, ground := Ground.data }, { on := 3, ground := Ground.data }, { on := 7, ground := Ground.chain }, { on := 0, ground := Ground.phase }, { on := 1, ground := Ground.phase }, { on := 2, ground := Ground.phase }, { on := 3, ground := Ground.phase }, { on := 4, ground := Ground.textOnly Departure.lateStores }, { on := 5, ground := Ground.textOnly Departure.lateStores }, { on := 6, ground := Ground.textOnly Departure.lateStores }, { on := 7, ground := Ground.textOnly Departure.lateStoresUnsure }, { on := 8, ground := Ground.phase }], guard := none }) rfl (fun K hK => ?_) ?_
            · have z0 := r3.cell
              have f0 := r3.frozen
              go_simp
              refine hK.out _ _ ?_ (fun hHeld => ?_)
              · first | exact HS7.out _ (balloc r2.bel _) | exact HS7.out _ (r3.fin (.slice ma n mc)).2.2.2 | exact HS7.out _ r3.bel | exact HS7.out _ r2.bel | exact HS7.out _ r1.bel | exact HS7.out _ r0.bel
              clear hK K
              (try simp only [Act.put, List.setIfInBounds_toArray, List.set_cons_zero, List.set_cons_succ])
              refine wpAnyH_take (i := 10) (oi := { dst := some 10, op := Op.assign (Operand.tmp 40), type := 25, pos := "law.go:127", after := #[{ on := 7, ground := Ground.data }, { on := 9, ground := Ground.chain }, { on := 0, ground := Ground.phase }, { on := 1, ground := Ground.phase }, { on := 2, ground := Ground.phase }, { on := 3, ground := Ground.phase }, { on := 4, ground := Ground.phase }, { on := 5, ground := Ground.phase }, { on := 6, ground := Ground.phase }, { on := 7, ground := Ground.phase }, { on := 8, ground := Ground.phase }, { on := 9, ground := Ground.phase }], guard := none }) (v := ?_) rfl (by kernel_rfl) (by kernel_rfl) (by kernel_rfl) (fun _ _ _ h => h) (Or.inl ⟨by rfl, ?_⟩) (by assumption) ?_
              rotate_left
              · ((intro w hSw; (try dsimp only at hSw); go_simp; (try rw [if_neg (by omega)])); try with_reducible rfl)
              (try simp only [Act.put, List.setIfInBounds_toArray, List.set_cons_zero, List.set_cons_succ])
              refine wpAnyH_done (by kernel_rfl) ?_ _
              go_wp2_with fail
              go_meet
              first
                | (obtain ⟨f1, f2, f3, f4⟩ := r3.fin (.slice ma n mc); exact ⟨_, ma, mc, ta', tc', rfl, rfl, f1, f2, InAt.of (row_own f3 (by simp [AX.mkAt_len])), f4⟩)
                | (obtain ⟨f1, f2, f3, f4⟩ := r2.fin2 (.slice ma n mc) rfl; exact ⟨_, ma, mc, ta', tc', rfl, rfl, f1, f2, InAt.of (row_own f3 (by simp [AX.mkAt_len])), f4⟩)
            exact AllReadyH.nil
          exact AllReadyH.nil
        refine AllReadyH.cons (o := { dst := some 9, op := Op.alloc 42, type := 0, pos := "law.go:127", after := #[], guard := none }) rfl (fun K hK => ?_) ?_
        · go_simp
          have r2 := r1.bx (b := w5.heap.size) rfl
          refine hK.out _ _ ?_ (fun hHeld => ?_)
          · first | exact HS7.out _ (balloc r2.bel _) | exact HS7.out _ (r3.fin (.slice ma n mc)).2.2.2 | exact HS7.out _ r3.bel | exact HS7.out _ r2.bel | exact HS7.out _ r1.bel | exact HS7.out _ r0.bel
          clear hK K
          (try simp only [Act.put, List.setIfInBounds_toArray, List.set_cons_zero, List.set_cons_succ])
          refine wpAnyH_ready (rs := [7]) (by kernel_rfl) (by simp) ?_
          refine AllReadyH.cons (o := { dst := some 40, op := Op.call { callee := Callee.value (Operand.func 22), args := #[Operand.tmp 38, Operand.tmp 39], argTypes := #[25, 3] }, type := 25, pos := "law.go:127", after := #[{ on := 5, ground := Ground.data }, { on := 6, ground := Ground.data }, { on := 3, ground := Ground.chain }], guard := none }) rfl (fun K hK => ?_) ?_
          · go_simp
            go_at_call 22
            refine (madeat_any m2 n _ _ (HIQ.out _ r2.bel).1 (HIQ.out _ r2.bel).2.1 hn3).mono ?_
            rintro e w6 ⟨u6', rfl, ho6, hb6⟩
            obtain ⟨ta', tc', rfl⟩ := own_shape ho6
            have r3 := r2.ints hb6 ho6
            dsimp only
            refine hK.out _ _ ?_ (fun hHeld => ?_)
            · first | exact HS7.out _ (balloc r2.bel _) | exact HS7.out _ (r3.fin (.slice ma n mc)).2.2.2 | exact HS7.out _ r3.bel | exact HS7.out _ r2.bel | exact HS7.out _ r1.bel | exact HS7.out _ r0.bel
            clear hK K
            (try simp only [Act.put, List.setIfInBounds_toArray, List.set_cons_zero, List.set_cons_succ])
            refine wpAnyH_ready (rs := [9]) (by kernel_rfl) (by simp) ?_
            refine AllReadyH.cons (o := { dst := none, op := Op.store 42 (Operand.tmp 9) (Operand.tmp 36), type := 0, pos := "law.go:127", after := #[{ on := 8, ground := Ground.data }, { on := 3, ground := Ground.data }, { on := 7, ground := Ground.chain }, { on := 0, ground := Ground.phase }, { on := 1, ground := Ground.phase }, { on := 2, ground := Ground.phase }, { on := 3, ground := Ground.phase }, { on := 4, ground := Ground.textOnly Departure.lateStores }, { on := 5, ground := Ground.textOnly Departure.lateStores }, { on := 6, ground := Ground.textOnly Departure.lateStores }, { on := 7, ground := Ground.textOnly Departure.lateStoresUnsure }, { on := 8, ground := Ground.phase }], guard := none }) rfl (fun K hK => ?_) ?_
            · have z0 := r3.cell
              have f0 := r3.frozen
              go_simp
              refine hK.out _ _ ?_ (fun hHeld => ?_)
              · first | exact HS7.out _ (balloc r2.bel _) | exact HS7.out _ (r3.fin (.slice ma n mc)).2.2.2 | exact HS7.out _ r3.bel | exact HS7.out _ r2.bel | exact HS7.out _ r1.bel | exact HS7.out _ r0.bel
              clear hK K
              (try simp only [Act.put, List.setIfInBounds_toArray, List.set_cons_zero, List.set_cons_succ])
              refine wpAnyH_take (i := 10) (oi := { dst := some 10, op := Op.assign (Operand.tmp 40), type := 25, pos := "law.go:127", after := #[{ on := 7, ground := Ground.data }, { on := 9, ground := Ground.chain }, { on := 0, ground := Ground.phase }, { on := 1, ground := Ground.phase }, { on := 2, ground := Ground.phase }, { on := 3, ground := Ground.phase }, { on := 4, ground := Ground.phase }, { on := 5, ground := Ground.phase }, { on := 6, ground := Ground.phase }, { on := 7, ground := Ground.phase }, { on := 8, ground := Ground.phase }, { on := 9, ground := Ground.phase }], guard := none }) (v := ?_) rfl (by kernel_rfl) (by kernel_rfl) (by kernel_rfl) (fun _ _ _ h => h) (Or.inl ⟨by rfl, ?_⟩) (by assumption) ?_
              rotate_left
              · ((intro w hSw; (try dsimp only at hSw); go_simp; (try rw [if_neg (by omega)])); try with_reducible rfl)
              (try simp only [Act.put, List.setIfInBounds_toArray, List.set_cons_zero, List.set_cons_succ])
              refine wpAnyH_done (by kernel_rfl) ?_ _
              go_wp2_with fail
              go_meet
              first
                | (obtain ⟨f1, f2, f3, f4⟩ := r3.fin (.slice ma n mc); exact ⟨_, ma, mc, ta', tc', rfl, rfl, f1, f2, InAt.of (row_own f3 (by simp [AX.mkAt_len])), f4⟩)
                | (obtain ⟨f1, f2, f3, f4⟩ := r2.fin2 (.slice ma n mc) rfl; exact ⟨_, ma, mc, ta', tc', rfl, rfl, f1, f2, InAt.of (row_own f3 (by simp [AX.mkAt_len])), f4⟩)
            exact AllReadyH.nil
          exact AllReadyH.nil
        exact AllReadyH.nil
      refine AllReadyH.cons (o := { dst := some 9, op := Op.alloc 42, type := 0, pos := "law.go:127", after := #[], guard := none }) rfl (fun K hK => ?_) ?_
      · go_simp
        have r1 := r0.bx (b := wb.heap.size) rfl
        refine hK.out _ _ ?_ (fun hHeld => ?_)
        · first | exact HS7.out _ (balloc r2.bel _) | exact HS7.out _ (r3.fin (.slice ma n mc)).2.2.2 | exact HS7.out _ r3.bel | exact HS7.out _ r2.bel | exact HS7.out _ r1.bel | exact HS7.out _ r0.bel
        clear hK K
        (try simp only [Act.put, List.setIfInBounds_toArray, List.set_cons_zero, List.set_cons_succ])
        refine wpAnyH_ready (rs := [3]) (by kernel_rfl) (by simp) ?_
        refine AllReadyH.cons (o := { dst := some 36, op := Op.call { callee := Callee.value (Operand.func 21), args := #[Operand.tmp 34, Operand.tmp 35], argTypes := #[25, 3] }, type := 42, pos := "law.go:127", after := #[{ on := 1, ground := Ground.data }, { on := 2, ground := Ground.data }], guard := none }) rfl (fun K hK => ?_) ?_
        · go_simp
          go_at_call 21
          refine (maderegion_any l2 n _ _ (HIP.out _ r1.bel).1 (HIP.out _ r1.bel).2.1 hn3).mono ?_
          rintro e w5 ⟨u5, rfl, ho5, hb5⟩
          obtain ⟨ma, mc, rfl⟩ := own_shape ho5
          have r2 := r1.reg hb5 ho5
          dsimp only
          refine hK.out _ _ ?_ (fun hHeld => ?_)
          · first | exact HS7.out _ (balloc r2.bel _) | exact HS7.out _ (r3.fin (.slice ma n mc)).2.2.2 | exact HS7.out _ r3.bel | exact HS7.out _ r2.bel | exact HS7.out _ r1.bel | exact HS7.out _ r0.bel
          clear hK K
          (try simp only [Act.put, List.setIfInBounds_toArray, List.set_cons_zero, List.set_cons_succ])
          refine wpAnyH_ready (rs := [7]) (by kernel_rfl) (by simp) ?_
          refine AllReadyH.cons (o := { dst := some 40, op := Op.call { callee := Callee.value (Operand.func 22), args := #[Operand.tmp 38, Operand.tmp 39], argTypes := #[25, 3] }, type := 25, pos := "law.go:127", after := #[{ on := 5, ground := Ground.data }, { on := 6, ground := Ground.data }, { on := 3, ground := Ground.chain }], guard := none }) rfl (fun K hK => ?_) ?_
          · go_simp
            go_at_call 22
            refine (madeat_any m2 n _ _ (HIQ.out _ r2.bel).1 (HIQ.out _ r2.bel).2.1 hn3).mono ?_
            rintro e w6 ⟨u6', rfl, ho6, hb6⟩
            obtain ⟨ta', tc', rfl⟩ := own_shape ho6
            have r3 := r2.ints hb6 ho6
            dsimp only
            refine hK.out _ _ ?_ (fun hHeld => ?_)
            · first | exact HS7.out _ (balloc r2.bel _) | exact HS7.out _ (r3.fin (.slice ma n mc)).2.2.2 | exact HS7.out _ r3.bel | exact HS7.out _ r2.bel | exact HS7.out _ r1.bel | exact HS7.out _ r0.bel
            clear hK K
            (try simp only [Act.put, List.setIfInBounds_toArray, List.set_cons_zero, List.set_cons_succ])
            refine wpAnyH_ready (rs := [9]) (by kernel_rfl) (by simp) ?_
            refine AllReadyH.cons (o := { dst := none, op := Op.store 42 (Operand.tmp 9) (Operand.tmp 36), type := 0, pos := "law.go:127", after := #[{ on := 8, ground := Ground.data }, { on := 3, ground := Ground.data }, { on := 7, ground := Ground.chain }, { on := 0, ground := Ground.phase }, { on := 1, ground := Ground.phase }, { on := 2, ground := Ground.phase }, { on := 3, ground := Ground.phase }, { on := 4, ground := Ground.textOnly Departure.lateStores }, { on := 5, ground := Ground.textOnly Departure.lateStores }, { on := 6, ground := Ground.textOnly Departure.lateStores }, { on := 7, ground := Ground.textOnly Departure.lateStoresUnsure }, { on := 8, ground := Ground.phase }], guard := none }) rfl (fun K hK => ?_) ?_
            · have z0 := r3.cell
              have f0 := r3.frozen
              go_simp
              refine hK.out _ _ ?_ (fun hHeld => ?_)
              · first | exact HS7.out _ (balloc r2.bel _) | exact HS7.out _ (r3.fin (.slice ma n mc)).2.2.2 | exact HS7.out _ r3.bel | exact HS7.out _ r2.bel | exact HS7.out _ r1.bel | exact HS7.out _ r0.bel
              clear hK K
              (try simp only [Act.put, List.setIfInBounds_toArray, List.set_cons_zero, List.set_cons_succ])
              refine wpAnyH_take (i := 10) (oi := { dst := some 10, op := Op.assign (Operand.tmp 40), type := 25, pos := "law.go:127", after := #[{ on := 7, ground := Ground.data }, { on := 9, ground := Ground.chain }, { on := 0, ground := Ground.phase }, { on := 1, ground := Ground.phase }, { on := 2, ground := Ground.phase }, { on := 3, ground := Ground.phase }, { on := 4, ground := Ground.phase }, { on := 5, ground := Ground.phase }, { on := 6, ground := Ground.phase }, { on := 7, ground := Ground.phase }, { on := 8, ground := Ground.phase }, { on := 9, ground := Ground.phase }], guard := none }) (v := ?_) rfl (by kernel_rfl) (by kernel_rfl) (by kernel_rfl) (fun _ _ _ h => h) (Or.inl ⟨by rfl, ?_⟩) (by assumption) ?_
              rotate_left
              · ((intro w hSw; (try dsimp only at hSw); go_simp; (try rw [if_neg (by omega)])); try with_reducible rfl)
              (try simp only [Act.put, List.setIfInBounds_toArray, List.set_cons_zero, List.set_cons_succ])
              refine wpAnyH_done (by kernel_rfl) ?_ _
              go_wp2_with fail
              go_meet
              first
                | (obtain ⟨f1, f2, f3, f4⟩ := r3.fin (.slice ma n mc); exact ⟨_, ma, mc, ta', tc', rfl, rfl, f1, f2, InAt.of (row_own f3 (by simp [AX.mkAt_len])), f4⟩)
                | (obtain ⟨f1, f2, f3, f4⟩ := r2.fin2 (.slice ma n mc) rfl; exact ⟨_, ma, mc, ta', tc', rfl, rfl, f1, f2, InAt.of (row_own f3 (by simp [AX.mkAt_len])), f4⟩)
            exact AllReadyH.nil
          exact AllReadyH.nil
        exact AllReadyH.nil
      exact AllReadyH.nil
    case rest =>
      obtain ⟨D, ma, mc, ta', tc', rfl, rfl, hdx, hmr, hxt, hbc⟩ := hcut
      obtain ⟨wd, hwd⟩ : ∃ wd, wd = wc := ⟨_, rfl⟩
      subst hwd
      have hbx3 := (hbc.block B (Array.getElem?_eq_some_iff.1 HX3.out).1).trans HX3.out
      have HMR : Hid (∀ V, Below wd.heap.size wd V → SrcN 3 V (.slice ma n mc) n (AX.tnc (AX.mkReg l2 n))) := Lib.hid fun V hV => hmr.keep hV
      have HRW : Hid (∀ V, Below wd.heap.size wd V → SrcN 3 V (.slice fa fm fc) fm (AX.tnc (a0.take fm))) := Lib.hid fun V hV => HRwb.out.keep (bnext hbc hV)
      have HXT0 : Hid (InAt wd (.slice ta' n tc') (AX.mkAt m2 n)) := Lib.hid hxt
      have HBD := Lib.hid (bnext HBwb.out hbc)
      have HS8b : Hid (∀ V, Below wd.heap.size wd V → V.heap[D]? = some (.cells #[.slice ma n mc] 42 (0, 0)) ∧ V.heap[B]? = some (.cells #[.slice fa fm fc] 42 (0, 0))) := Lib.hid fun V hV => ⟨(hV.block D (Array.getElem?_eq_some_iff.1 hdx).1).trans hdx, (hV.block B (Array.getElem?_eq_some_iff.1 hbx3).1).trans hbx3⟩
      have HS8 : Hid (∀ V, Below wd.heap.size wd V → (fun w' => w'.cell? ⟨D, 0, none⟩ = some (.slice ma n mc) ∧ w'.cell? ⟨B, 0, none⟩ = some (.slice fa fm fc)) V) := Lib.hid fun V hV => ⟨cell_of (HS8b.out V hV).1 rfl, cell_of (HS8b.out V hV).2 rfl⟩
      clear hdx hmr hxt hbc hbx3 q0 q1
      obtain ⟨q0, q1⟩ := HS8.out wd (Below.refl _ _)
      go_upto_region 8 with fail
      go_cut [11] from 41 to 48 (fun s11 wx => ∃ (E : Nat) (xa : Option Addr) (xc : Nat), s11 = .pointer (some ⟨E, 0, none⟩) ∧ wx.heap[E]? = some (.cells #[.slice xa (n + fm) xc] 42 (0, 0)) ∧ SrcN 3 wx (.slice xa (n + fm) xc) (n + fm) (AX.tnc (AX.mkReg l2 n) ++ AX.tnc (a0.take fm)) ∧ Below wd.heap.size wd wx)
      case first =>
        have r0 := RS.nil wd
        refine wp_region_held_drew (S := fun w' => w'.cell? ⟨D, 0, none⟩ = some (.slice ma n mc) ∧ w'.cell? ⟨B, 0, none⟩ = some (.slice fa fm fc)) (by kernel_rfl) ?_ (fun hHeld => ?_)
        · first | exact HS8.out _ (balloc r3.bel _) | exact HS8.out _ (r4.fin (.slice ra8 (n + fm) rc8)).2.2.2 | exact HS8.out _ r4.bel | exact HS8.out _ r3.bel | exact HS8.out _ r2.bel | exact HS8.out _ r1.bel | exact HS8.out _ r0.bel
        refine wpAnyH_take (i := 1) (oi := { dst := some 42, op := Op.fieldAddr 42 (Operand.tmp 9) 0, type := 0, pos := "law.go:128", after := #[], guard := none }) (v := ?_) rfl (by kernel_rfl) (by kernel_rfl) (by kernel_rfl) (fun _ _ _ h => h) (Or.inl ⟨by rfl, ?_⟩) (by assumption) ?_
        rotate_left
        · ((intro w hSw; (try dsimp only at hSw); go_simp; (try rw [if_neg (by omega)])); try with_reducible rfl)
        (try simp only [Act.put, List.setIfInBounds_toArray, List.set_cons_zero, List.set_cons_succ])
        refine wpAnyH_take (i := 2) (oi := { dst := some 43, op := Op.load 40 (Operand.tmp 42), type := 40, pos := "law.go:128", after := #[{ on := 1, ground := Ground.data }], guard := none }) (v := ?_) rfl (by kernel_rfl) (by kernel_rfl) (by kernel_rfl) (fun _ _ _ h => h) (Or.inl ⟨by rfl, ?_⟩) (by assumption) ?_
        rotate_left
        · ((intro w hSw; (try dsimp only at hSw); go_simp; (try rw [if_neg (by omega)])); try with_reducible rfl)
        (try simp only [Act.put, List.setIfInBounds_toArray, List.set_cons_zero, List.set_cons_succ])
        refine wpAnyH_take (i := 4) (oi := { dst := some 45, op := Op.fieldAddr 42 (Operand.tmp 3) 0, type := 0, pos := "law.go:128", after := #[], guard := none }) (v := ?_) rfl (by kernel_rfl) (by kernel_rfl) (by kernel_rfl) (fun _ _ _ h => h) (Or.inl ⟨by rfl, ?_⟩) (by assumption) ?_
        rotate_left
        · ((intro w hSw; (try dsimp only at hSw); go_simp; (try rw [if_neg (by omega)])); try with_reducible rfl)
        (try simp only [Act.put, List.setIfInBounds_toArray, List.set_cons_zero, List.set_cons_succ])
        refine wpAnyH_take (i := 5) (oi := { dst := some 46, op := Op.load 40 (Operand.tmp 45), type := 40, pos := "law.go:128", after := #[{ on := 4, ground := Ground.data }], guard := none }) (v := ?_) rfl (by kernel_rfl) (by kernel_rfl) (by kernel_rfl) (fun _ _ _ h => h) (Or.inl ⟨by rfl, ?_⟩) (by assumption) ?_
        rotate_left
        · ((intro w hSw; (try dsimp only at hSw); go_simp; (try rw [if_neg (by omega)])); try with_reducible rfl)
        (try simp only [Act.put, List.setIfInBounds_toArray, List.set_cons_zero, List.set_cons_succ])
        refine wpAnyH_ready (rs := [0, 8]) (by kernel_rfl) (by simp) ?_
        refine AllReadyH.cons (o := { dst := some 41, op := Op.buildSlice 40 0 #[], type := 40, pos := "law.go:128", after := #[], guard := none }) rfl (fun K hK => ?_) ?_
        · go_simp
          have r1 := r0.lit (b := wd.heap.size) (by first | rfl | simp)
          refine hK.out _ _ ?_ (fun hHeld => ?_)
          · first | exact HS8.out _ (balloc r3.bel _) | exact HS8.out _ (r4.fin (.slice ra8 (n + fm) rc8)).2.2.2 | exact HS8.out _ r4.bel | exact HS8.out _ r3.bel | exact HS8.out _ r2.bel | exact HS8.out _ r1.bel | exact HS8.out _ r0.bel
          clear hK K
          (try simp only [Act.put, List.setIfInBounds_toArray, List.set_cons_zero, List.set_cons_succ])
          refine wpAnyH_ready (rs := [3, 8]) (by kernel_rfl) (by simp) ?_
          refine AllReadyH.cons (o := { dst := some 44, op := Op.call { callee := Callee.builtin Builtin.append, args := #[Operand.tmp 41, Operand.tmp 43], argTypes := #[40, 40] }, type := 40, pos := "law.go:128", after := #[{ on := 0, ground := Ground.data }, { on := 2, ground := Ground.data }], guard := none }) rfl (fun K hK => ?_) ?_
          · refine step_appN (by rfl) _ _ _ (by rfl) wd.heap.size 71 i1 _ 3 24 Try.underlying40 hi1 hy0 hy1 hy2 rfl (by omega) _ 0 [] (by rfl) r1.own1 _ n (AX.tnc (AX.mkReg l2 n)) (by rfl) (HMR.out _ r1.bel) (AX.tnc_one _) (by unfold maxLen; omega) (by omega) r1.bel.size ?_
            intro v7 w7 ho7 hg7 ht7
            rw [Nat.zero_add, List.nil_append] at ho7
            have r2 := r1.app hg7 ho7 ht7
            obtain ⟨ra7, rc7, rfl⟩ := own_shape ho7
            refine hK.out _ _ ?_ (fun hHeld => ?_)
            · first | exact HS8.out _ (balloc r3.bel _) | exact HS8.out _ (r4.fin (.slice ra8 (n + fm) rc8)).2.2.2 | exact HS8.out _ r4.bel | exact HS8.out _ r3.bel | exact HS8.out _ r2.bel | exact HS8.out _ r1.bel | exact HS8.out _ r0.bel
            clear hK K
            (try simp only [Act.put, List.setIfInBounds_toArray, List.set_cons_zero, List.set_cons_succ])
            refine wpAnyH_ready (rs := [6, 8]) (by kernel_rfl) (by simp) ?_
            refine AllReadyH.cons (o := { dst := some 47, op := Op.call { callee := Callee.builtin Builtin.append, args := #[Operand.tmp 44, Operand.tmp 46], argTypes := #[40, 40] }, type := 40, pos := "law.go:128", after := #[{ on := 3, ground := Ground.data }, { on := 5, ground := Ground.data }, { on := 3, ground := Ground.chain }], guard := none }) rfl (fun K hK => ?_) ?_
            · refine step_appN (by rfl) _ _ _ (by rfl) wd.heap.size 71 i1 _ 3 24 Try.underlying40 hi1 hy0 hy1 hy2 rfl (by omega) _ n (AX.tnc (AX.mkReg l2 n)) (by rfl) r2.own1 _ fm (AX.tnc (a0.take fm)) (by rfl) (HRW.out _ r2.bel) (AX.tnc_one _) (by unfold maxLen; omega) (by omega) r2.bel.size ?_
              intro v8 w8 ho8 hg8 ht8
              have r3 := r2.app hg8 ho8 ht8
              obtain ⟨ra8, rc8, rfl⟩ := own_shape ho8
              refine hK.out _ _ ?_ (fun hHeld => ?_)
              · first | exact HS8.out _ (balloc r3.bel _) | exact HS8.out _ (r4.fin (.slice ra8 (n + fm) rc8)).2.2.2 | exact HS8.out _ r4.bel | exact HS8.out _ r3.bel | exact HS8.out _ r2.bel | exact HS8.out _ r1.bel | exact HS8.out _ r0.bel
              clear hK K
              (try simp only [Act.put, List.setIfInBounds_toArray, List.set_cons_zero, List.set_cons_succ])
              refine wpAnyH_take (i := 7) (oi := { dst := some 48, op := Op.build 42 #[(0, Operand.tmp 47)], type := 42, pos := "law.go:128", after := #[{ on := 6, ground := Ground.data }], guard := none }) (v := ?_) rfl (by kernel_rfl) (by kernel_rfl) (by kernel_rfl) (fun _ _ _ h => h) (Or.inl ⟨by rfl, ?_⟩) (by assumption) ?_
              rotate_left
              · ((intro w hSw; (try dsimp only at hSw); go_simp; (try rw [if_neg (by omega)])); try with_reducible rfl)
              (try simp only [Act.put, List.setIfInBounds_toArray, List.set_cons_zero, List.set_cons_succ])
              refine wpAnyH_ready (rs := [8]) (by kernel_rfl) (by simp) ?_
              refine AllReadyH.cons (o := { dst := some 11, op := Op.alloc 42, type := 0, pos := "law.go:128", after := #[], guard := none }) rfl (fun K hK => ?_) ?_
              · go_simp
                have r4 := r3.bx (b := w8.heap.size) (by first | rfl | simp)
                refine hK.out _ _ ?_ (fun hHeld => ?_)
                · first | exact HS8.out _ (balloc r3.bel _) | exact HS8.out _ (r4.fin (.slice ra8 (n + fm) rc8)).2.2.2 | exact HS8.out _ r4.bel | exact HS8.out _ r3.bel | exact HS8.out _ r2.bel | exact HS8.out _ r1.bel | exact HS8.out _ r0.bel
                clear hK K
                (try simp only [Act.put, List.setIfInBounds_toArray, List.set_cons_zero, List.set_cons_succ])
                refine wpAnyH_ready (rs := [9]) (by kernel_rfl) (by simp) ?_
                refine AllReadyH.cons (o := { dst := none, op := Op.store 42 (Operand.tmp 11) (Operand.tmp 48), type := 0, pos := "law.go:128", after := #[{ on := 8, ground := Ground.data }, { on := 7, ground := Ground.data }, { on := 6, ground := Ground.chain }, { on := 0, ground := Ground.phase }, { on := 1, ground := Ground.phase }, { on := 2, ground := Ground.phase }, { on := 3, ground := Ground.phase }, { on := 4, ground := Ground.phase }, { on := 5, ground := Ground.phase }, { on := 6, ground := Ground.phase }, { on := 7, ground := Ground.phase }, { on := 8, ground := Ground.phase }], guard := none }) rfl (fun K hK => ?_) ?_
                · have z0 := r4.cell
                  have f0 := r4.frozen
                  go_simp
                  refine hK.out _ _ ?_ (fun hHeld => ?_)
                  · first | exact HS8.out _ (balloc r3.bel _) | exact HS8.out _ (r4.fin (.slice ra8 (n + fm) rc8)).2.2.2 | exact HS8.out _ r4.bel | exact HS8.out _ r3.bel | exact HS8.out _ r2.bel | exact HS8.out _ r1.bel | exact HS8.out _ r0.bel
                  clear hK K
                  (try simp only [Act.put, List.setIfInBounds_toArray, List.set_cons_zero, List.set_cons_succ])
                  refine wpAnyH_done (by kernel_rfl) ?_ _
                  go_wp2_with fail
                  go_meet
                  first
                    | (obtain ⟨f1, f2, f3, f4⟩ := r4.fin (.slice ra8 (n + fm) rc8); exact ⟨_, ra8, rc8, rfl, f1, f2, f4⟩)
                    | (obtain ⟨f1, f2, f3, f4⟩ := r3.fin2 (.slice ra8 (n + fm) rc8) rfl; exact ⟨_, ra8, rc8, rfl, f1, f2, f4⟩)
                exact AllReadyH.nil
              exact AllReadyH.nil
            refine AllReadyH.cons (o := { dst := some 11, op := Op.alloc 42, type := 0, pos := "law.go:128", after := #[], guard := none }) rfl (fun K hK => ?_) ?_
            · go_simp
              have r3 := r2.bx (b := w7.heap.size) (by first | rfl | simp)
              refine hK.out _ _ ?_ (fun hHeld => ?_)
              · first | exact HS8.out _ (balloc r3.bel _) | exact HS8.out _ (r4.fin (.slice ra8 (n + fm) rc8)).2.2.2 | exact HS8.out _ r4.bel | exact HS8.out _ r3.bel | exact HS8.out _ r2.bel | exact HS8.out _ r1.bel | exact HS8.out _ r0.bel
              clear hK K
              (try simp only [Act.put, List.setIfInBounds_toArray, List.set_cons_zero, List.set_cons_succ])
              refine wpAnyH_ready (rs := [6]) (by kernel_rfl) (by simp) ?_
              refine AllReadyH.cons (o := { dst := some 47, op := Op.call { callee := Callee.builtin Builtin.append, args := #[Operand.tmp 44, Operand.tmp 46], argTypes := #[40, 40] }, type := 40, pos := "law.go:128", after := #[{ on := 3, ground := Ground.data }, { on := 5, ground := Ground.data }, { on := 3, ground := Ground.chain }], guard := none }) rfl (fun K hK => ?_) ?_
              · refine step_appN (by rfl) _ _ _ (by rfl) wd.heap.size 71 i1 _ 3 24 Try.underlying40 hi1 hy0 hy1 hy2 rfl (by omega) _ n (AX.tnc (AX.mkReg l2 n)) (by rfl) r3.own1 _ fm (AX.tnc (a0.take fm)) (by rfl) (HRW.out _ r3.bel) (AX.tnc_one _) (by unfold maxLen; omega) (by omega) r3.bel.size ?_
                intro v8 w8 ho8 hg8 ht8
                have r4 := r3.app hg8 ho8 ht8
                obtain ⟨ra8, rc8, rfl⟩ := own_shape ho8
                refine hK.out _ _ ?_ (fun hHeld => ?_)
                · first | exact HS8.out _ (balloc r3.bel _) | exact HS8.out _ (r4.fin (.slice ra8 (n + fm) rc8)).2.2.2 | exact HS8.out _ r4.bel | exact HS8.out _ r3.bel | exact HS8.out _ r2.bel | exact HS8.out _ r1.bel | exact HS8.out _ r0.bel
                clear hK K
                (try simp only [Act.put, List.setIfInBounds_toArray, List.set_cons_zero, List.set_cons_succ])
                refine wpAnyH_take (i := 7) (oi := { dst := some 48, op := Op.build 42 #[(0, Operand.tmp 47)], type := 42, pos := "law.go:128", after := #[{ on := 6, ground := Ground.data }], guard := none }) (v := ?_) rfl (by kernel_rfl) (by kernel_rfl) (by kernel_rfl) (fun _ _ _ h => h) (Or.inl ⟨by rfl, ?_⟩) (by assumption) ?_
                rotate_left
                · ((intro w hSw; (try dsimp only at hSw); go_simp; (try rw [if_neg (by omega)])); try with_reducible rfl)
                (try simp only [Act.put, List.setIfInBounds_toArray, List.set_cons_zero, List.set_cons_succ])
                refine wpAnyH_ready (rs := [9]) (by kernel_rfl) (by simp) ?_
                refine AllReadyH.cons (o := { dst := none, op := Op.store 42 (Operand.tmp 11) (Operand.tmp 48), type := 0, pos := "law.go:128", after := #[{ on := 8, ground := Ground.data }, { on := 7, ground := Ground.data }, { on := 6, ground := Ground.chain }, { on := 0, ground := Ground.phase }, { on := 1, ground := Ground.phase }, { on := 2, ground := Ground.phase }, { on := 3, ground := Ground.phase }, { on := 4, ground := Ground.phase }, { on := 5, ground := Ground.phase }, { on := 6, ground := Ground.phase }, { on := 7, ground := Ground.phase }, { on := 8, ground := Ground.phase }], guard := none }) rfl (fun K hK => ?_) ?_
                · have z0 := r4.cell
                  have f0 := r4.frozen
                  go_simp
                  refine hK.out _ _ ?_ (fun hHeld => ?_)
                  · first | exact HS8.out _ (balloc r3.bel _) | exact HS8.out _ (r4.fin (.slice ra8 (n + fm) rc8)).2.2.2 | exact HS8.out _ r4.bel | exact HS8.out _ r3.bel | exact HS8.out _ r2.bel | exact HS8.out _ r1.bel | exact HS8.out _ r0.bel
                  clear hK K
                  (try simp only [Act.put, List.setIfInBounds_toArray, List.set_cons_zero, List.set_cons_succ])
                  refine wpAnyH_done (by kernel_rfl) ?_ _
                  go_wp2_with fail
                  go_meet
                  first
                    | (obtain ⟨f1, f2, f3, f4⟩ := r4.fin (.slice ra8 (n + fm) rc8); exact ⟨_, ra8, rc8, rfl, f1, f2, f4⟩)
                    | (obtain ⟨f1, f2, f3, f4⟩ := r3.fin2 (.slice ra8 (n + fm) rc8) rfl; exact ⟨_, ra8, rc8, rfl, f1, f2, f4⟩)
                exact AllReadyH.nil
              exact AllReadyH.nil
            exact AllReadyH.nil
          refine AllReadyH.cons (o := { dst := some 11, op := Op.alloc 42, type := 0, pos := "law.go:128", after := #[], guard := none }) rfl (fun K hK => ?_) ?_
          · go_simp
            have r2 := r1.bx (b := wd.heap.size + 1) (by first | rfl | simp)
            refine hK.out _ _ ?_ (fun hHeld => ?_)
            · first | exact HS8.out _ (balloc r3.bel _) | exact HS8.out _ (r4.fin (.slice ra8 (n + fm) rc8)).2.2.2 | exact HS8.out _ r4.bel | exact HS8.out _ r3.bel | exact HS8.out _ r2.bel | exact HS8.out _ r1.bel | exact HS8.out _ r0.bel
            clear hK K
            (try simp only [Act.put, List.setIfInBounds_toArray, List.set_cons_zero, List.set_cons_succ])
            refine wpAnyH_ready (rs := [3]) (by kernel_rfl) (by simp) ?_
            refine AllReadyH.cons (o := { dst := some 44, op := Op.call { callee := Callee.builtin Builtin.append, args := #[Operand.tmp 41, Operand.tmp 43], argTypes := #[40, 40] }, type := 40, pos := "law.go:128", after := #[{ on := 0, ground := Ground.data }, { on := 2, ground := Ground.data }], guard := none }) rfl (fun K hK => ?_) ?_
            · refine step_appN (by rfl) _ _ _ (by rfl) wd.heap.size 71 i1 _ 3 24 Try.underlying40 hi1 hy0 hy1 hy2 rfl (by omega) _ 0 [] (by rfl) r2.own1 _ n (AX.tnc (AX.mkReg l2 n)) (by rfl) (HMR.out _ r2.bel) (AX.tnc_one _) (by unfold maxLen; omega) (by omega) r2.bel.size ?_
              intro v7 w7 ho7 hg7 ht7
              rw [Nat.zero_add, List.nil_append] at ho7
              have r3 := r2.app hg7 ho7 ht7
              obtain ⟨ra7, rc7, rfl⟩ := own_shape ho7
              refine hK.out _ _ ?_ (fun hHeld => ?_)
              · first | exact HS8.out _ (balloc r3.bel _) | exact HS8.out _ (r4.fin (.slice ra8 (n + fm) rc8)).2.2.2 | exact HS8.out _ r4.bel | exact HS8.out _ r3.bel | exact HS8.out _ r2.bel | exact HS8.out _ r1.bel | exact HS8.out _ r0.bel
              clear hK K
              (try simp only [Act.put, List.setIfInBounds_toArray, List.set_cons_zero, List.set_cons_succ])
              refine wpAnyH_ready (rs := [6]) (by kernel_rfl) (by simp) ?_
              refine AllReadyH.cons (o := { dst := some 47, op := Op.call { callee := Callee.builtin Builtin.append, args := #[Operand.tmp 44, Operand.tmp 46], argTypes := #[40, 40] }, type := 40, pos := "law.go:128", after := #[{ on := 3, ground := Ground.data }, { on := 5, ground := Ground.data }, { on := 3, ground := Ground.chain }], guard := none }) rfl (fun K hK => ?_) ?_
              · refine step_appN (by rfl) _ _ _ (by rfl) wd.heap.size 71 i1 _ 3 24 Try.underlying40 hi1 hy0 hy1 hy2 rfl (by omega) _ n (AX.tnc (AX.mkReg l2 n)) (by rfl) r3.own1 _ fm (AX.tnc (a0.take fm)) (by rfl) (HRW.out _ r3.bel) (AX.tnc_one _) (by unfold maxLen; omega) (by omega) r3.bel.size ?_
                intro v8 w8 ho8 hg8 ht8
                have r4 := r3.app hg8 ho8 ht8
                obtain ⟨ra8, rc8, rfl⟩ := own_shape ho8
                refine hK.out _ _ ?_ (fun hHeld => ?_)
                · first | exact HS8.out _ (balloc r3.bel _) | exact HS8.out _ (r4.fin (.slice ra8 (n + fm) rc8)).2.2.2 | exact HS8.out _ r4.bel | exact HS8.out _ r3.bel | exact HS8.out _ r2.bel | exact HS8.out _ r1.bel | exact HS8.out _ r0.bel
                clear hK K
                (try simp only [Act.put, List.setIfInBounds_toArray, List.set_cons_zero, List.set_cons_succ])
                refine wpAnyH_take (i := 7) (oi := { dst := some 48, op := Op.build 42 #[(0, Operand.tmp 47)], type := 42, pos := "law.go:128", after := #[{ on := 6, ground := Ground.data }], guard := none }) (v := ?_) rfl (by kernel_rfl) (by kernel_rfl) (by kernel_rfl) (fun _ _ _ h => h) (Or.inl ⟨by rfl, ?_⟩) (by assumption) ?_
                rotate_left
                · ((intro w hSw; (try dsimp only at hSw); go_simp; (try rw [if_neg (by omega)])); try with_reducible rfl)
                (try simp only [Act.put, List.setIfInBounds_toArray, List.set_cons_zero, List.set_cons_succ])
                refine wpAnyH_ready (rs := [9]) (by kernel_rfl) (by simp) ?_
                refine AllReadyH.cons (o := { dst := none, op := Op.store 42 (Operand.tmp 11) (Operand.tmp 48), type := 0, pos := "law.go:128", after := #[{ on := 8, ground := Ground.data }, { on := 7, ground := Ground.data }, { on := 6, ground := Ground.chain }, { on := 0, ground := Ground.phase }, { on := 1, ground := Ground.phase }, { on := 2, ground := Ground.phase }, { on := 3, ground := Ground.phase }, { on := 4, ground := Ground.phase }, { on := 5, ground := Ground.phase }, { on := 6, ground := Ground.phase }, { on := 7, ground := Ground.phase }, { on := 8, ground := Ground.phase }], guard := none }) rfl (fun K hK => ?_) ?_
                · have z0 := r4.cell
                  have f0 := r4.frozen
                  go_simp
                  refine hK.out _ _ ?_ (fun hHeld => ?_)
                  · first | exact HS8.out _ (balloc r3.bel _) | exact HS8.out _ (r4.fin (.slice ra8 (n + fm) rc8)).2.2.2 | exact HS8.out _ r4.bel | exact HS8.out _ r3.bel | exact HS8.out _ r2.bel | exact HS8.out _ r1.bel | exact HS8.out _ r0.bel
                  clear hK K
                  (try simp only [Act.put, List.setIfInBounds_toArray, List.set_cons_zero, List.set_cons_succ])
                  refine wpAnyH_done (by kernel_rfl) ?_ _
                  go_wp2_with fail
                  go_meet
                  first
                    | (obtain ⟨f1, f2, f3, f4⟩ := r4.fin (.slice ra8 (n + fm) rc8); exact ⟨_, ra8, rc8, rfl, f1, f2, f4⟩)
                    | (obtain ⟨f1, f2, f3, f4⟩ := r3.fin2 (.slice ra8 (n + fm) rc8) rfl; exact ⟨_, ra8, rc8, rfl, f1, f2, f4⟩)
                exact AllReadyH.nil
              exact AllReadyH.nil
            exact AllReadyH.nil
          exact AllReadyH.nil
        refine AllReadyH.cons (o := { dst := some 11, op := Op.alloc 42, type := 0, pos := "law.go:128", after := #[], guard := none }) rfl (fun K hK => ?_) ?_
        · go_simp
          have r1 := r0.bx (b := wd.heap.size) (by first | rfl | simp)
          refine hK.out _ _ ?_ (fun hHeld => ?_)
          · first | exact HS8.out _ (balloc r3.bel _) | exact HS8.out _ (r4.fin (.slice ra8 (n + fm) rc8)).2.2.2 | exact HS8.out _ r4.bel | exact HS8.out _ r3.bel | exact HS8.out _ r2.bel | exact HS8.out _ r1.bel | exact HS8.out _ r0.bel
          clear hK K
          (try simp only [Act.put, List.setIfInBounds_toArray, List.set_cons_zero, List.set_cons_succ])
          refine wpAnyH_ready (rs := [0]) (by kernel_rfl) (by simp) ?_
          refine AllReadyH.cons (o := { dst := some 41, op := Op.buildSlice 40 0 #[], type := 40, pos := "law.go:128", after := #[], guard := none }) rfl (fun K hK => ?_) ?_
          · go_simp
            have r2 := r1.lit (b := wd.heap.size + 1) (by first | rfl | simp)
            refine hK.out _ _ ?_ (fun hHeld => ?_)
            · first | exact HS8.out _ (balloc r3.bel _) | exact HS8.out _ (r4.fin (.slice ra8 (n + fm) rc8)).2.2.2 | exact HS8.out _ r4.bel | exact HS8.out _ r3.bel | exact HS8.out _ r2.bel | exact HS8.out _ r1.bel | exact HS8.out _ r0.bel
            clear hK K
            (try simp only [Act.put, List.setIfInBounds_toArray, List.set_cons_zero, List.set_cons_succ])
            refine wpAnyH_ready (rs := [3]) (by kernel_rfl) (by simp) ?_
            refine AllReadyH.cons (o := { dst := some 44, op := Op.call { callee := Callee.builtin Builtin.append, args := #[Operand.tmp 41, Operand.tmp 43], argTypes := #[40, 40] }, type := 40, pos := "law.go:128", after := #[{ on := 0, ground := Ground.data }, { on := 2, ground := Ground.data }], guard := none }) rfl (fun K hK => ?_) ?_
            · refine step_appN (by rfl) _ _ _ (by rfl) wd.heap.size 71 i1 _ 3 24 Try.underlying40 hi1 hy0 hy1 hy2 rfl (by omega) _ 0 [] (by rfl) r2.own1 _ n (AX.tnc (AX.mkReg l2 n)) (by rfl) (HMR.out _ r2.bel) (AX.tnc_one _) (by unfold maxLen; omega) (by omega) r2.bel.size ?_
              intro v7 w7 ho7 hg7 ht7
              rw [Nat.zero_add, List.nil_append] at ho7
              have r3 := r2.app hg7 ho7 ht7
              obtain ⟨ra7, rc7, rfl⟩ := own_shape ho7
              refine hK.out _ _ ?_ (fun hHeld => ?_)
              · first | exact HS8.out _ (balloc r3.bel _) | exact HS8.out _ (r4.fin (.slice ra8 (n + fm) rc8)).2.2.2 | exact HS8.out _ r4.bel | exact HS8.out _ r3.bel | exact HS8.out _ r2.bel | exact HS8.out _ r1.bel | exact HS8.out _ r0.bel
              clear hK K
              (try simp only [Act.put, List.setIfInBounds_toArray, List.set_cons_zero, List.set_cons_succ])
              refine wpAnyH_ready (rs := [6]) (by kernel_rfl) (by simp) ?_
              refine AllReadyH.cons (o := { dst := some 47, op := Op.call { callee := Callee.builtin Builtin.append, args := #[Operand.tmp 44, Operand.tmp 46], argTypes := #[40, 40] }, type := 40, pos := "law.go:128", after := #[{ on := 3, ground := Ground.data }, { on := 5, ground := Ground.data }, { on := 3, ground := Ground.chain }], guard := none }) rfl (fun K hK => ?_) ?_
              · refine step_appN (by rfl) _ _ _ (by rfl) wd.heap.size 71 i1 _ 3 24 Try.underlying40 hi1 hy0 hy1 hy2 rfl (by omega) _ n (AX.tnc (AX.mkReg l2 n)) (by rfl) r3.own1 _ fm (AX.tnc (a0.take fm)) (by rfl) (HRW.out _ r3.bel) (AX.tnc_one _) (by unfold maxLen; omega) (by omega) r3.bel.size ?_
                intro v8 w8 ho8 hg8 ht8
                have r4 := r3.app hg8 ho8 ht8
                obtain ⟨ra8, rc8, rfl⟩ := own_shape ho8
                refine hK.out _ _ ?_ (fun hHeld => ?_)
                · first | exact HS8.out _ (balloc r3.bel _) | exact HS8.out _ (r4.fin (.slice ra8 (n + fm) rc8)).2.2.2 | exact HS8.out _ r4.bel | exact HS8.out _ r3.bel | exact HS8.out _ r2.bel | exact HS8.out _ r1.bel | exact HS8.out _ r0.bel
                clear hK K
                (try simp only [Act.put, List.setIfInBounds_toArray, List.set_cons_zero, List.set_cons_succ])
                refine wpAnyH_take (i := 7) (oi := { dst := some 48, op := Op.build 42 #[(0, Operand.tmp 47)], type := 42, pos := "law.go:128", after := #[{ on := 6, ground := Ground.data }], guard := none }) (v := ?_) rfl (by kernel_rfl) (by kernel_rfl) (by kernel_rfl) (fun _ _ _ h => h) (Or.inl ⟨by rfl, ?_⟩) (by assumption) ?_
                rotate_left
                · ((intro w hSw; (try dsimp only at hSw); go_simp; (try rw [if_neg (by omega)])); try with_reducible rfl)
                (try simp only [Act.put, List.setIfInBounds_toArray, List.set_cons_zero, List.set_cons_succ])
                refine wpAnyH_ready (rs := [9]) (by kernel_rfl) (by simp) ?_
                refine AllReadyH.cons (o := { dst := none, op := Op.store 42 (Operand.tmp 11) (Operand.tmp 48), type := 0, pos := "law.go:128", after := #[{ on := 8, ground := Ground.data }, { on := 7, ground := Ground.data }, { on := 6, ground := Ground.chain }, { on := 0, ground := Ground.phase }, { on := 1, ground := Ground.phase }, { on := 2, ground := Ground.phase }, { on := 3, ground := Ground.phase }, { on := 4, ground := Ground.phase }, { on := 5, ground := Ground.phase }, { on := 6, ground := Ground.phase }, { on := 7, ground := Ground.phase }, { on := 8, ground := Ground.phase }], guard := none }) rfl (fun K hK => ?_) ?_
                · have z0 := r4.cell
                  have f0 := r4.frozen
                  go_simp
                  refine hK.out _ _ ?_ (fun hHeld => ?_)
                  · first | exact HS8.out _ (balloc r3.bel _) | exact HS8.out _ (r4.fin (.slice ra8 (n + fm) rc8)).2.2.2 | exact HS8.out _ r4.bel | exact HS8.out _ r3.bel | exact HS8.out _ r2.bel | exact HS8.out _ r1.bel | exact HS8.out _ r0.bel
                  clear hK K
                  (try simp only [Act.put, List.setIfInBounds_toArray, List.set_cons_zero, List.set_cons_succ])
                  refine wpAnyH_done (by kernel_rfl) ?_ _
                  go_wp2_with fail
                  go_meet
                  first
                    | (obtain ⟨f1, f2, f3, f4⟩ := r4.fin (.slice ra8 (n + fm) rc8); exact ⟨_, ra8, rc8, rfl, f1, f2, f4⟩)
                    | (obtain ⟨f1, f2, f3, f4⟩ := r3.fin2 (.slice ra8 (n + fm) rc8) rfl; exact ⟨_, ra8, rc8, rfl, f1, f2, f4⟩)
                exact AllReadyH.nil
              exact AllReadyH.nil
            exact AllReadyH.nil
          exact AllReadyH.nil
        exact AllReadyH.nil
      case rest =>
        obtain ⟨E, xa, xc, rfl, hex, hmx, hbe⟩ := hcut
        obtain ⟨we, hwe⟩ : ∃ we, we = wc := ⟨_, rfl⟩
        subst hwe
        obtain ⟨hd1, hd2⟩ := HS8b.out we hbe
        have z0 := cell_of hd2 (i := 0) rfl
        have z1 := cell_of hd1 (i := 0) rfl
        have z2 := cell_of hex (i := 0) rfl
        have HBE := Lib.hid hbe
        have hDlt := (Array.getElem?_eq_some_iff.1 hd1).1
        clear q0 q1
        go_upto_region 10 with fail
        obtain ⟨G, hG⟩ : ∃ G, we.heap.size = G := ⟨_, rfl⟩
        obtain ⟨W9, hW9⟩ : ∃ W9, we.alloc (.cells #[.slice fa fm fc, .slice ma n mc, .slice xa (n + fm) xc] 42) = W9 := ⟨_, rfl⟩
        have hgx : W9.heap[G]? = some (.cells #[.slice fa fm fc, .slice ma n mc, .slice xa (n + fm) xc] 42 (0, 0)) := by rw [← hW9, ← hG]; exact heap_alloc_new we _
        have hb9 : Below we.heap.size we W9 := by rw [← hW9]; exact balloc (Below.refl _ _) _
        try rw [hW9]
        try rw [hG]
        have HD9 := Lib.hid (bnext hbe hb9)
        have HBW9 := Lib.hid (bnext HBD.out (bnext hbe hb9))
        have HXX : Hid (∀ V, Below W9.heap.size W9 V → ∀ i, i < 3 → ∃ (ya : Option Addr) (yn yc : Nat) (y : List AX.Tn), V.cell? ⟨G, i, none⟩ = some (.slice ya yn yc) ∧ TnAt V (.slice ya yn yc) y ∧ y.length ≤ 1000000000000) := Lib.hid fun V hV i hi => by
          have h := (hV.block G (Array.getElem?_eq_some_iff.1 hgx).1).trans hgx
          have hi2 : i = 0 ∨ i = 1 ∨ i = 2 := by omega
          rcases hi2 with h2 | h2 | h2 <;> subst h2
          · have t1 := HRW.out V (bnext HD9.out hV)
            have t2 : SrcN 3 V (.slice fa fm fc) (a0.take fm).length (AX.tnc (a0.take fm)) := by rw [HFM.out]; exact t1
            exact ⟨fa, fm, fc, _, cell_of h rfl, t2.tn, by rw [HFM.out]; omega⟩
          · have t1 := HMR.out V (bnext HD9.out hV)
            have t2 : SrcN 3 V (.slice ma n mc) (AX.mkReg l2 n).length (AX.tnc (AX.mkReg l2 n)) := by rw [AX.mkReg_len]; exact t1
            exact ⟨ma, n, mc, _, cell_of h rfl, t2.tn, by rw [AX.mkReg_len]; omega⟩
          · have t1 := hmx.keep (bnext hb9 hV)
            have hl : (AX.mkReg l2 n ++ a0.take fm).length = n + fm := by rw [List.length_append, AX.mkReg_len, HFM.out]
            have t2 : SrcN 3 V (.slice xa (n + fm) xc) (AX.mkReg l2 n ++ a0.take fm).length (AX.tnc (AX.mkReg l2 n ++ a0.take fm)) := by rw [hl, AX.tnc_app]; exact t1
            exact ⟨xa, n + fm, xc, _, cell_of h rfl, t2.tn, by rw [hl]; omega⟩
        have HGLT : Hid (G < W9.heap.size) := Lib.hid (Array.getElem?_eq_some_iff.1 hgx).1
        have HAT : Hid (∀ V, Below W9.heap.size W9 V → InAt V (.slice ia m ic) (a1.take m)) := Lib.hid fun V hV => HATW.out V (bnext HBW9.out hV)
        have HXT : Hid (∀ V, Below W9.heap.size W9 V → InAt V (.slice ta' n tc') (AX.mkAt m2 n)) := Lib.hid fun V hV => HXT0.out.keep (bnext HD9.out hV)
        have HATL : Hid ((a1.take m).length ≤ 1000000000000) := Lib.hid (by have := HATL.out; omega)
        have HXTL : Hid ((AX.mkAt m2 n).length ≤ 1000000000000) := Lib.hid (by rw [AX.mkAt_len]; omega)
        clear hW9 hG hgx hb9 hd1 hd2 z0 z1 z2 hex hmx hbe
        go_wp2_with fail
        go_loopw [54] (fun v54 wr => ∃ k : Nat, v54 = .int .i64 (k : Int) ∧ k ≤ 3 ∧ Below W9.heap.size W9 wr) (fun v _ => 3 - (intOf v).toNat)
        case atStart => exact ⟨0, rfl, Nat.zero_le _, Below.refl _ _⟩
        case round =>
          obtain ⟨k, rfl, hk, hb⟩ := hrel
          obtain ⟨wo, hwo⟩ : ∃ wo, wo = wr := ⟨_, rfl⟩
          subst hwo
          have HBK := Lib.hid hb
          by_cases hk2 : k < 3
          · have hkk : (k : Int) < 3 := by omega
            have hk0 : (0 : Int) ≤ (k : Int) := by omega
            obtain ⟨ya, yn, yc, y, cy, hty, hyl⟩ := HXX.out wo hb k hk2
            have hglt : G < wo.heap.size := by have := HGLT.out; have := hb.size; omega
            have HTY0 := Lib.hid hty
            clear hty hb
            go_upto_region 12 with fail
            obtain ⟨W10, hW10⟩ : ∃ W10, wo.alloc (.cells #[.slice ya yn yc] 42) = W10 := ⟨_, rfl⟩
            obtain ⟨D2, hD2⟩ : ∃ D2, wo.heap.size = D2 := ⟨_, rfl⟩
            have hdx2 : W10.heap[D2]? = some (.cells #[.slice ya yn yc] 42 (0, 0)) := by rw [← hW10, ← hD2]; exact heap_alloc_new wo _
            have hb10 : Below wo.heap.size wo W10 := by rw [← hW10]; exact balloc (Below.refl _ _) _
            try rw [hW10]
            try rw [hD2]
            have HSY : Hid (∀ V, Below W10.heap.size W10 V → (fun w' => w'.cell? ⟨D2, 0, none⟩ = some (.slice ya yn yc)) V) := Lib.hid fun V hV => (hV.cell (p := ⟨D2, 0, none⟩) (Array.getElem?_eq_some_iff.1 hdx2).1).trans (cell_of hdx2 rfl)
            have HTY : Hid (∀ V, Below W10.heap.size W10 V → TnAt V (.slice ya yn yc) y) := Lib.hid fun V hV => HTY0.out.keep (bnext hb10 hV)
            have HK10 := Lib.hid (bnext HBK.out hb10)
            clear hW10 hD2 hdx2 cy
            go_wp2_with fail
            go_loopw [14] (fun v14 wr => ∃ j : Nat, v14 = .int .i64 ((j : Int) - 1) ∧ j ≤ 7 ∧ Below W10.heap.size W10 wr) (fun v _ => 7 - (intOf v + 1).toNat)
            case atStart => exact ⟨0, rfl, by omega, Below.refl _ _⟩
            case round =>
              obtain ⟨j, rfl, hj, hbj⟩ := hrel
              obtain ⟨wp, hwp⟩ : ∃ wp, wp = wr := ⟨_, rfl⟩
              subst hwp
              have HBJ := Lib.hid hbj
              have hcy := HSY.out wp hbj
              by_cases hj7 : j < 7
              · have hjj : (j : Int) - 1 ≤ 5 := by omega
                obtain ⟨r, hr⟩ : ∃ r, AX.right y ((j : Int) - 1) = r := ⟨_, rfl⟩
                have HR := Lib.hid hr
                have hneq : (r != r) = false := by simp
                clear hr hbj
                go_upto_region 15 with fail
                refine wp_region_last #[{ dst := some 62, op := Op.load 42 (Operand.tmp 13), type := 42, pos := "law.go:131", after := #[], guard := none }, { dst := some 63, op := Op.move (Operand.tmp 14), type := 3, pos := "law.go:131", after := #[], guard := none }, { dst := some 64, op := Op.call { callee := Callee.value (Operand.func 23), args := #[Operand.tmp 62, Operand.tmp 63], argTypes := #[42, 3] }, type := 4, pos := "law.go:131", after := #[{ on := 0, ground := Ground.data }, { on := 1, ground := Ground.data }], guard := none }, { dst := some 65, op := Op.load 42 (Operand.tmp 13), type := 42, pos := "law.go:131", after := #[], guard := none }, { dst := some 66, op := Op.move (Operand.tmp 14), type := 3, pos := "law.go:131", after := #[], guard := none }, { dst := some 67, op := Op.call { callee := Callee.value (Operand.func 24), args := #[Operand.tmp 65, Operand.tmp 66], argTypes := #[42, 3] }, type := 4, pos := "law.go:131", after := #[{ on := 3, ground := Ground.data }, { on := 4, ground := Ground.data }, { on := 2, ground := Ground.chain }], guard := none }] { dst := some 68, op := Op.binOp BinOp.neq 4 (Operand.tmp 64) (Operand.tmp 67) 4, type := 4, pos := "law.go:131", after := #[{ on := 2, ground := Ground.data }, { on := 5, ground := Ground.data }], guard := none } rfl (by kernel_rfl) (by kernel_rfl) (fun w' => w'.cell? ⟨D2, 0, none⟩ = some (.slice ya yn yc)) ?_ (fun hHeld => ?_)
                · first | exact HSY.out _ d11 | exact HSY.out _ d10 | exact HSY.out _ (bnext HBJ.out (Below.drew (Below.refl _ wp)))
                refine wpAnyH_take (i := 0) (oi := { dst := some 62, op := Op.load 42 (Operand.tmp 13), type := 42, pos := "law.go:131", after := #[], guard := none }) (v := ?_) rfl (by kernel_rfl) (by kernel_rfl) (by kernel_rfl) (fun _ _ _ h => h) (Or.inl ⟨by rfl, ?_⟩) (by assumption) ?_
                rotate_left
                · ((intro w hSw; (try dsimp only at hSw); go_simp; (try rw [if_neg (by omega)])); try with_reducible rfl)
                (try simp only [Act.put, List.setIfInBounds_toArray, List.set_cons_zero, List.set_cons_succ])
                refine wpAnyH_take (i := 1) (oi := { dst := some 63, op := Op.move (Operand.tmp 14), type := 3, pos := "law.go:131", after := #[], guard := none }) (v := ?_) rfl (by kernel_rfl) (by kernel_rfl) (by kernel_rfl) (fun _ _ _ h => h) (Or.inl ⟨by rfl, ?_⟩) (by assumption) ?_
                rotate_left
                · ((intro w hSw; (try dsimp only at hSw); go_simp; (try rw [if_neg (by omega)])); try with_reducible rfl)
                (try simp only [Act.put, List.setIfInBounds_toArray, List.set_cons_zero, List.set_cons_succ])
                refine wpAnyH_take (i := 3) (oi := { dst := some 65, op := Op.load 42 (Operand.tmp 13), type := 42, pos := "law.go:131", after := #[], guard := none }) (v := ?_) rfl (by kernel_rfl) (by kernel_rfl) (by kernel_rfl) (fun _ _ _ h => h) (Or.inl ⟨by rfl, ?_⟩) (by assumption) ?_
                rotate_left
                · ((intro w hSw; (try dsimp only at hSw); go_simp; (try rw [if_neg (by omega)])); try with_reducible rfl)
                (try simp only [Act.put, List.setIfInBounds_toArray, List.set_cons_zero, List.set_cons_succ])
                refine wpAnyH_take (i := 4) (oi := { dst := some 66, op := Op.move (Operand.tmp 14), type := 3, pos := "law.go:131", after := #[], guard := none }) (v := ?_) rfl (by kernel_rfl) (by kernel_rfl) (by kernel_rfl) (fun _ _ _ h => h) (Or.inl ⟨by rfl, ?_⟩) (by assumption) ?_
                rotate_left
                · ((intro w hSw; (try dsimp only at hSw); go_simp; (try rw [if_neg (by omega)])); try with_reducible rfl)
                (try simp only [Act.put, List.setIfInBounds_toArray, List.set_cons_zero, List.set_cons_succ])
                refine wpAnyH_ready (rs := [2]) (by kernel_rfl) (by simp) ?_
                refine AllReadyH.cons (o := { dst := some 64, op := Op.call { callee := Callee.value (Operand.func 23), args := #[Operand.tmp 62, Operand.tmp 63], argTypes := #[42, 3] }, type := 4, pos := "law.go:131", after := #[{ on := 0, ground := Ground.data }, { on := 1, ground := Ground.data }], guard := none }) rfl (fun K hK => ?_) AllReadyH.nil
                (go_simp; go_at_call 23; refine (right_c HR.out _ _ hyl (HTY.out _ (bnext HBJ.out (Below.drew (Below.refl _ wp))))).mono ?_; rintro e w10 ⟨rfl, hb10⟩; have d10 := bnext (bnext HBJ.out (Below.drew (Below.refl _ wp))) hb10; dsimp only)
                refine hK.out _ _ ?_ (fun hHeld => ?_)
                · first | exact HSY.out _ d11 | exact HSY.out _ d10 | exact HSY.out _ (bnext HBJ.out (Below.drew (Below.refl _ wp)))
                clear hK K
                (try simp only [Act.put, List.setIfInBounds_toArray, List.set_cons_zero, List.set_cons_succ])
                refine wpAnyH_ready (rs := [5]) (by kernel_rfl) (by simp) ?_
                refine AllReadyH.cons (o := { dst := some 67, op := Op.call { callee := Callee.value (Operand.func 24), args := #[Operand.tmp 65, Operand.tmp 66], argTypes := #[42, 3] }, type := 4, pos := "law.go:131", after := #[{ on := 3, ground := Ground.data }, { on := 4, ground := Ground.data }, { on := 2, ground := Ground.chain }], guard := none }) rfl (fun K hK => ?_) AllReadyH.nil
                (go_simp; go_at_call 24; refine (rright_c HR.out _ _ hyl (HTY.out _ d10)).mono ?_; rintro e w11 ⟨rfl, hb11⟩; have d11 := bnext d10 hb11; dsimp only)
                refine hK.out _ _ ?_ (fun hHeld => ?_)
                · first | exact HSY.out _ d11 | exact HSY.out _ d10 | exact HSY.out _ (bnext HBJ.out (Below.drew (Below.refl _ wp)))
                clear hK K
                (try simp only [Act.put, List.setIfInBounds_toArray, List.set_cons_zero, List.set_cons_succ])
                refine wpAnyH_done (by kernel_rfl) ?_ _
                show Oper.wp _ _ _ _ _ _
                go_simp
                go_wp2_with fail
                go_roundw
                case rel => exact ⟨j + 1, by go_num, by omega, d11⟩
                case measure => simp [intOf] <;> omega
              · obtain rfl : j = 7 := by omega
                obtain ⟨sa1, sa2, hsa⟩ : ∃ a b, AX.scalar y (a1.take m) = (a, b) := ⟨_, _, rfl⟩
                obtain ⟨sb1, sb2, hsb⟩ : ∃ a b, AX.scalar y (AX.mkAt m2 n) = (a, b) := ⟨_, _, rfl⟩
                have HSA := Lib.hid hsa
                have HSB := Lib.hid hsb
                have hneqa := fun V => neq_sc V sa1 sa2 sa1 sa2
                have hneqb := fun V => neq_sc V sb1 sb2 sb1 sb2
                simp only [beq_self_eq_true, Bool.and_self, Bool.not_true] at hneqa hneqb
                clear hsa hsb hbj
                go_upto_region 17 with fail
                refine wp_region_held_drew (S := fun w' => w'.cell? ⟨D2, 0, none⟩ = some (.slice ya yn yc)) (by kernel_rfl) ?_ (fun hHeld => ?_)
                · first | exact HSY.out _ d23 | exact HSY.out _ d22 | exact HSY.out _ d21 | exact HSY.out _ d20 | exact HSY.out _ (bnext HBJ.out (Below.drew (Below.refl _ wp)))
                refine wpAnyH_take (i := 0) (oi := { dst := some 69, op := Op.load 42 (Operand.tmp 13), type := 42, pos := "law.go:135", after := #[], guard := none }) (v := ?_) rfl (by kernel_rfl) (by kernel_rfl) (by kernel_rfl) (fun _ _ _ h => h) (Or.inl ⟨by rfl, ?_⟩) (by assumption) ?_
                rotate_left
                · ((intro w hSw; (try dsimp only at hSw); go_simp; (try rw [if_neg (by omega)])); try with_reducible rfl)
                (try simp only [Act.put, List.setIfInBounds_toArray, List.set_cons_zero, List.set_cons_succ])
                refine wpAnyH_take (i := 1) (oi := { dst := some 70, op := Op.move (Operand.tmp 1), type := 25, pos := "law.go:135", after := #[], guard := none }) (v := ?_) rfl (by kernel_rfl) (by kernel_rfl) (by kernel_rfl) (fun _ _ _ h => h) (Or.inl ⟨by rfl, ?_⟩) (by assumption) ?_
                rotate_left
                · ((intro w hSw; (try dsimp only at hSw); go_simp; (try rw [if_neg (by omega)])); try with_reducible rfl)
                (try simp only [Act.put, List.setIfInBounds_toArray, List.set_cons_zero, List.set_cons_succ])
                refine wpAnyH_take (i := 3) (oi := { dst := some 72, op := Op.load 42 (Operand.tmp 13), type := 42, pos := "law.go:135", after := #[], guard := none }) (v := ?_) rfl (by kernel_rfl) (by kernel_rfl) (by kernel_rfl) (fun _ _ _ h => h) (Or.inl ⟨by rfl, ?_⟩) (by assumption) ?_
                rotate_left
                · ((intro w hSw; (try dsimp only at hSw); go_simp; (try rw [if_neg (by omega)])); try with_reducible rfl)
                (try simp only [Act.put, List.setIfInBounds_toArray, List.set_cons_zero, List.set_cons_succ])
                refine wpAnyH_take (i := 4) (oi := { dst := some 73, op := Op.move (Operand.tmp 1), type := 25, pos := "law.go:135", after := #[], guard := none }) (v := ?_) rfl (by kernel_rfl) (by kernel_rfl) (by kernel_rfl) (fun _ _ _ h => h) (Or.inl ⟨by rfl, ?_⟩) (by assumption) ?_
                rotate_left
                · ((intro w hSw; (try dsimp only at hSw); go_simp; (try rw [if_neg (by omega)])); try with_reducible rfl)
                (try simp only [Act.put, List.setIfInBounds_toArray, List.set_cons_zero, List.set_cons_succ])
                refine wpAnyH_ready (rs := [2]) (by kernel_rfl) (by simp) ?_
                refine AllReadyH.cons (o := { dst := some 71, op := Op.call { callee := Callee.value (Operand.func 25), args := #[Operand.tmp 69, Operand.tmp 70], argTypes := #[42, 25] }, type := 50, pos := "law.go:135", after := #[{ on := 0, ground := Ground.data }, { on := 1, ground := Ground.data }], guard := none }) rfl (fun K hK => ?_) ?_
                · go_simp
                  go_at_call 25
                  refine (scalar_c' HSA.out _ _ _ hyl HATL.out (HTY.out _ (bnext HBJ.out (Below.drew (Below.refl _ wp)))) (HAT.out _ (bnext HBK.out (bnext hb10 (bnext HBJ.out (Below.drew (Below.refl _ wp))))))).mono ?_
                  rintro e w20 ⟨rfl, hb20⟩
                  have d20 := bnext (bnext HBJ.out (Below.drew (Below.refl _ wp))) hb20
                  dsimp only
                  refine hK.out _ _ ?_ (fun hHeld => ?_)
                  · first | exact HSY.out _ d23 | exact HSY.out _ d22 | exact HSY.out _ d21 | exact HSY.out _ d20 | exact HSY.out _ (bnext HBJ.out (Below.drew (Below.refl _ wp)))
                  clear hK K
                  (try simp only [Act.put, List.setIfInBounds_toArray, List.set_cons_zero, List.set_cons_succ])
                  refine wpAnyH_ready (rs := [5]) (by kernel_rfl) (by simp) ?_
                  refine AllReadyH.cons (o := { dst := some 74, op := Op.call { callee := Callee.value (Operand.func 26), args := #[Operand.tmp 72, Operand.tmp 73], argTypes := #[42, 25] }, type := 50, pos := "law.go:135", after := #[{ on := 3, ground := Ground.data }, { on := 4, ground := Ground.data }, { on := 2, ground := Ground.chain }], guard := none }) rfl (fun K hK => ?_) ?_
                  · go_simp
                    go_at_call 26
                    refine (rscalar_c' HSA.out _ _ _ hyl HATL.out (HTY.out _ d20) (HAT.out _ (bnext HBK.out (bnext hb10 d20)))).mono ?_
                    rintro e w21 ⟨rfl, hb21⟩
                    have d21 := bnext d20 hb21
                    dsimp only
                    refine hK.out _ _ ?_ (fun hHeld => ?_)
                    · first | exact HSY.out _ d23 | exact HSY.out _ d22 | exact HSY.out _ d21 | exact HSY.out _ d20 | exact HSY.out _ (bnext HBJ.out (Below.drew (Below.refl _ wp)))
                    clear hK K
                    (try simp only [Act.put, List.setIfInBounds_toArray, List.set_cons_zero, List.set_cons_succ])
                    refine wpAnyH_take (i := 6) (oi := { dst := some 75, op := Op.binOp BinOp.neq 50 (Operand.tmp 71) (Operand.tmp 74) 50, type := 4, pos := "law.go:135", after := #[{ on := 2, ground := Ground.data }, { on := 5, ground := Ground.data }], guard := none }) (v := ?_) rfl (by kernel_rfl) (by kernel_rfl) (by kernel_rfl) (fun _ _ _ h => h) (Or.inl ⟨by rfl, ?_⟩) (by assumption) ?_
                    rotate_left
                    · ((intro w hSw; (try dsimp only at hSw); go_simp; (try rw [if_neg (by omega)])); try with_reducible rfl)
                    (try simp only [Act.put, List.setIfInBounds_toArray, List.set_cons_zero, List.set_cons_succ])
                    refine wpAnyH_take (i := 7) (oi := { dst := some 76, op := Op.move (Operand.tmp 75), type := 4, pos := "law.go:135", after := #[{ on := 6, ground := Ground.data }, { on := 5, ground := Ground.chain }], guard := none }) (v := ?_) rfl (by kernel_rfl) (by kernel_rfl) (by kernel_rfl) (fun _ _ _ h => h) (Or.inl ⟨by rfl, ?_⟩) (by assumption) ?_
                    rotate_left
                    · ((intro w hSw; (try dsimp only at hSw); go_simp; (try rw [if_neg (by omega)])); try with_reducible rfl)
                    (try simp only [Act.put, List.setIfInBounds_toArray, List.set_cons_zero, List.set_cons_succ])
                    refine wpAnyH_take (i := 8) (oi := { dst := some 77, op := Op.load 42 (Operand.tmp 13), type := 42, pos := "law.go:135", after := #[{ on := 7, ground := Ground.guard }], guard := some (7, false) }) (v := ?_) rfl (by kernel_rfl) (by kernel_rfl) (by kernel_rfl) (fun _ _ _ h => h) (Or.inl ⟨by rfl, ?_⟩) (by assumption) ?_
                    rotate_left
                    · ((intro w hSw; (try dsimp only at hSw); go_simp; (try rw [if_neg (by omega)])); try with_reducible rfl)
                    (try simp only [Act.put, List.setIfInBounds_toArray, List.set_cons_zero, List.set_cons_succ])
                    refine wpAnyH_take (i := 9) (oi := { dst := some 78, op := Op.move (Operand.tmp 10), type := 25, pos := "law.go:135", after := #[{ on := 7, ground := Ground.guard }], guard := some (7, false) }) (v := ?_) rfl (by kernel_rfl) (by kernel_rfl) (by kernel_rfl) (fun _ _ _ h => h) (Or.inl ⟨by rfl, ?_⟩) (by assumption) ?_
                    rotate_left
                    · ((intro w hSw; (try dsimp only at hSw); go_simp; (try rw [if_neg (by omega)])); try with_reducible rfl)
                    (try simp only [Act.put, List.setIfInBounds_toArray, List.set_cons_zero, List.set_cons_succ])
                    refine wpAnyH_take (i := 11) (oi := { dst := some 80, op := Op.load 42 (Operand.tmp 13), type := 42, pos := "law.go:135", after := #[{ on := 7, ground := Ground.guard }], guard := some (7, false) }) (v := ?_) rfl (by kernel_rfl) (by kernel_rfl) (by kernel_rfl) (fun _ _ _ h => h) (Or.inl ⟨by rfl, ?_⟩) (by assumption) ?_
                    rotate_left
                    · ((intro w hSw; (try dsimp only at hSw); go_simp; (try rw [if_neg (by omega)])); try with_reducible rfl)
                    (try simp only [Act.put, List.setIfInBounds_toArray, List.set_cons_zero, List.set_cons_succ])
                    refine wpAnyH_take (i := 12) (oi := { dst := some 81, op := Op.move (Operand.tmp 10), type := 25, pos := "law.go:135", after := #[{ on := 7, ground := Ground.guard }], guard := some (7, false) }) (v := ?_) rfl (by kernel_rfl) (by kernel_rfl) (by kernel_rfl) (fun _ _ _ h => h) (Or.inl ⟨by rfl, ?_⟩) (by assumption) ?_
                    rotate_left
                    · ((intro w hSw; (try dsimp only at hSw); go_simp; (try rw [if_neg (by omega)])); try with_reducible rfl)
                    (try simp only [Act.put, List.setIfInBounds_toArray, List.set_cons_zero, List.set_cons_succ])
                    refine wpAnyH_ready (rs := [10]) (by kernel_rfl) (by simp) ?_
                    refine AllReadyH.cons (o := { dst := some 79, op := Op.call { callee := Callee.value (Operand.func 25), args := #[Operand.tmp 77, Operand.tmp 78], argTypes := #[42, 25] }, type := 50, pos := "law.go:135", after := #[{ on := 8, ground := Ground.data }, { on := 9, ground := Ground.data }, { on := 7, ground := Ground.chain }, { on := 7, ground := Ground.guard }], guard := some (7, false) }) rfl (fun K hK => ?_) ?_
                    · go_simp
                      go_at_call 25
                      refine (scalar_c' HSB.out _ _ _ hyl HXTL.out (HTY.out _ d21) (HXT.out _ (bnext HBK.out (bnext hb10 d21)))).mono ?_
                      rintro e w22 ⟨rfl, hb22⟩
                      have d22 := bnext d21 hb22
                      dsimp only
                      refine hK.out _ _ ?_ (fun hHeld => ?_)
                      · first | exact HSY.out _ d23 | exact HSY.out _ d22 | exact HSY.out _ d21 | exact HSY.out _ d20 | exact HSY.out _ (bnext HBJ.out (Below.drew (Below.refl _ wp)))
                      clear hK K
                      (try simp only [Act.put, List.setIfInBounds_toArray, List.set_cons_zero, List.set_cons_succ])
                      refine wpAnyH_ready (rs := [13]) (by kernel_rfl) (by simp) ?_
                      refine AllReadyH.cons (o := { dst := some 82, op := Op.call { callee := Callee.value (Operand.func 26), args := #[Operand.tmp 80, Operand.tmp 81], argTypes := #[42, 25] }, type := 50, pos := "law.go:135", after := #[{ on := 11, ground := Ground.data }, { on := 12, ground := Ground.data }, { on := 10, ground := Ground.chain }, { on := 7, ground := Ground.guard }], guard := some (7, false) }) rfl (fun K hK => ?_) ?_
                      · go_simp
                        go_at_call 26
                        refine (rscalar_c' HSB.out _ _ _ hyl HXTL.out (HTY.out _ d22) (HXT.out _ (bnext HBK.out (bnext hb10 d22)))).mono ?_
                        rintro e w23 ⟨rfl, hb23⟩
                        have d23 := bnext d22 hb23
                        dsimp only
                        refine hK.out _ _ ?_ (fun hHeld => ?_)
                        · first | exact HSY.out _ d23 | exact HSY.out _ d22 | exact HSY.out _ d21 | exact HSY.out _ d20 | exact HSY.out _ (bnext HBJ.out (Below.drew (Below.refl _ wp)))
                        clear hK K
                        (try simp only [Act.put, List.setIfInBounds_toArray, List.set_cons_zero, List.set_cons_succ])
                        refine wpAnyH_take (i := 14) (oi := { dst := some 83, op := Op.binOp BinOp.neq 50 (Operand.tmp 79) (Operand.tmp 82) 50, type := 4, pos := "law.go:135", after := #[{ on := 10, ground := Ground.data }, { on := 13, ground := Ground.data }, { on := 7, ground := Ground.guard }], guard := some (7, false) }) (v := ?_) rfl (by kernel_rfl) (by kernel_rfl) (by kernel_rfl) (fun _ _ _ h => h) (Or.inl ⟨by rfl, ?_⟩) (by assumption) ?_
                        rotate_left
                        · ((intro w hSw; (try dsimp only at hSw); go_simp; (try rw [if_neg (by omega)])); try with_reducible rfl)
                        (try simp only [Act.put, List.setIfInBounds_toArray, List.set_cons_zero, List.set_cons_succ])
                        refine wpAnyH_take (i := 15) (oi := { dst := some 84, op := Op.pick (Operand.tmp 76) (Operand.const (Value.bool true)) (Operand.tmp 83), type := 4, pos := "law.go:135", after := #[{ on := 7, ground := Ground.data }, { on := 14, ground := Ground.data }], guard := none }) (v := ?_) rfl (by kernel_rfl) (by kernel_rfl) (by kernel_rfl) (fun _ _ _ h => h) (Or.inl ⟨by rfl, ?_⟩) (by assumption) ?_
                        rotate_left
                        · ((intro w hSw; (try dsimp only at hSw); go_simp; (try rw [if_neg (by omega)])); try with_reducible rfl)
                        (try simp only [Act.put, List.setIfInBounds_toArray, List.set_cons_zero, List.set_cons_succ])
                        refine wpAnyH_done (by kernel_rfl) ?_ _
                        go_simp
                        go_wp2_with fail
                        go_roundw
                        case rel => exact ⟨k + 1, by go_num, hk2, bnext HBK.out (bnext hb10 d23)⟩
                        case measure => simp [intOf]; omega
                      exact AllReadyH.nil
                    exact AllReadyH.nil
                  exact AllReadyH.nil
                exact AllReadyH.nil
          · obtain rfl : k = 3 := by omega
            have HRM := Lib.hid (AX.mkReg_right l2 hn3)
            have hb2 := bnext HD9.out hb
            have x0 := cell_of (HS8b.out wo hb2).1 (i := 0) rfl
            have t1 := HMR.out wo hb2
            have t2 : SrcN 3 wo (.slice ma n mc) (AX.mkReg l2 n).length (AX.tnc (AX.mkReg l2 n)) := by rw [AX.mkReg_len]; exact t1
            have HT2 := Lib.hid t2.tn
            clear hb hb2 t1 t2
            go_wp2_with fail
            refine (right_c HRM.out _ _ (by rw [AX.mkReg_len]; omega) HT2.out).mono ?_
            rintro e w30 ⟨rfl, hb30⟩
            have HB30 := Lib.hid (bnext HBW9.out (bnext HBK.out hb30))
            clear hb30 x0
            go_wp2
            go_ret
            exact ⟨by rfl, HB30.out⟩

set_option maxRecDepth 100000 in
theorem lifted (os : Os) (started : os.Started) (H : Type) (enc : TypeId × Value → H) :
    ReturnsInHanded {} Try.checked os 5 .any (Rows.axesRegionsSpec.pre6 enc Try.prog Try.f5 Rows.axesRegionsRow.domain false) (Rows.axesRegionsSpec.post enc Try.prog Try.f5 false true false false) := by
  refine returnsInHanded_of_change (C := Try.checked) own started (by kernel_rfl) Try.func5
    (ChangeSpec.witness6 (enc := enc) (C := Try.checked) false ⟨#[], #[.agg #[.slice none 0 0], .slice none 0 0, .agg #[.slice none 0 0, .slice none 0 0, .slice none 0 0]], []⟩ 8 (by kernel_rfl) (by kernel_rfl) (by kernel_rfl) (by kernel_rfl)) ?_
  intro W base args ds gs before hval0 hW hcnd _
  have hval : ∀ (j : Nat) t v, Try.f5.params[j]? = some t → args[j]? = some v → Value.okWide Try.prog W .any base t v := hval0
  have hW' := hW
  obtain ⟨p, q, hA0, hV, rfl, hfz, hnd⟩ := hW
  have hA : DataW.TrodAll enc Try.prog W 0 (fun _ => true) true Try.f5.params.toList args.toList ds p := hA0
  rw [Try.params5] at hA hval
  obtain ⟨v0, vs0, d0, ds0, p0, q0, hargs, rfl, rfl, h0, r0⟩ := trodAll_cons hA
  obtain ⟨v1, vs1, d1, ds1, p1, q1, rfl, rfl, rfl, h1, r1⟩ := trodAll_cons r0
  obtain ⟨v2, vs2, d2, ds2, p2, q2, rfl, rfl, rfl, h2, r2⟩ := trodAll_cons r1
  obtain ⟨rfl, rfl, rfl⟩ := trodAll_nil r2
  obtain rfl : args = #[v0, v1, v2] := by cases args; simp_all
  obtain ⟨rfl, rfl⟩ := trodVars_none hV
  have k0 := h0
  have lt0 : ∀ x ∈ p0, x.block < W.heap.size := by obtain ⟨m, hm⟩ := k0; exact DataW.trod_lt m _ _ _ hm
  have k1 := h1
  have lt1 : ∀ x ∈ p1, x.block < W.heap.size := by obtain ⟨m, hm⟩ := k1; exact DataW.trod_lt m _ _ _ hm
  have k2 := h2
  have lt2 : ∀ x ∈ p2, x.block < W.heap.size := by obtain ⟨m, hm⟩ := k2; exact DataW.trod_lt m _ _ _ hm
  obtain ⟨u0, a0, rfl, H0⟩ := open_reg (hval 0 42 v0 rfl rfl) h0
  obtain ⟨a1, H1⟩ := open_ins (hval 1 25 v1 rfl rfl) h1
  obtain ⟨p2, q2, r2, l2, m2, n2, rfl, H2⟩ := open_rows3 (hval 2 43 v2 rfl rfl) h2
  clear hA0 hval0
  refine (walk u0 a0 v1 a1 p2 q2 r2 l2 m2 n2  W H0 H1 H2).mono fun e W' ⟨he, bel⟩ => ?_
  subst he
  exact ⟨_, rfl, _, _, _, [], _, [], hW', trodAll_mk1 (shut_bool Try.underlying4 _), (trodAll_cons_mk (Below.trod laidOut (by kernel_rfl) (of_decide_eq_true (by kernel_rfl)) k0 bel lt0) (trodAll_cons_mk (Below.trod laidOut (by kernel_rfl) (of_decide_eq_true (by kernel_rfl)) k1 bel lt1) (trodAll_cons_mk (Below.trod laidOut (by kernel_rfl) (of_decide_eq_true (by kernel_rfl)) k2 bel lt2) trodAll_mk0))), rfl, bel.frame _, fun h => by cases h⟩

theorem over : Rows.axesRegionsRow.holds Try.pinned (OpenSpec.ofChange Rows.axesRegionsSpec) :=
  OpenClaim.holds_of_wide 5 Try.f5 rfl rfl rfl rfl rfl rfl rfl ⟨rfl, rfl, rfl, rfl, rfl⟩ rfl rfl rfl rfl rfl (by kernel_rfl) Try.func5 (by kernel_rfl)
    (of_decide_eq_true (by kernel_rfl)) (by unfold Func.isWrapper; first | (rw [if_pos (by decide +kernel)]; kernel_rfl) | (rw [if_neg (by decide +kernel)]; exact ⟨rfl, rfl⟩))
    (fun os started H enc _ => lifted os started H enc)

end Go.Proofs.Ytbhkbjnmpaebdaa.axesRegions
namespace Go.Proofs.Ytbhkbjnmpaebdaa
theorem axesRegions_proved : Rows.AxesRegionsSaid := axesRegions.over
#print axioms axesRegions_proved
end Go.Proofs.Ytbhkbjnmpaebdaa
