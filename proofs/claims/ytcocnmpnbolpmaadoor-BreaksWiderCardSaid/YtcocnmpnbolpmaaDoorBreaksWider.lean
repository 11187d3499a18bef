/- For every line and every amount BreaksWider returns true: on wider lines no element has a greater number. No conditions. -/
import Derived.Test.YtcocnmpnbolpmaaDoorBrkWide
import Derived.Test.YtcocnmpnbolpmaaDoorClsLaid
namespace Go.Proofs.YtcocnmpnbolpmaaDoor.breaksWider
open Go.ChangeShapes Go.WideShapes Go.ChangeAt Go.RowKit Go.Joins Go.Deep
set_option linter.unusedVariables false

theorem row_cut {w : World} {a : Option Addr} {c : Nat} {X W : List Int} (h : RowAt w (.slice a X.length c) (X.map (Value.int .i64))) (hl : W.length = min 40 X.length) (hW : X.take 40 = W) : RowAt w (.slice a W.length c) (W.map (Value.int .i64)) := by
  have := row_first h (m := W.length) (by rw [List.length_map]; omega)
  rwa [show (X.map (Value.int .i64)).take W.length = W.map (Value.int .i64) by rw [← List.map_take, hl, ← List.take_take, List.take_length, hW]] at this
theorem row_cutb {w : World} {a : Option Addr} {c : Nat} {X W : List Bool} (h : RowAt w (.slice a X.length c) (X.map Value.bool)) (hl : W.length = min 40 X.length) (hW : X.take 40 = W) : RowAt w (.slice a W.length c) (W.map Value.bool) := by
  have := row_first h (m := W.length) (by rw [List.length_map]; omega)
  rwa [show (X.map Value.bool).take W.length = W.map Value.bool by rw [← List.map_take, hl, ← List.take_take, List.take_length, hW]] at this
set_option maxRecDepth 100000 in
set_option maxHeartbeats 4000000 in
theorem walk (x0 : Value) (y0 : Value) (z0 : Value) (a0 : Int) (X0 : List Int) (Y0 : List Int) (Z0 : List Bool) (a1 : Int) (g : Nat × Nat) (wa0 : (Lit.int .i64 a0).wf = true) (wa1 : (Lit.int .u8 a1).wf = true) (w : World) (hl : Laid w g) (R0a : RowAt w x0 (X0.map (Value.int .i64)) ∧ X0.length ≤ maxLen ∧ ∀ a n c, x0 = .slice a n c → n ≤ c ∧ c ≤ maxLen) (R0b : RowAt w y0 (Y0.map (Value.int .i64)) ∧ Y0.length ≤ maxLen ∧ ∀ a n c, y0 = .slice a n c → n ≤ c ∧ c ≤ maxLen) (R0c : RowAt w z0 (Z0.map Value.bool) ∧ Z0.length ≤ maxLen ∧ ∀ a n c, z0 = .slice a n c → n ≤ c ∧ c ≤ maxLen) :
    Calls Tryd.prog 7 #[.agg #[x0, y0, z0, .int .i64 a0], .int .u8 a1] w fun e w' => e = .returned (.bool true) ∧ Below w.heap.size w w' := by
  have HL : Hid (∀ B, Below w.heap.size w B → Laid B g) := Lib.hid fun B hb => hl.mono hb
  have acc0 : Below w.heap.size w w := Below.refl _ _
  obtain ⟨k0, c0, hx, _⟩ := id R0a.1
  obtain ⟨k1, c1, hy, _⟩ := id R0b.1
  obtain ⟨k2, c2, hz, _⟩ := id R0c.1
  rw [List.length_map] at hx hy hz
  subst hx hy hz
  obtain ⟨r0, _, i0⟩ := R0a
  obtain ⟨r1, _, i1⟩ := R0b
  obtain ⟨r2, _, i2⟩ := R0c
  have j0 := i0 _ _ _ rfl
  have j1 := i1 _ _ _ rfl
  have j2 := i2 _ _ _ rfl
  obtain ⟨W, hWd⟩ : ∃ W, X0.take 40 = W := ⟨_, rfl⟩
  obtain ⟨M, hMd⟩ : ∃ M, Y0.take 40 = M := ⟨_, rfl⟩
  obtain ⟨S, hSd⟩ : ∃ S, Z0.take 40 = S := ⟨_, rfl⟩
  have lW : W.length = min 40 X0.length := by rw [← hWd, List.length_take]
  have lM : M.length = min 40 Y0.length := by rw [← hMd, List.length_take]
  have lS : S.length = min 40 Z0.length := by rw [← hSd, List.length_take]
  have Q0 := Lib.hid (row_cut r0 lW hWd)
  have Q1 := Lib.hid (row_cut r1 lM hMd)
  have Q2 := Lib.hid (row_cutb r2 lS hSd)
  have HCUT := Lib.hid (fun (V : World) => cut_way k0 k1 k2 X0.length Y0.length Z0.length c0 c1 c2 W.length M.length S.length a0 V j0.1 j1.1 j2.1 j0.2 j1.2 j2.2 (by omega) (by omega) (by omega))
  replace lW : W.length ≤ 40 := by omega
  replace lM : M.length ≤ 40 := by omega
  replace lS : S.length ≤ 40 := by omega
  have wb1 := bd8 wa1
  clear r0 r1 r2 i0 i1 i2 j0 j1 j2 hWd hMd hSd wa1 wa0
  go_enter Tryd.func7, Tryd.ntmps7
  go_wp2_with fail
  obtain ⟨w1, hW1⟩ : ∃ W, w.alloc (.cells #[.slice k0 X0.length c0, .slice k1 Y0.length c1, .slice k2 Z0.length c2, .int .i64 a0] 37) = W := ⟨_, rfl⟩
  have hA1 : w1.heap[w.heap.size]? = some (.cells #[.slice k0 X0.length c0, .slice k1 Y0.length c1, .slice k2 Z0.length c2, .int .i64 a0] 37 (0, 0)) := by rw [← hW1]; exact World.alloc_heap_new w _
  have acc1 : Below w.heap.size w w1 := by rw [← hW1]; exact balloc (Below.refl _ _) _
  have hB1 : w.heap.size < w1.heap.size := by rw [← hW1]; simp
  rw [hW1]
  clear hW1
  refine (sane_any g _ (HL.out _ acc1)).mono ?_
  rintro e w2 ⟨rfl, hb2⟩
  have acc2 := bnext acc1 hb2
  have hA2 := (hb2.block w.heap.size hB1).trans hA1
  have hB2 := Nat.lt_of_lt_of_le hB1 hb2.size
  have e02 : w2.cell? ⟨w.heap.size, 0, none⟩ = some (.slice k0 X0.length c0) := by simp [World.cell?, hA2]
  have e12 : w2.cell? ⟨w.heap.size, 1, none⟩ = some (.slice k1 Y0.length c1) := by simp [World.cell?, hA2]
  have e22 : w2.cell? ⟨w.heap.size, 2, none⟩ = some (.slice k2 Z0.length c2) := by simp [World.cell?, hA2]
  have e32 : w2.cell? ⟨w.heap.size, 3, none⟩ = some (.int .i64 a0) := by simp [World.cell?, hA2]
  clear hA1 hB1 hb2 acc1
  go_wp2_with fail
  refine (HCUT.out w2).mono ?_
  rintro e w3 ⟨rfl, hb3⟩
  have acc3 := bnext acc2 hb3
  have hA3 := (hb3.block w.heap.size hB2).trans hA2
  have hB3 := Nat.lt_of_lt_of_le hB2 hb3.size
  have e03 : w3.cell? ⟨w.heap.size, 0, none⟩ = some (.slice k0 X0.length c0) := by simp [World.cell?, hA3]
  have e13 : w3.cell? ⟨w.heap.size, 1, none⟩ = some (.slice k1 Y0.length c1) := by simp [World.cell?, hA3]
  have e23 : w3.cell? ⟨w.heap.size, 2, none⟩ = some (.slice k2 Z0.length c2) := by simp [World.cell?, hA3]
  have e33 : w3.cell? ⟨w.heap.size, 3, none⟩ = some (.int .i64 a0) := by simp [World.cell?, hA3]
  have f03 : w3.frozen? ⟨w.heap.size, 0, none⟩ = false := by simp [World.frozen?, hA3]
  have f13 : w3.frozen? ⟨w.heap.size, 1, none⟩ = false := by simp [World.frozen?, hA3]
  have f23 : w3.frozen? ⟨w.heap.size, 2, none⟩ = false := by simp [World.frozen?, hA3]
  have f33 : w3.frozen? ⟨w.heap.size, 3, none⟩ = false := by simp [World.frozen?, hA3]
  clear e02 e12 e22 e32 hb3 acc2 hA2 hB2 HCUT
  have hZ := heap_setCell_same _ w.heap.size 3 _ 37 (.int .i64 a0) (heap_setCell_same _ w.heap.size 2 _ 37 (.slice k2 S.length c2) (heap_setCell_same _ w.heap.size 1 _ 37 (.slice k1 M.length c1) (heap_setCell_same w3 w.heap.size 0 _ 37 (.slice k0 W.length c0) hA3)))
  have HZ := Lib.hid hZ
  have acc4 : Below w.heap.size w ((((w3.setCell ⟨w.heap.size, 0, none⟩ (.slice k0 W.length c0)).setCell ⟨w.heap.size, 1, none⟩ (.slice k1 M.length c1)).setCell ⟨w.heap.size, 2, none⟩ (.slice k2 S.length c2)).setCell ⟨w.heap.size, 3, none⟩ (.int .i64 a0)) := bset (bset (bset (bset acc3 (Nat.le_refl _) _) (Nat.le_refl _) _) (Nat.le_refl _) _) (Nat.le_refl _) _
  have ACC4 := Lib.hid acc4
  clear hZ acc4 acc3 hA3 hB3
  go_wp2_with fail
  case inl.inl =>
    obtain ⟨w4, hW4⟩ : ∃ V, (((w3.setCell ⟨w.heap.size, 0, none⟩ (.slice k0 W.length c0)).setCell ⟨w.heap.size, 1, none⟩ (.slice k1 M.length c1)).setCell ⟨w.heap.size, 2, none⟩ (.slice k2 S.length c2)).setCell ⟨w.heap.size, 3, none⟩ (.int .i64 a0) = V := ⟨_, rfl⟩
    have hA4 : w4.heap[w.heap.size]? = some (.cells #[.slice k0 W.length c0, .slice k1 M.length c1, .slice k2 S.length c2, .int .i64 a0] 37 (0, 0)) := by rw [← hW4]; exact HZ.out
    have acc4 : Below w.heap.size w w4 := by rw [← hW4]; exact ACC4.out
    have hB4 : w.heap.size < w4.heap.size := (Array.getElem?_eq_some_iff.1 hA4).1
    rw [hW4]
    clear hW4 HZ ACC4 e03 e13 e23 e33 f03 f13 f23 f33
    refine (fill_any W M S 10000 _ _ _ w4 (Q0.out.keep acc4) (Q1.out.keep acc4) (Q2.out.keep acc4) (by omega) (by omega) (by omega)).mono ?_
    rintro e w5 ⟨va, rfl, sa, hb5⟩
    have acc5 := bnext acc4 hb5
    have hA5 := (hb5.block w.heap.size hB4).trans hA4
    have hB5 := Nat.lt_of_lt_of_le hB4 hb5.size
    have g0 : w5.cell? ⟨w.heap.size, 0, none⟩ = some (.slice k0 W.length c0) := by simp [World.cell?, hA5]
    have g1 : w5.cell? ⟨w.heap.size, 1, none⟩ = some (.slice k1 M.length c1) := by simp [World.cell?, hA5]
    have g2 : w5.cell? ⟨w.heap.size, 2, none⟩ = some (.slice k2 S.length c2) := by simp [World.cell?, hA5]
    have g3 : w5.cell? ⟨w.heap.size, 3, none⟩ = some (.int .i64 a0) := by simp [World.cell?, hA5]
    have hD1 : 10000 + a1 ≤ 10255 := by omega
    have hD0 : (0 : Int) ≤ 10000 + a1 := by omega
    have SA := Lib.hid sa
    clear hb5 acc4 hA4 hB4 hA5 sa
    go_wp2_with fail
    refine (fill_any W M S (10000 + a1) _ _ _ w5 (Q0.out.keep acc5) (Q1.out.keep acc5) (Q2.out.keep acc5) (by omega) (by omega) (by omega)).mono ?_
    rintro e w6 ⟨vb, rfl, sb, hb6⟩
    have acc6 := bnext acc5 hb6
    have hMO : ∀ (i : Nat) (x y : Int), (BP.Fill W M S 10000)[i]? = some x → (BP.Fill W M S (10000 + a1))[i]? = some y → y ≤ x := BP.fills_mono (by unfold BP.wd; omega) (fun k => (BP.wd_bd _).1)
    have hL1 : (BP.Fill W M S 10000).length = BP.nOf W M S := BP.Fl.length
    have hL2 : (BP.Fill W M S (10000 + a1)).length = BP.nOf W M S := BP.Fl.length
    have hn40 : BP.nOf W M S ≤ 40 := by unfold BP.nOf; omega
    obtain ⟨aa, ca, rfl, hca⟩ := row_int (SA.out.keep hb6).row
    obtain ⟨ab, cb, rfl, hcb⟩ := row_int sb.row
    have HMO := Lib.hid hMO
    generalize BP.Fill W M S 10000 = A at hca HMO hL1
    generalize BP.Fill W M S (10000 + a1) = C at hcb HMO hL2
    rw [hL1] at hca
    rw [hL2] at hcb
    rw [hL1, hL2]
    generalize BP.nOf W M S = n at hca hcb hL1 hL2 hn40
    have HCA := Lib.hid hca
    have HCB := Lib.hid hcb
    have ACC6 := Lib.hid acc6
    have HL1 := Lib.hid hL1
    have HL2 := Lib.hid hL2
    clear hb6 acc5 acc6 hca hcb hMO SA sb g0 g1 g2 g3 hB5 hL1 hL2 Q0 Q1 Q2 hl
    go_wp2_with fail
    go_loopw [9] (fun v9 wr => ∃ k : Nat, v9 = .int .i64 k ∧ k ≤ n ∧ Below w6.heap.size w6 wr) (fun v _ => n - (intOf v).toNat)
    case atStart => exact ⟨0, rfl, Nat.zero_le _, Below.refl _ _⟩
    case round =>
      obtain ⟨k, rfl, hk, hb⟩ := hrel
      by_cases hkn : k < n
      · have hki : (k : Int) < (n : Int) := by omega
        obtain ⟨ga, oa, rfl, cA⟩ := HCA.out k hkn
        obtain ⟨gb, ob, rfl, cB⟩ := HCB.out k hkn
        replace cA := (hb.cell (World.block_lt_of_cell? _ _ cA)).trans cA
        replace cB := (hb.cell (World.block_lt_of_cell? _ _ cB)).trans cB
        have hle : C.getD k 0 ≤ A.getD k 0 := by
          have h1 := HL1.out
          have h2 := HL2.out
          exact HMO.out k _ _ (by simp [List.getD, List.getElem?_eq_getElem (show k < A.length by omega)]) (by simp [List.getD, List.getElem?_eq_getElem (show k < C.length by omega)])
        generalize A.getD k 0 = x at cA hle
        generalize C.getD k 0 = y at cB hle
        have hlt : ¬ x < y := by omega
        have HBK := Lib.hid hb
        clear hb
        go_wp2_with fail
        (try (go_quiet (fail); go_wp2_with fail))
        go_roundw
        case rel => exact ⟨k + 1, by go_num, hkn, (by first | exact HBK.out | exact below_drewN HBK.out _)⟩
        case measure => simp [intOf]; omega
      · go_wp2_with fail
        go_ret
        exact ⟨rfl, bnext ACC6.out hb⟩
  case inl.inr =>
    obtain ⟨w4, hW4⟩ : ∃ V, (((w3.setCell ⟨w.heap.size, 0, none⟩ (.slice k0 W.length c0)).setCell ⟨w.heap.size, 1, none⟩ (.slice k1 M.length c1)).setCell ⟨w.heap.size, 2, none⟩ (.slice k2 S.length c2)).setCell ⟨w.heap.size, 3, none⟩ (.int .i64 a0) = V := ⟨_, rfl⟩
    have hA4 : w4.heap[w.heap.size]? = some (.cells #[.slice k0 W.length c0, .slice k1 M.length c1, .slice k2 S.length c2, .int .i64 a0] 37 (0, 0)) := by rw [← hW4]; exact HZ.out
    have acc4 : Below w.heap.size w w4 := by rw [← hW4]; exact ACC4.out
    have hB4 : w.heap.size < w4.heap.size := (Array.getElem?_eq_some_iff.1 hA4).1
    rw [hW4]
    clear hW4 HZ ACC4 e03 e13 e23 e33 f03 f13 f23 f33
    refine (fill_any W M S a0 _ _ _ w4 (Q0.out.keep acc4) (Q1.out.keep acc4) (Q2.out.keep acc4) (by omega) (by omega) (by omega)).mono ?_
    rintro e w5 ⟨va, rfl, sa, hb5⟩
    have acc5 := bnext acc4 hb5
    have hA5 := (hb5.block w.heap.size hB4).trans hA4
    have hB5 := Nat.lt_of_lt_of_le hB4 hb5.size
    have g0 : w5.cell? ⟨w.heap.size, 0, none⟩ = some (.slice k0 W.length c0) := by simp [World.cell?, hA5]
    have g1 : w5.cell? ⟨w.heap.size, 1, none⟩ = some (.slice k1 M.length c1) := by simp [World.cell?, hA5]
    have g2 : w5.cell? ⟨w.heap.size, 2, none⟩ = some (.slice k2 S.length c2) := by simp [World.cell?, hA5]
    have g3 : w5.cell? ⟨w.heap.size, 3, none⟩ = some (.int .i64 a0) := by simp [World.cell?, hA5]
    have hD1 : a0 + a1 ≤ 10255 := by omega
    have hD0 : (0 : Int) ≤ a0 + a1 := by omega
    have SA := Lib.hid sa
    clear hb5 acc4 hA4 hB4 hA5 sa
    go_wp2_with fail
    refine (fill_any W M S (a0 + a1) _ _ _ w5 (Q0.out.keep acc5) (Q1.out.keep acc5) (Q2.out.keep acc5) (by omega) (by omega) (by omega)).mono ?_
    rintro e w6 ⟨vb, rfl, sb, hb6⟩
    have acc6 := bnext acc5 hb6
    have hMO : ∀ (i : Nat) (x y : Int), (BP.Fill W M S a0)[i]? = some x → (BP.Fill W M S (a0 + a1))[i]? = some y → y ≤ x := BP.fills_mono (by unfold BP.wd; omega) (fun k => (BP.wd_bd _).1)
    have hL1 : (BP.Fill W M S a0).length = BP.nOf W M S := BP.Fl.length
    have hL2 : (BP.Fill W M S (a0 + a1)).length = BP.nOf W M S := BP.Fl.length
    have hn40 : BP.nOf W M S ≤ 40 := by unfold BP.nOf; omega
    obtain ⟨aa, ca, rfl, hca⟩ := row_int (SA.out.keep hb6).row
    obtain ⟨ab, cb, rfl, hcb⟩ := row_int sb.row
    have HMO := Lib.hid hMO
    generalize BP.Fill W M S a0 = A at hca HMO hL1
    generalize BP.Fill W M S (a0 + a1) = C at hcb HMO hL2
    rw [hL1] at hca
    rw [hL2] at hcb
    rw [hL1, hL2]
    generalize BP.nOf W M S = n at hca hcb hL1 hL2 hn40
    have HCA := Lib.hid hca
    have HCB := Lib.hid hcb
    have ACC6 := Lib.hid acc6
    have HL1 := Lib.hid hL1
    have HL2 := Lib.hid hL2
    clear hb6 acc5 acc6 hca hcb hMO SA sb g0 g1 g2 g3 hB5 hL1 hL2 Q0 Q1 Q2 hl
    go_wp2_with fail
    go_loopw [9] (fun v9 wr => ∃ k : Nat, v9 = .int .i64 k ∧ k ≤ n ∧ Below w6.heap.size w6 wr) (fun v _ => n - (intOf v).toNat)
    case atStart => exact ⟨0, rfl, Nat.zero_le _, Below.refl _ _⟩
    case round =>
      obtain ⟨k, rfl, hk, hb⟩ := hrel
      by_cases hkn : k < n
      · have hki : (k : Int) < (n : Int) := by omega
        obtain ⟨ga, oa, rfl, cA⟩ := HCA.out k hkn
        obtain ⟨gb, ob, rfl, cB⟩ := HCB.out k hkn
        replace cA := (hb.cell (World.block_lt_of_cell? _ _ cA)).trans cA
        replace cB := (hb.cell (World.block_lt_of_cell? _ _ cB)).trans cB
        have hle : C.getD k 0 ≤ A.getD k 0 := by
          have h1 := HL1.out
          have h2 := HL2.out
          exact HMO.out k _ _ (by simp [List.getD, List.getElem?_eq_getElem (show k < A.length by omega)]) (by simp [List.getD, List.getElem?_eq_getElem (show k < C.length by omega)])
        generalize A.getD k 0 = x at cA hle
        generalize C.getD k 0 = y at cB hle
        have hlt : ¬ x < y := by omega
        have HBK := Lib.hid hb
        clear hb
        go_wp2_with fail
        (try (go_quiet (fail); go_wp2_with fail))
        go_roundw
        case rel => exact ⟨k + 1, by go_num, hkn, (by first | exact HBK.out | exact below_drewN HBK.out _)⟩
        case measure => simp [intOf]; omega
      · go_wp2_with fail
        go_ret
        exact ⟨rfl, bnext ACC6.out hb⟩
  case inr.inr =>
    obtain ⟨w4, hW4⟩ : ∃ V, (((w3.setCell ⟨w.heap.size, 0, none⟩ (.slice k0 W.length c0)).setCell ⟨w.heap.size, 1, none⟩ (.slice k1 M.length c1)).setCell ⟨w.heap.size, 2, none⟩ (.slice k2 S.length c2)).setCell ⟨w.heap.size, 3, none⟩ (.int .i64 a0) = V := ⟨_, rfl⟩
    have hA4 : w4.heap[w.heap.size]? = some (.cells #[.slice k0 W.length c0, .slice k1 M.length c1, .slice k2 S.length c2, .int .i64 a0] 37 (0, 0)) := by rw [← hW4]; exact HZ.out
    have acc4 : Below w.heap.size w w4 := by rw [← hW4]; exact ACC4.out
    have hB4 : w.heap.size < w4.heap.size := (Array.getElem?_eq_some_iff.1 hA4).1
    rw [hW4]
    clear hW4 HZ ACC4 e03 e13 e23 e33 f03 f13 f23 f33
    refine (fill_any W M S 0 _ _ _ w4 (Q0.out.keep acc4) (Q1.out.keep acc4) (Q2.out.keep acc4) (by omega) (by omega) (by omega)).mono ?_
    rintro e w5 ⟨va, rfl, sa, hb5⟩
    have acc5 := bnext acc4 hb5
    have hA5 := (hb5.block w.heap.size hB4).trans hA4
    have hB5 := Nat.lt_of_lt_of_le hB4 hb5.size
    have g0 : w5.cell? ⟨w.heap.size, 0, none⟩ = some (.slice k0 W.length c0) := by simp [World.cell?, hA5]
    have g1 : w5.cell? ⟨w.heap.size, 1, none⟩ = some (.slice k1 M.length c1) := by simp [World.cell?, hA5]
    have g2 : w5.cell? ⟨w.heap.size, 2, none⟩ = some (.slice k2 S.length c2) := by simp [World.cell?, hA5]
    have g3 : w5.cell? ⟨w.heap.size, 3, none⟩ = some (.int .i64 a0) := by simp [World.cell?, hA5]
    have hD1 : 0 + a1 ≤ 10255 := by omega
    have hD0 : (0 : Int) ≤ 0 + a1 := by omega
    have SA := Lib.hid sa
    clear hb5 acc4 hA4 hB4 hA5 sa
    go_wp2_with fail
    refine (fill_any W M S a1 _ _ _ w5 (Q0.out.keep acc5) (Q1.out.keep acc5) (Q2.out.keep acc5) (by omega) (by omega) (by omega)).mono ?_
    rintro e w6 ⟨vb, rfl, sb, hb6⟩
    have acc6 := bnext acc5 hb6
    have hMO : ∀ (i : Nat) (x y : Int), (BP.Fill W M S 0)[i]? = some x → (BP.Fill W M S a1)[i]? = some y → y ≤ x := BP.fills_mono (by unfold BP.wd; omega) (fun k => (BP.wd_bd _).1)
    have hL1 : (BP.Fill W M S 0).length = BP.nOf W M S := BP.Fl.length
    have hL2 : (BP.Fill W M S a1).length = BP.nOf W M S := BP.Fl.length
    have hn40 : BP.nOf W M S ≤ 40 := by unfold BP.nOf; omega
    obtain ⟨aa, ca, rfl, hca⟩ := row_int (SA.out.keep hb6).row
    obtain ⟨ab, cb, rfl, hcb⟩ := row_int sb.row
    have HMO := Lib.hid hMO
    generalize BP.Fill W M S 0 = A at hca HMO hL1
    generalize BP.Fill W M S a1 = C at hcb HMO hL2
    rw [hL1] at hca
    rw [hL2] at hcb
    rw [hL1, hL2]
    generalize BP.nOf W M S = n at hca hcb hL1 hL2 hn40
    have HCA := Lib.hid hca
    have HCB := Lib.hid hcb
    have ACC6 := Lib.hid acc6
    have HL1 := Lib.hid hL1
    have HL2 := Lib.hid hL2
    clear hb6 acc5 acc6 hca hcb hMO SA sb g0 g1 g2 g3 hB5 hL1 hL2 Q0 Q1 Q2 hl
    go_wp2_with fail
    go_loopw [9] (fun v9 wr => ∃ k : Nat, v9 = .int .i64 k ∧ k ≤ n ∧ Below w6.heap.size w6 wr) (fun v _ => n - (intOf v).toNat)
    case atStart => exact ⟨0, rfl, Nat.zero_le _, Below.refl _ _⟩
    case round =>
      obtain ⟨k, rfl, hk, hb⟩ := hrel
      by_cases hkn : k < n
      · have hki : (k : Int) < (n : Int) := by omega
        obtain ⟨ga, oa, rfl, cA⟩ := HCA.out k hkn
        obtain ⟨gb, ob, rfl, cB⟩ := HCB.out k hkn
        replace cA := (hb.cell (World.block_lt_of_cell? _ _ cA)).trans cA
        replace cB := (hb.cell (World.block_lt_of_cell? _ _ cB)).trans cB
        have hle : C.getD k 0 ≤ A.getD k 0 := by
          have h1 := HL1.out
          have h2 := HL2.out
          exact HMO.out k _ _ (by simp [List.getD, List.getElem?_eq_getElem (show k < A.length by omega)]) (by simp [List.getD, List.getElem?_eq_getElem (show k < C.length by omega)])
        generalize A.getD k 0 = x at cA hle
        generalize C.getD k 0 = y at cB hle
        have hlt : ¬ x < y := by omega
        have HBK := Lib.hid hb
        clear hb
        go_wp2_with fail
        (try (go_quiet (fail); go_wp2_with fail))
        go_roundw
        case rel => exact ⟨k + 1, by go_num, hkn, (by first | exact HBK.out | exact below_drewN HBK.out _)⟩
        case measure => simp [intOf]; omega
      · go_wp2_with fail
        go_ret
        exact ⟨rfl, bnext ACC6.out hb⟩

set_option maxRecDepth 100000 in
theorem lifted (os : Os) (started : os.Started) (H : Type) (enc : TypeId × Value → H) :
    ReturnsInHanded {} Tryd.checked os 7 .any (fun w args => (Rows.breaksWiderSpec.pre enc Tryd.prog Tryd.f7 [] false w args ∧ laidMetH Tryd.prog laidL w) ∧ sizedMet enc Tryd.prog Tryd.f7 (OpenSpec.ofChange Rows.breaksWiderSpec) false w args)
      (Rows.breaksWiderSpec.post enc Tryd.prog Tryd.f7 false true false false) := by
  refine returnsInHanded_of_change_and (C := Tryd.checked) (X := fun w _ => laidMetH Tryd.prog laidL w) (fun _ _ _ hh h => h.of_heap hh) own started (by kernel_rfl) Tryd.func7
    (ChangeSpec.witness_shaped (enc := enc) (C := Tryd.checked) (os := os) (X := fun w _ => laidMetH Tryd.prog laidL w) false (World.doorLaid Tryd.prog 46 os) #[.agg #[.slice none 0 0, .slice none 0 0, .slice none 0 0, .int .i64 0], .int .u8 0] 8 rfl (World.shaped_of_RefB (by kernel_rfl) (by kernel_rfl)) (by kernel_rfl) (by kernel_rfl) (by kernel_rfl) (door_met os _)) ?_
  intro W base args ds gs before hval0 hW _ _ hL _
  have hval : ∀ (j : Nat) t v, Tryd.f7.params[j]? = some t → args[j]? = some v → Value.okWide Tryd.prog W .any base t v := hval0
  have hW' := hW
  obtain ⟨p, q, hA0, hV, rfl, hfz, hnd⟩ := hW
  have hA : DataW.TrodAll enc Tryd.prog W 0 (fun _ => true) true Tryd.f7.params.toList args.toList ds p := hA0
  rw [Tryd.params7] at hA hval
  obtain ⟨v0, vs0, d0, ds0, p0, q0, hargs, rfl, rfl, h0, r0⟩ := trodAll_cons hA
  obtain ⟨v1, vs1, d1, ds1, p1, q1, rfl, rfl, rfl, h1, r1⟩ := trodAll_cons r0
  obtain ⟨rfl, rfl, rfl⟩ := trodAll_nil r1
  obtain rfl : args = #[v0, v1] := by cases args; simp_all
  obtain ⟨rfl, rfl⟩ := trodVars_none hV
  obtain ⟨g, hlaid⟩ := of_laid hL
  have k0 := h0
  have lt0 : ∀ x ∈ p0, x.block < W.heap.size := by obtain ⟨m, hm⟩ := k0; exact DataW.trod_lt m _ _ _ hm
  have k1 := h1
  have lt1 : ∀ x ∈ p1, x.block < W.heap.size := by obtain ⟨m, hm⟩ := k1; exact DataW.trod_lt m _ _ _ hm
  obtain ⟨x0, y0, z0, a0, X0, Y0, Z0, rfl, wa0, R0a, R0b, R0c⟩ := open_line (hval 0 37 v0 rfl rfl) h0
  obtain ⟨a1, rfl, rfl, rfl, wa1⟩ := open_int Tryd.underlying5 (hval 1 5 v1 rfl rfl) h1
  clear hA0 hval0
  refine (walk x0 y0 z0 a0 X0 Y0 Z0 a1 g wa0 wa1 W hlaid R0a R0b R0c).mono fun e W' ⟨he, bel⟩ => ?_
  subst he
  exact ⟨_, rfl, _, _, _, [], _, [], hW', trodAll_mk1 (shut_bool Tryd.underlying4 _), (trodAll_cons_mk (Below.trod laidOut (by kernel_rfl) (of_decide_eq_true (by kernel_rfl)) k0 bel lt0) (trodAll_cons_mk (Below.trod laidOut (by kernel_rfl) (of_decide_eq_true (by kernel_rfl)) k1 bel lt1) trodAll_mk0)), rfl, bel.frame _, fun h => by cases h⟩

theorem over : Rows.breaksWiderRow.holds Tryd.pinned (OpenSpec.ofChange Rows.breaksWiderSpec) :=
  OpenClaim.holds_of_wide 7 Tryd.f7 rfl rfl rfl rfl rfl rfl rfl ⟨rfl, rfl, rfl, rfl, rfl⟩ rfl rfl rfl rfl rfl (by kernel_rfl) Tryd.func7 (by kernel_rfl)
    (of_decide_eq_true (by kernel_rfl)) (by unfold Func.isWrapper; first | (rw [if_pos (by decide +kernel)]; kernel_rfl) | (rw [if_neg (by decide +kernel)]; exact ⟨rfl, rfl⟩))
    (fun os started H enc _ => lifted os started H enc)

/-- The row's card, tied to the program's text. -/
theorem card : Rows.BreaksWiderCardSaid :=
  Claim7.holds_tied_plain_at .later [] [.data] true Rows.breaksWiderCard.stood.harness false
    over (fun _ h => by cases h) (by kernel_rfl) (fun _ h => by cases h) breaksWider_row_tie rfl ⟨rfl, rfl⟩ (by kernel_rfl) rfl
    (fun f fn hf hfn => by
      obtain rfl : f = 7 := Option.some.inj ((show Tryd.prog.funcNamed "abugida/abugidalaw08.BreaksWider" = some 7 by kernel_rfl).symm.trans hf) |>.symm
      obtain rfl : fn = Tryd.f7 := (Option.some.inj (Tryd.func7.symm.trans hfn)).symm
      exact ⟨by kernel_rfl, fun j t ht => by
        rw [Tryd.params7] at ht
        have hm : t ∈ [37, 5] := by simpa using Array.mem_of_getElem? ht
        have hall : ([37, 5].all fun u => !Tryd.prog.wantsStandIn u) = true := by kernel_rfl
        exact (show Tryd.prog.wantsStandIn t = false by simpa using List.all_eq_true.1 hall t hm)⟩)
    (by kernel_rfl)

end Go.Proofs.YtcocnmpnbolpmaaDoor.breaksWider
namespace Go.Proofs.YtcocnmpnbolpmaaDoor
theorem breaksWider_proved : Rows.BreaksWiderCardSaid := breaksWider.card
#print axioms breaksWider_proved
end Go.Proofs.YtcocnmpnbolpmaaDoor
