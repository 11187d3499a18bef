/- For every line BreaksGreedy returns true: numbers begin with 0 and increase by 0 or 1; each line fits, or has one element; what could stand on a line, up to where it may end, stands on it. No conditions. -/
import Derived.Test.YtcocnmpnbolpmaaDoorBrkGs
import Derived.Test.YtcocnmpnbolpmaaDoorClsLaid
import Derived.Deep.CutRange
namespace Go.Proofs.YtcocnmpnbolpmaaDoor.breaksGreedy
open Go.ChangeShapes Go.WideShapes Go.ChangeAt Go.RowKit Go.Joins Go.Deep
set_option linter.unusedVariables false

theorem row_cut {w : World} {a : Option Addr} {c : Nat} {X W : List Int} (h : RowAt w (.slice a X.length c) (X.map (Value.int .i64))) (hl : W.length = min 40 X.length) (hW : X.take 40 = W) : RowAt w (.slice a W.length c) (W.map (Value.int .i64)) := by
  have := row_first h (m := W.length) (by rw [List.length_map]; omega)
  rwa [show (X.map (Value.int .i64)).take W.length = W.map (Value.int .i64) by rw [← List.map_take, hl, ← List.take_take, List.take_length, hW]] at this
theorem row_cutb {w : World} {a : Option Addr} {c : Nat} {X W : List Bool} (h : RowAt w (.slice a X.length c) (X.map Value.bool)) (hl : W.length = min 40 X.length) (hW : X.take 40 = W) : RowAt w (.slice a W.length c) (W.map Value.bool) := by
  have := row_first h (m := W.length) (by rw [List.length_map]; omega)
  rwa [show (X.map Value.bool).take W.length = W.map Value.bool by rw [← List.map_take, hl, ← List.take_take, List.take_length, hW]] at this
theorem beq_dec (a b : Int) : (a == b) = decide (a = b) := by by_cases h : a = b <;> simp [h]
set_option maxRecDepth 100000 in
set_option maxHeartbeats 4000000 in
theorem walk (x0 : Value) (y0 : Value) (z0 : Value) (a0 : Int) (X0 : List Int) (Y0 : List Int) (Z0 : List Bool) (g : Nat × Nat) (wa0 : (Lit.int .i64 a0).wf = true) (w : World) (hl : Laid w g) (R0a : RowAt w x0 (X0.map (Value.int .i64)) ∧ X0.length ≤ maxLen ∧ ∀ a n c, x0 = .slice a n c → n ≤ c ∧ c ≤ maxLen) (R0b : RowAt w y0 (Y0.map (Value.int .i64)) ∧ Y0.length ≤ maxLen ∧ ∀ a n c, y0 = .slice a n c → n ≤ c ∧ c ≤ maxLen) (R0c : RowAt w z0 (Z0.map Value.bool) ∧ Z0.length ≤ maxLen ∧ ∀ a n c, z0 = .slice a n c → n ≤ c ∧ c ≤ maxLen) :
    Calls Tryd.prog 6 #[.agg #[x0, y0, z0, .int .i64 a0]] w fun e w' => e = .returned (.bool true) ∧ Below w.heap.size w w' := by
  have HL : Hid (∀ B, Below w.heap.size w B → Laid B g) := Lib.hid fun B hb => hl.mono hb
  have acc0 : Below w.heap.size w w := Below.refl _ _
  obtain ⟨k0, c0, hx, _⟩ := id R0a.1
  obtain ⟨k1, c1, hy, _⟩ := id R0b.1
  obtain ⟨k2, c2, hz, _⟩ := id R0c.1
  rw [List.length_map] at hx hy hz
  subst hx hy hz
  obtain ⟨r0, _, i0⟩ := R0a
  obtain ⟨r1, _, i1⟩ := R0b
  obtain ⟨r2, _, i2⟩ := R0c
  have j0 := i0 _ _ _ rfl
  have j1 := i1 _ _ _ rfl
  have j2 := i2 _ _ _ rfl
  obtain ⟨W, hWd⟩ : ∃ W, X0.take 40 = W := ⟨_, rfl⟩
  obtain ⟨M, hMd⟩ : ∃ M, Y0.take 40 = M := ⟨_, rfl⟩
  obtain ⟨S, hSd⟩ : ∃ S, Z0.take 40 = S := ⟨_, rfl⟩
  have lW : W.length = min 40 X0.length := by rw [← hWd, List.length_take]
  have lM : M.length = min 40 Y0.length := by rw [← hMd, List.length_take]
  have lS : S.length = min 40 Z0.length := by rw [← hSd, List.length_take]
  have Q0 := Lib.hid (row_cut r0 lW hWd)
  have Q1 := Lib.hid (row_cut r1 lM hMd)
  have Q2 := Lib.hid (row_cutb r2 lS hSd)
  have HCUT := Lib.hid (fun (V : World) => cut_way k0 k1 k2 X0.length Y0.length Z0.length c0 c1 c2 W.length M.length S.length a0 V j0.1 j1.1 j2.1 j0.2 j1.2 j2.2 (by omega) (by omega) (by omega))
  replace lW : W.length ≤ 40 := by omega
  replace lM : M.length ≤ 40 := by omega
  replace lS : S.length ≤ 40 := by omega
  clear r0 r1 r2 i0 i1 i2 j0 j1 j2 hWd hMd hSd wa0
  go_enter Tryd.func6, Tryd.ntmps6
  go_wp2_with fail
  obtain ⟨w1, hW1⟩ : ∃ W, w.alloc (.cells #[.slice k0 X0.length c0, .slice k1 Y0.length c1, .slice k2 Z0.length c2, .int .i64 a0] 37) = W := ⟨_, rfl⟩
  have hA1 : w1.heap[w.heap.size]? = some (.cells #[.slice k0 X0.length c0, .slice k1 Y0.length c1, .slice k2 Z0.length c2, .int .i64 a0] 37 (0, 0)) := by rw [← hW1]; exact World.alloc_heap_new w _
  have acc1 : Below w.heap.size w w1 := by rw [← hW1]; exact balloc (Below.refl _ _) _
  have hB1 : w.heap.size < w1.heap.size := by rw [← hW1]; simp
  rw [hW1]
  clear hW1
  refine (sane_any g _ (HL.out _ acc1)).mono ?_
  rintro e w2 ⟨rfl, hb2⟩
  have acc2 := bnext acc1 hb2
  have hA2 := (hb2.block w.heap.size hB1).trans hA1
  have hB2 := Nat.lt_of_lt_of_le hB1 hb2.size
  have e02 : w2.cell? ⟨w.heap.size, 0, none⟩ = some (.slice k0 X0.length c0) := by simp [World.cell?, hA2]
  have e12 : w2.cell? ⟨w.heap.size, 1, none⟩ = some (.slice k1 Y0.length c1) := by simp [World.cell?, hA2]
  have e22 : w2.cell? ⟨w.heap.size, 2, none⟩ = some (.slice k2 Z0.length c2) := by simp [World.cell?, hA2]
  have e32 : w2.cell? ⟨w.heap.size, 3, none⟩ = some (.int .i64 a0) := by simp [World.cell?, hA2]
  clear hA1 hB1 hb2 acc1
  go_wp2_with fail
  refine (HCUT.out w2).mono ?_
  rintro e w3 ⟨rfl, hb3⟩
  have acc3 := bnext acc2 hb3
  have hA3 := (hb3.block w.heap.size hB2).trans hA2
  have hB3 := Nat.lt_of_lt_of_le hB2 hb3.size
  have e03 : w3.cell? ⟨w.heap.size, 0, none⟩ = some (.slice k0 X0.length c0) := by simp [World.cell?, hA3]
  have e13 : w3.cell? ⟨w.heap.size, 1, none⟩ = some (.slice k1 Y0.length c1) := by simp [World.cell?, hA3]
  have e23 : w3.cell? ⟨w.heap.size, 2, none⟩ = some (.slice k2 Z0.length c2) := by simp [World.cell?, hA3]
  have e33 : w3.cell? ⟨w.heap.size, 3, none⟩ = some (.int .i64 a0) := by simp [World.cell?, hA3]
  have f03 : w3.frozen? ⟨w.heap.size, 0, none⟩ = false := by simp [World.frozen?, hA3]
  have f13 : w3.frozen? ⟨w.heap.size, 1, none⟩ = false := by simp [World.frozen?, hA3]
  have f23 : w3.frozen? ⟨w.heap.size, 2, none⟩ = false := by simp [World.frozen?, hA3]
  have f33 : w3.frozen? ⟨w.heap.size, 3, none⟩ = false := by simp [World.frozen?, hA3]
  clear e02 e12 e22 e32 hb3 acc2 hA2 hB2 HCUT
  have hZ := heap_setCell_same _ w.heap.size 3 _ 37 (.int .i64 a0) (heap_setCell_same _ w.heap.size 2 _ 37 (.slice k2 S.length c2) (heap_setCell_same _ w.heap.size 1 _ 37 (.slice k1 M.length c1) (heap_setCell_same w3 w.heap.size 0 _ 37 (.slice k0 W.length c0) hA3)))
  have HZ := Lib.hid hZ
  have acc4 : Below w.heap.size w ((((w3.setCell ⟨w.heap.size, 0, none⟩ (.slice k0 W.length c0)).setCell ⟨w.heap.size, 1, none⟩ (.slice k1 M.length c1)).setCell ⟨w.heap.size, 2, none⟩ (.slice k2 S.length c2)).setCell ⟨w.heap.size, 3, none⟩ (.int .i64 a0)) := bset (bset (bset (bset acc3 (Nat.le_refl _) _) (Nat.le_refl _) _) (Nat.le_refl _) _) (Nat.le_refl _) _
  have ACC4 := Lib.hid acc4
  clear hZ acc4 acc3 hA3 hB3
  go_wp2_with fail
  obtain ⟨w4, hW4⟩ : ∃ V, (((w3.setCell ⟨w.heap.size, 0, none⟩ (.slice k0 W.length c0)).setCell ⟨w.heap.size, 1, none⟩ (.slice k1 M.length c1)).setCell ⟨w.heap.size, 2, none⟩ (.slice k2 S.length c2)).setCell ⟨w.heap.size, 3, none⟩ (.int .i64 a0) = V := ⟨_, rfl⟩
  have hA4 : w4.heap[w.heap.size]? = some (.cells #[.slice k0 W.length c0, .slice k1 M.length c1, .slice k2 S.length c2, .int .i64 a0] 37 (0, 0)) := by rw [← hW4]; exact HZ.out
  have acc4 : Below w.heap.size w w4 := by rw [← hW4]; exact ACC4.out
  have hB4 : w.heap.size < w4.heap.size := (Array.getElem?_eq_some_iff.1 hA4).1
  rw [hW4]
  clear hW4 HZ ACC4 e03 e13 e23 e33 f03 f13 f23 f33
  refine (fill_any W M S a0 _ _ _ w4 (Q0.out.keep acc4) (Q1.out.keep acc4) (Q2.out.keep acc4) (by omega) (by omega) (by omega)).mono ?_
  rintro e w5 ⟨va, rfl, sa, hb5⟩
  have acc5 := bnext acc4 hb5
  have hA5 := (hb5.block w.heap.size hB4).trans hA4
  have hB5 := Nat.lt_of_lt_of_le hB4 hb5.size
  have g0 : w5.cell? ⟨w.heap.size, 0, none⟩ = some (.slice k0 W.length c0) := by simp [World.cell?, hA5]
  have g1 : w5.cell? ⟨w.heap.size, 1, none⟩ = some (.slice k1 M.length c1) := by simp [World.cell?, hA5]
  have g2 : w5.cell? ⟨w.heap.size, 2, none⟩ = some (.slice k2 S.length c2) := by simp [World.cell?, hA5]
  have SA := Lib.hid sa
  clear hb5 acc4 hA4 hB4 sa
  go_wp2_with fail
  refine (elements_any W M S _ _ _ w5 (Q0.out.keep acc5) (Q1.out.keep acc5) (Q2.out.keep acc5) (by omega) (by omega) (by omega)).mono ?_
  rintro e w6 ⟨ve, rfl, oe, hb6⟩
  have acc6 := bnext acc5 hb6
  have hA6 := (hb6.block w.heap.size hB5).trans hA5
  have g3 : w6.cell? ⟨w.heap.size, 3, none⟩ = some (.int .i64 a0) := by simp [World.cell?, hA6]
  have hL1 : (BP.Fill W M S a0).length = BP.nOf W M S := BP.Fl.length
  have hn40 : BP.nOf W M S ≤ 40 := by unfold BP.nOf; omega
  obtain ⟨aa, ca, rfl, hca⟩ := row_int (SA.out.keep hb6).row
  have hEA := own_el oe
  have HEB : Hid (∀ k, 0 ≤ (BP.elOf W M S).w k ∧ (BP.elOf W M S).w k ≤ 10000) := Lib.hid fun k => BP.wd_bd _
  have HLN : Hid (∀ (pre : List Int) (line : Nat), BP.Fl (BP.elOf W M S) (BP.nOf W M S) (BP.wd a0) pre line → pre.length < BP.nOf W M S → ∃ e : Nat, BP.Ends (BP.elOf W M S) (BP.nOf W M S) (BP.wd a0) pre.length e ∧ (∀ j, pre.length ≤ j → j ≤ e → (BP.Fill W M S a0).getD j 0 = (line : Int)) ∧ (e + 1 < BP.nOf W M S → (BP.Fill W M S a0).getD (e + 1) 0 = (line : Int) + 1) ∧ BP.Fl (BP.elOf W M S) (BP.nOf W M S) (BP.wd a0) (pre ++ List.replicate (e + 1 - pre.length) (line : Int)) (line + 1)) := Lib.hid fun pre line h hl => h.line (fun k => (BP.wd_bd _).1) hl
  rw [hL1] at hca ⊢
  generalize BP.Fill W M S a0 = L at hca HLN hL1
  generalize BP.elOf W M S = E at hEA HEB HLN
  generalize BP.nOf W M S = n at hca hEA HLN hL1 hn40
  obtain ⟨ae, ce, rfl, hce⟩ := id hEA
  have HCA := Lib.hid hca
  have HEA := Lib.hid hEA
  have HCE := Lib.hid hce
  have ACC6 := Lib.hid acc6
  have hwd := BP.wd_bd a0
  obtain ⟨wdt, hwdt⟩ : ∃ z, BP.wd a0 = z := ⟨_, rfl⟩
  have hwdt2 : wdt = max 0 (min a0 10000) := hwdt.symm
  rw [hwdt] at hwd HLN
  have HWD := Lib.hid hwdt2
  clear hb6 oe hA6 hA5 hB5 acc5 acc6 hca hEA hce SA g0 g1 g2 Q0 Q1 Q2 hl hL1 hwdt hwdt2
  have HGL : Hid (BP.Gl E n L wdt) := Lib.hid HLN.out
  clear HLN
  by_cases hn0 : n = 0
  · subst hn0
    go_upto_region 5 with fail
    go_cut [6] from 30 to 33 (fun s6 wx => s6 = .int .i64 wdt ∧ Below w6.heap.size w6 wx)
    case first =>
      have hw9 := HWD.out
      go_wp2_with fail
      all_goals go_meet
      all_goals exact ⟨by congr 1; omega, Below.refl _ _⟩
    obtain ⟨rfl, hbc⟩ := hcut
    clear g3
    go_wp2_with fail
    refine wp_loop_rounds 1 ?_
    rw [rounds_succ]
    go_wp2_with fail
    go_ret
    exact ⟨rfl, bnext ACC6.out hbc⟩
  · have hnp : 0 < n := by omega
    obtain ⟨gn, on, rfl, _⟩ := HCA.out 0 hnp
    have HN : Hid (∀ k, k < n → w6.cell? ⟨gn, on + k, none⟩ = some (.int .i64 (L.getD k 0))) := Lib.hid fun k hk => by
      obtain ⟨g, o, h, hc⟩ := HCA.out k hk
      injection h with h
      injection h with h1 h2
      subst h1 h2
      exact hc
    obtain ⟨ge, rfl, _⟩ := HCE.out 0 hnp
    have HM : Hid (∀ k, k < n → w6.cell? ⟨ge, k * 3 + 1, none⟩ = some (.int .i64 (E.m k))) := Lib.hid fun k hk => by
      obtain ⟨g, h, _, hc, _⟩ := HCE.out k hk
      injection h with h
      injection h with h1
      subst h1
      exact hc
    have GS0 : Hid (∃ e, BP.GS E n L wdt 0 0 0 e) := Lib.hid (BP.GS.first HGL.out hnp)
    clear hn0
    go_upto_region 5 with fail
    go_cut [6] from 30 to 33 (fun s6 wx => s6 = .int .i64 wdt ∧ Below w6.heap.size w6 wx)
    case first =>
      have hw9 := HWD.out
      go_wp2_with fail
      all_goals go_meet
      all_goals exact ⟨by congr 1; omega, Below.refl _ _⟩
    obtain ⟨rfl, hbc⟩ := hcut
    clear g3
    go_wp2_with fail
    go_loopg [7, 8] n (fun gk v7 v8 wr => ∃ (k p : Nat), v8 = .int .i64 k ∧ v7 = .int .i64 p ∧ n ≤ gk + k ∧ k ≤ n ∧ Hid (k = 0 ∧ p = 0 ∨ ∃ j line e, k = j + 1 ∧ BP.GS E n L wdt j p line e) ∧ Below w6.heap.size w6 wr)
    case atStart => exact ⟨0, 0, rfl, rfl, by omega, by omega, Lib.hid (.inl ⟨rfl, rfl⟩), hbc⟩
    case round =>
      obtain ⟨k, p, rfl, rfl, hgk, hk, HST, hb⟩ := hrel
      by_cases hkn : k < n
      · have hki : (k : Int) < (n : Int) := by omega
        go_upto_region 12 with fail
        go_cut [81] from 45 to 81 (fun s81 wx => s81 = .bool false ∧ Below w6.heap.size w6 wx)
        case first =>
          have c0 := (hb.cell (World.block_lt_of_cell? _ _ (HN.out k hkn))).trans (HN.out k hkn)
          rcases HST.out with ⟨hk0, hp0⟩ | ⟨j, line, e, hkj, hs⟩
          · obtain ⟨e, hs⟩ := GS0.out
            rw [hk0, Nat.add_zero, hs.here] at c0
            have hk0i : ((k : Int) == 0) = true := by simp [hk0]
            have hk0d : decide ((0 : Int) < (k : Int)) = false := decide_eq_false (by omega)
            have hk0n : decide (0 < k) = false := decide_eq_false (by omega)
            have HK0 := Lib.hid hk0
            clear hs hk0 hp0 HST
            go_wp2_with fail
            go_quiet (fail)
            go_wp2_with fail
            go_meet
            exact ⟨rfl, below_drewN hb _⟩
          · obtain ⟨p2, line2, e2, hs2, hor⟩ := hs.go HGL.out (by omega)
            have hk0i : ((k : Int) == 0) = false := by simp; omega
            have hk0d : decide ((0 : Int) < (k : Int)) = true := decide_eq_true (by omega)
            have hk0n : decide (0 < k) = true := decide_eq_true (by omega)
            have hji : (k : Int) - 1 = (j : Int) := by omega
            have hjn : (j : Int) < (n : Int) := by omega
            have cm := (hb.cell (World.block_lt_of_cell? _ _ (HN.out j (by omega)))).trans (HN.out j (by omega))
            rw [← hkj] at hs2
            rw [hs2.here] at c0
            rw [hs.here] at cm
            obtain ⟨l1, hl1⟩ : ∃ z : Int, (line : Int) = z := ⟨_, rfl⟩
            obtain ⟨l2, hl2⟩ : ∃ z : Int, (line2 : Int) = z := ⟨_, rfl⟩
            have hll := hs.lp
            have hpk := hs.pk
            have hwl : wrap64 (l1 + 1) = l1 + 1 := by unfold wrap64; omega
            have dl1 : decide (l2 < l1) = false := decide_eq_false (by omega)
            have dl2 : decide (l1 + 1 < l2) = false := decide_eq_false (by omega)
            rw [hl2] at c0
            rw [hl1] at cm
            have HKJ := Lib.hid hkj
            clear hs hs2 hor hl1 hl2 hll hpk hkj HST
            go_wp2_with fail
            go_quiet (fail)
            go_wp2_with fail
            go_meet
            exact ⟨rfl, below_drewN hb _⟩
        obtain ⟨rfl, hb⟩ := hcut
        go_upto_region 14 with fail
        go_cut [95] from 82 to 95 (fun s95 wx => ∃ (p2 line e : Nat) (b : Bool), s95 = .bool b ∧ p2 = (if b then k else p) ∧ Hid (BP.GS E n L wdt k p2 line e) ∧ Below w6.heap.size w6 wx)
        case first =>
          rcases HST.out with ⟨hk0, hp0⟩ | ⟨j, line, e, hkj, hs⟩
          · obtain ⟨e, hs⟩ := GS0.out
            have hk0d : decide ((0 : Int) < (k : Int)) = false := decide_eq_false (by omega)
            have hk0n : decide (0 < k) = false := decide_eq_false (by omega)
            have HS0 : Hid (BP.GS E n L wdt k p 0 e) := Lib.hid (by rw [hk0, hp0]; exact hs)
            have HK0 := Lib.hid hk0
            clear hs HST hk0 hp0
            go_wp2_with fail
            go_quiet (fail)
            go_wp2_with fail
            go_meet
            exact ⟨p, 0, e, false, rfl, rfl, HS0, below_drewN hb _⟩
          · obtain ⟨p2, line2, e2, hs2, hor⟩ := hs.go HGL.out (by omega)
            have hk0d : decide ((0 : Int) < (k : Int)) = true := decide_eq_true (by omega)
            have hk0n : decide (0 < k) = true := decide_eq_true (by omega)
            have hji : (k : Int) - 1 = (j : Int) := by omega
            have hjn : (j : Int) < (n : Int) := by omega
            have c0 := (hb.cell (World.block_lt_of_cell? _ _ (HN.out k hkn))).trans (HN.out k hkn)
            have cm := (hb.cell (World.block_lt_of_cell? _ _ (HN.out j (by omega)))).trans (HN.out j (by omega))
            rw [← hkj] at hs2
            rw [hs2.here] at c0
            rw [hs.here] at cm
            obtain ⟨b, hdb⟩ : ∃ b, decide ((line : Int) < (line2 : Int)) = b := ⟨_, rfl⟩
            have HP2 : Hid (p2 = if b then k else p) := Lib.hid (by
              rw [← hdb]
              rcases hor with ⟨h1, h2⟩ | ⟨h1, h2⟩
              · rw [decide_eq_false (by omega), h1]; rfl
              · rw [decide_eq_true (by omega), h1, ← hkj]; rfl)
            obtain ⟨l1, hl1⟩ : ∃ z : Int, (line : Int) = z := ⟨_, rfl⟩
            obtain ⟨l2, hl2⟩ : ∃ z : Int, (line2 : Int) = z := ⟨_, rfl⟩
            rw [hl2] at c0 hdb
            rw [hl1] at cm hdb
            have HS2 := Lib.hid hs2
            have HKJ := Lib.hid hkj
            clear hs hs2 hor hl1 hl2 hkj HST
            go_wp2_with fail
            go_quiet (fail)
            go_wp2_with fail
            go_meet
            exact ⟨p2, line2, e2, b, rfl, HP2.out, HS2, below_drewN hb _⟩
        obtain ⟨p2, line, e, b, rfl, hp2, HS, hb⟩ := hcut
        clear HST
        go_upto_if 95 with fail
        go_cut [7] from 96 to 96 (fun s7 wx => s7 = .int .i64 p2 ∧ Below w6.heap.size w6 wx)
        case first =>
          cases b with
          | true =>
            obtain rfl : p2 = k := hp2
            go_wp2_with fail
            go_meet
            exact ⟨rfl, hb⟩
          | false =>
            obtain rfl : p2 = p := hp2
            go_wp2_with fail
            go_meet
            exact ⟨rfl, hb⟩
        obtain ⟨rfl, hb⟩ := hcut
        clear hp2
        go_upto_region 16 with fail
        go_cut [9] from 97 to 113 (fun s9 wx => s9 = .bool (decide (k = e)) ∧ Below w6.heap.size w6 wx)
        case first =>
          have hs := HS.out
          by_cases hk1 : k + 1 = n
          · have hde : decide (k = e) = true := decide_eq_true (by have := hs.ke; have := hs.ends.lt; omega)
            have HDE := Lib.hid hde
            clear hde
            have hq : ((k : Int) == (n : Int) - 1) = true := by simp; omega
            have HK1 := Lib.hid hk1
            clear hs hk1
            go_wp2_with fail
            go_quiet (fail)
            go_wp2_with fail
            go_meet
            exact ⟨by rw [HDE.out], below_drewN hb _⟩
          · have hk1n : k + 1 < n := by omega
            have hq : ((k : Int) == (n : Int) - 1) = false := by simp; omega
            have hk1i : (k : Int) + 1 < (n : Int) := by omega
            have c0 := (hb.cell (World.block_lt_of_cell? _ _ (HN.out k hkn))).trans (HN.out k hkn)
            have cn := (hb.cell (World.block_lt_of_cell? _ _ (HN.out (k + 1) hk1n))).trans (HN.out (k + 1) hk1n)
            rw [hs.here] at c0
            obtain ⟨b, hdb⟩ : ∃ b, decide (k = e) = b := ⟨_, rfl⟩
            obtain ⟨l2, hl2⟩ : ∃ z, L.getD (k + 1) 0 = z := ⟨_, rfl⟩
            rw [hl2] at cn
            have hlt : decide ((line : Int) < l2) = b := by
              rw [← hdb, ← hl2]
              by_cases hke : k = e
              · rw [decide_eq_true hke, hke, hs.nxt (by omega)]; exact decide_eq_true (by omega)
              · rw [decide_eq_false hke, hs.vals (k + 1) (by have := hs.pk; omega) (by have := hs.ke; omega)]; exact decide_eq_false (by omega)
            obtain ⟨l1, hl1⟩ : ∃ z : Int, (line : Int) = z := ⟨_, rfl⟩
            rw [hl1] at c0 hlt
            have HDB := Lib.hid hdb
            clear hs hl1 hl2 hk1 hdb
            go_wp2_with fail
            go_quiet (fail)
            go_wp2_with fail
            go_meet
            exact ⟨by rw [HDB.out], below_drewN hb _⟩
        obtain ⟨rfl, hb⟩ := hcut
        have cm := (hb.cell (World.block_lt_of_cell? _ _ (HM.out k hkn))).trans (HM.out k hkn)
        by_cases hke : k = e
        · rw [decide_eq_true hke]
          subst hke
          clear cm
          go_upto_region 20 with fail
          go_cut [132] from 122 to 132 (fun s132 wx => s132 = .bool false ∧ Below w6.heap.size w6 wx)
          case first =>
            have hs := HS.out
            have HFIT : Hid (k = p2 ∨ BP.ink E p2 (k + 1 - p2) ≤ wdt) := Lib.hid hs.ends.fits
            have hpk := hs.pk
            clear hs
            go_wp2_with fail
            refine (sum_any E n p2 k _ _ (HEA.out.keep hb) hpk hkn (by omega) HEB.out).mono ?_
            rintro e9 w7 ⟨rfl, hb7⟩
            have hb2 := bnext hb hb7
            clear hb7
            generalize BP.ink E p2 (k + 1 - p2) = ik at HFIT
            by_cases hfit : ik ≤ wdt
            · have hd : decide (wdt < ik) = false := decide_eq_false (by omega)
              go_wp2_with fail
              go_meet
              exact ⟨rfl, hb2⟩
            · obtain rfl : k = p2 := HFIT.out.resolve_right hfit
              have hd : decide (wdt < ik) = true := decide_eq_true (by omega)
              go_wp2_with fail
              go_meet
              exact ⟨rfl, hb2⟩
          obtain ⟨rfl, hb⟩ := hcut
          go_upto_region 22 with fail
          go_cut [145] from 133 to 145 (fun s145 wx => s145 = .bool (decide (k + 1 = n) || decide (E.m k = 2)) ∧ Below w6.heap.size w6 wx)
          case first =>
            by_cases hk1 : k + 1 = n
            · have HDE : Hid ((decide (k + 1 = n) || decide (E.m k = 2)) = true) := Lib.hid (by rw [decide_eq_true hk1, Bool.true_or])
              have hq : ((k : Int) == (n : Int) - 1) = true := by simp; omega
              have HK1 := Lib.hid hk1
              clear hk1
              go_wp2_with fail
              go_meet
              exact ⟨by rw [HDE.out], hb⟩
            · have HDE : Hid ((decide (k + 1 = n) || decide (E.m k = 2)) = decide (E.m k = 2)) := Lib.hid (by rw [decide_eq_false hk1, Bool.false_or])
              have hq : ((k : Int) == (n : Int) - 1) = false := by simp; omega
              have cm := (hb.cell (World.block_lt_of_cell? _ _ (HM.out k hkn))).trans (HM.out k hkn)
              obtain ⟨b, hdb⟩ : ∃ b, decide (E.m k = 2) = b := ⟨_, rfl⟩
              have hmb : (E.m k == 2) = b := (beq_dec _ _).trans hdb
              rw [hdb] at HDE
              replace HDE : Hid ((decide (k + 1 = n) || decide (E.m k = 2)) = b) := Lib.hid (by rw [hdb]; exact HDE.out)
              generalize E.m k = mk at cm hmb hdb
              clear hk1 hdb
              go_wp2_with fail
              go_meet
              exact ⟨by rw [HDE.out], hb⟩
          obtain ⟨rfl, hb⟩ := hcut
          by_cases hend : k + 1 = n ∨ E.m k = 2
          · rw [show (decide (k + 1 = n) || decide (E.m k = 2)) = true by rcases hend with h | h <;> simp [h]]
            clear hend
            go_wp2_with fail
            go_roundg (gk - 1)
            case measure => omega
            case rel => exact ⟨k + 1, p2, by go_num, rfl, by omega, by omega, Lib.hid (.inr ⟨k, line, k, rfl, HS.out⟩), hb⟩
          · have hk1 : k + 1 < n := by omega
            have hmk : E.m k ≠ 2 := fun h => hend (.inr h)
            rw [show (decide (k + 1 = n) || decide (E.m k = 2)) = false by rw [decide_eq_false (by omega), decide_eq_false hmk]; rfl]
            have HEN : Hid (∀ m, k < m → BP.ink E p2 (m + 1 - p2) ≤ wdt → E.m m ≠ 1 ∧ E.m m ≠ 2 ∧ m + 1 < n ∧ E.m k = 1) := Lib.hid fun m hm hi => HS.out.ends.behind (fun k => (HEB.out k).1) (by omega) hmk hm hi
            have hpk := HS.out.pk
            clear hend hmk
            obtain ⟨g0, hg0⟩ : ∃ z, z = gk := ⟨gk, rfl⟩
            subst hg0
            go_wp2_with fail
            go_loopg [10] n (fun gm v10 wr => ∃ m : Nat, v10 = .int .i64 m ∧ k < m ∧ m ≤ n ∧ n ≤ gm + m ∧ Below w6.heap.size w6 wr)
            case atStart => exact ⟨k + 1, by go_num, by omega, by omega, by omega, hb⟩
            case round =>
              obtain ⟨m, rfl, hkm, hmn, hgm, hb⟩ := hrel
              by_cases hm : m < n
              · have hmi : (m : Int) < (n : Int) := by omega
                go_wp2_with fail
                refine (sum_any E n p2 m _ _ (HEA.out.keep hb) (by omega) hm (by omega) HEB.out).mono ?_
                rintro e9 w7 ⟨rfl, hb7⟩
                have hb2 := bnext hb hb7
                clear hb7 hb
                have HEM := Lib.hid (HEN.out m hkm)
                generalize BP.ink E p2 (m + 1 - p2) = ik at HEM
                by_cases hfit : ik ≤ wdt
                · obtain ⟨h1, h2, h3, h4⟩ := HEM.out hfit
                  have cm := (hb2.cell (World.block_lt_of_cell? _ _ (HM.out m hm))).trans (HM.out m hm)
                  have ck := (hb2.cell (World.block_lt_of_cell? _ _ (HM.out k hkn))).trans (HM.out k hkn)
                  rw [h4] at ck
                  have hd : decide (ik ≤ wdt) = true := decide_eq_true hfit
                  have m1 : (E.m m == 1) = false := by simpa using h1
                  have m2 : (E.m m == 2) = false := by simpa using h2
                  have hq : ((m : Int) == (n : Int) - 1) = false := by simp; omega
                  generalize E.m m = mm at cm m1 m2
                  clear HEM HEN h1 h2 h4
                  go_wp2_with fail
                  go_roundg (gk - 1)
                  case measure => omega
                  case rel => exact ⟨m + 1, by go_num, by omega, by omega, by omega, hb2⟩
                · have hd : decide (ik ≤ wdt) = false := decide_eq_false hfit
                  clear HEM HEN
                  go_wp2_with fail
                  go_roundg (g0 - 1)
                  case measure => omega
                  case rel => exact ⟨k + 1, p2, by go_num, rfl, by omega, by omega, Lib.hid (.inr ⟨k, line, k, rfl, HS.out⟩), hb2⟩
              · have hmi : ¬ (m : Int) < (n : Int) := by omega
                clear HEN
                go_wp2_with fail
                go_roundg (g0 - 1)
                case measure => omega
                case rel => exact ⟨k + 1, p2, by go_num, rfl, by omega, by omega, Lib.hid (.inr ⟨k, line, k, rfl, HS.out⟩), hb⟩
        · rw [decide_eq_false hke]
          have hs := HS.out
          have hm2 : (E.m k == 2) = false := by have := hs.ends.must k hs.pk (by have := hs.ke; omega); simpa using this
          have hken := hs.ke
          have hen := hs.ends.lt
          generalize E.m k = mk at cm hm2
          clear hs
          go_wp2_with fail
          go_roundg (gk - 1)
          case measure => omega
          case rel => exact ⟨k + 1, p2, by go_num, rfl, by omega, by omega, Lib.hid (.inr ⟨k, line, e, rfl, HS.out⟩), hb⟩
      · have hki : ¬ (k : Int) < (n : Int) := by omega
        go_wp2_with fail
        go_ret
        exact ⟨rfl, bnext ACC6.out hb⟩

set_option maxRecDepth 100000 in
theorem lifted (os : Os) (started : os.Started) (H : Type) (enc : TypeId × Value → H) :
    ReturnsInHanded {} Tryd.checked os 6 .any (fun w args => (Rows.breaksGreedySpec.pre enc Tryd.prog Tryd.f6 [] false w args ∧ laidMetH Tryd.prog laidL w) ∧ sizedMet enc Tryd.prog Tryd.f6 (OpenSpec.ofChange Rows.breaksGreedySpec) false w args)
      (Rows.breaksGreedySpec.post enc Tryd.prog Tryd.f6 false true false false) := by
  refine returnsInHanded_of_change_and (C := Tryd.checked) (X := fun w _ => laidMetH Tryd.prog laidL w) (fun _ _ _ hh h => h.of_heap hh) own started (by kernel_rfl) Tryd.func6
    (ChangeSpec.witness_shaped (enc := enc) (C := Tryd.checked) (os := os) (X := fun w _ => laidMetH Tryd.prog laidL w) false (World.doorLaid Tryd.prog 46 os) #[.agg #[.slice none 0 0, .slice none 0 0, .slice none 0 0, .int .i64 0]] 8 rfl (World.shaped_of_RefB (by kernel_rfl) (by kernel_rfl)) (by kernel_rfl) (by kernel_rfl) (by kernel_rfl) (door_met os _)) ?_
  intro W base args ds gs before hval0 hW _ _ hL _
  have hval : ∀ (j : Nat) t v, Tryd.f6.params[j]? = some t → args[j]? = some v → Value.okWide Tryd.prog W .any base t v := hval0
  have hW' := hW
  obtain ⟨p, q, hA0, hV, rfl, hfz, hnd⟩ := hW
  have hA : DataW.TrodAll enc Tryd.prog W 0 (fun _ => true) true Tryd.f6.params.toList args.toList ds p := hA0
  rw [Tryd.params6] at hA hval
  obtain ⟨v0, vs0, d0, ds0, p0, q0, hargs, rfl, rfl, h0, r0⟩ := trodAll_cons hA
  obtain ⟨rfl, rfl, rfl⟩ := trodAll_nil r0
  obtain rfl : args = #[v0] := by cases args; simp_all
  obtain ⟨rfl, rfl⟩ := trodVars_none hV
  obtain ⟨g, hlaid⟩ := of_laid hL
  have k0 := h0
  have lt0 : ∀ x ∈ p0, x.block < W.heap.size := by obtain ⟨m, hm⟩ := k0; exact DataW.trod_lt m _ _ _ hm
  obtain ⟨x0, y0, z0, a0, X0, Y0, Z0, rfl, wa0, R0a, R0b, R0c⟩ := open_line (hval 0 37 v0 rfl rfl) h0
  clear hA0 hval0
  refine (walk x0 y0 z0 a0 X0 Y0 Z0 g wa0 W hlaid R0a R0b R0c).mono fun e W' ⟨he, bel⟩ => ?_
  subst he
  exact ⟨_, rfl, _, _, _, [], _, [], hW', trodAll_mk1 (shut_bool Tryd.underlying4 _), (trodAll_cons_mk (Below.trod laidOut (by kernel_rfl) (of_decide_eq_true (by kernel_rfl)) k0 bel lt0) trodAll_mk0), rfl, bel.frame _, fun h => by cases h⟩

theorem over : Rows.breaksGreedyRow.holds Tryd.pinned (OpenSpec.ofChange Rows.breaksGreedySpec) :=
  OpenClaim.holds_of_wide 6 Tryd.f6 rfl rfl rfl rfl rfl rfl rfl ⟨rfl, rfl, rfl, rfl, rfl⟩ rfl rfl rfl rfl rfl (by kernel_rfl) Tryd.func6 (by kernel_rfl)
    (of_decide_eq_true (by kernel_rfl)) (by unfold Func.isWrapper; first | (rw [if_pos (by decide +kernel)]; kernel_rfl) | (rw [if_neg (by decide +kernel)]; exact ⟨rfl, rfl⟩))
    (fun os started H enc _ => lifted os started H enc)

/-- The row's card, tied to the program's text. -/
theorem card : Rows.BreaksGreedyCardSaid :=
  Claim7.holds_tied_plain_at .later [] [.data] true Rows.breaksGreedyCard.stood.harness false
    over (fun _ h => by cases h) (by kernel_rfl) (fun _ h => by cases h) breaksGreedy_row_tie rfl ⟨rfl, rfl⟩ (by kernel_rfl) rfl
    (fun f fn hf hfn => by
      obtain rfl : f = 6 := Option.some.inj ((show Tryd.prog.funcNamed "abugida/abugidalaw08.BreaksGreedy" = some 6 by kernel_rfl).symm.trans hf) |>.symm
      obtain rfl : fn = Tryd.f6 := (Option.some.inj (Tryd.func6.symm.trans hfn)).symm
      exact ⟨by kernel_rfl, fun j t ht => by
        rw [Tryd.params6] at ht
        have hm : t ∈ [37] := by simpa using Array.mem_of_getElem? ht
        have hall : ([37].all fun u => !Tryd.prog.wantsStandIn u) = true := by kernel_rfl
        exact (show Tryd.prog.wantsStandIn t = false by simpa using List.all_eq_true.1 hall t hm)⟩)
    (by kernel_rfl)

end Go.Proofs.YtcocnmpnbolpmaaDoor.breaksGreedy
namespace Go.Proofs.YtcocnmpnbolpmaaDoor
theorem breaksGreedy_proved : Rows.BreaksGreedyCardSaid := breaksGreedy.card
#print axioms breaksGreedy_proved
end Go.Proofs.YtcocnmpnbolpmaaDoor
