/- For all lists of numbers ClusterBehind returns true: what follows a text changes none of its clusters but the last one, and this one only if it begins with something that extends, or with a consonant behind a virama. No conditions. -/
import Derived.Test.YtnikddmcphcmeaaDoorCluSane
import Derived.Test.YtnikddmcphcmeaaDoorClsLaid
import Derived.Test.YtnikddmcphcmeaaDoorCluFacts
namespace Go.Proofs.YtnikddmcphcmeaaDoor.clusterBehind
open Go.ChangeShapes Go.WideShapes Go.ChangeAt Go.RowKit Go.Joins Go.Deep
set_option linter.unusedVariables false

theorem made_of {v : Value} {a : List Int} {w W : World} (n : Nat) (hn : n ≤ 1000) (hv : RowAt w v (a.map (Value.int .i64))) (hL : a.length ≤ maxLen) (hb : Below w.heap.size w W) :
    Calls Tryd.prog 11 #[v, .int .i64 n] W fun e W' => ∃ t : ByteArray, e = .returned (.string t) ∧ t.size ≤ n ∧ Below W.heap.size W W' :=
  made_any v (a.map (Value.int .i64)) n W (hv.keep hb) (fun k hk => ⟨a.getD k 0, by simp at hk; simp [List.getD, hk]⟩) (by simpa using hL) hn
set_option maxRecDepth 100000 in
set_option maxHeartbeats 2000000 in
theorem walk (v0 : Value) (a0 : List Int) (v1 : Value) (a1 : List Int) (g : Nat × Nat)  (w : World) (hl : Laid w g) (H0 : RowAt w v0 (a0.map (Value.int .i64))) (L0 : a0.length ≤ maxLen ∧ ∀ a n c, v0 = .slice a n c → n ≤ c) (E0 : ∀ x, x ∈ a0 → -9223372036854775808 ≤ x ∧ x ≤ 9223372036854775807) (H1 : RowAt w v1 (a1.map (Value.int .i64))) (L1 : a1.length ≤ maxLen ∧ ∀ a n c, v1 = .slice a n c → n ≤ c) (E1 : ∀ x, x ∈ a1 → -9223372036854775808 ≤ x ∧ x ≤ 9223372036854775807) :
    Calls Tryd.prog 9 #[v0, v1] w fun e w' => e = .returned (.bool true) ∧ Below w.heap.size w w' := by
  have HL : Hid (∀ B, Below w.heap.size w B → Laid B g) := Lib.hid fun B hb => hl.mono hb
  have acc0 : Below w.heap.size w w := Below.refl _ _
  have HM0 := Lib.hid (fun W (hb : Below w.heap.size w W) => made_of 30 (by omega) H0 L0.1 hb)
  have HM1 := Lib.hid (fun W (hb : Below w.heap.size w W) => made_of 30 (by omega) H1 L1.1 hb)
  clear H0 E0 H1 E1
  go_enter Tryd.func9, Tryd.ntmps9
  go_wp2_with fail
  refine (sane_any g _ hl).mono ?_
  rintro e w1 ⟨rfl, hb1⟩
  have acc1 := bnext acc0 hb1
  go_wp2_with fail
  refine (HM0.out _ acc1).mono ?_
  rintro e w2 ⟨S, rfl, hs0, hb2⟩
  have acc2 := bnext acc1 hb2
  go_wp2_with fail
  refine (HM1.out _ acc2).mono ?_
  rintro e w3 ⟨t, rfl, ht, hb3⟩
  have acc3 := bnext acc2 hb3
  clear hb1 hb2 hb3 acc0 acc1 acc2 HM0 HM1
  have hST : (S ++ t).size ≤ 1000000000 := by rw [ByteArray.size_append]; omega
  go_wp2_with fail
  refine (split_any S g _ (HL.out _ acc3) (by omega)).mono ?_
  rintro e w4 ⟨vs, rfl, os, hb4⟩
  have acc4 := bnext acc3 hb4
  obtain ⟨ao, ac, rfl, hr⟩ := (own_srcP os).keep (Below.refl _ _)
  clear os
  go_wp2_with fail
  refine (split_any (S ++ t) g _ (HL.out _ acc4) hST).mono ?_
  rintro e w5 ⟨vt, rfl, ot, hb5⟩
  have acc5 := bnext acc4 hb5
  obtain ⟨ao2, ac2, rfl, hr2⟩ := own_srcP ot
  have hBH := Lib.hid (CP.behind (CP.sp_split S) (CP.sp_split (S ++ t)))
  have hBL := CP.behind_length (s := S) (t := t)
  have hl1 := CP.split_length S
  have hl2 := CP.split_length (S ++ t)
  have hmem : Hid (∀ x ∈ CP.split S, x.1 < x.2 ∧ x.2 ≤ S.size) := Lib.hid (CP.sp_mem (CP.sp_split S))
  have HX := Lib.hid fun (j : Nat) (hj : j < t.size) (W : World) (hW : Below w.heap.size w W) => (show Calls Tryd.prog 20 #[.int .i64 (t[j].toNat : Int)] W fun e w' => e = .returned (.bool (CP.ex t j)) ∧ Below W.heap.size W w' from by
    have := extends_any (t[j].toNat : Int) g W (HL.out _ hW)
    rwa [show FC.extB (t[j].toNat : Int) = CP.ex t j by unfold CP.ex; rw [CP.ch_at hj]] at this)
  have HK := Lib.hid fun (s : ByteArray) (j : Nat) (hj : j < s.size) (W : World) (hW : Below w.heap.size w W) => (show Calls Tryd.prog 19 #[.int .i64 (s[j].toNat : Int)] W fun e w' => e = .returned (.int .i64 (CP.cl s j)) ∧ Below W.heap.size W w' from by
    have := class_any (s[j].toNat : Int) g W (HL.out _ hW)
    rwa [show FC.cls (s[j].toNat : Int) = CP.cl s j by unfold CP.cl; rw [CP.ch_at hj]] at this)
  generalize CP.split (S ++ t) = m at hr2 hBH hBL hl2
  generalize CP.split S = l at hr hBH hBL hl1 hmem
  clear ot
  have ACC5 := Lib.hid acc5
  have hb45 := hb5.size
  have hr' : l = [] ∨ ∃ q, ao = some ⟨q, 0, none⟩ ∧ q < w5.heap.size ∧ ∀ i x, l[i]? = some x → w5.cell? ⟨q, i * 2, none⟩ = some (.int .i64 (x.1 : Int)) ∧ w5.cell? ⟨q, i * 2 + 1, none⟩ = some (.int .i64 (x.2 : Int)) := by
    rcases hr with h | ⟨q, h1, h2, h3⟩
    · exact .inl h
    · exact .inr ⟨q, h1, by omega, fun i x hx => ⟨(hb5.cell (p := ⟨q, i * 2, none⟩) h2).trans (h3 i x hx).1, (hb5.cell (p := ⟨q, i * 2 + 1, none⟩) h2).trans (h3 i x hx).2⟩⟩
  clear hr hb5 hl HL acc3 acc4 acc5
  have hml : ¬ (m.length : Int) < (l.length : Int) := by omega
  go_wp2_with fail
  simp only [show decide (m.length < l.length) = false from decide_eq_false (by omega)]
  go_loopw [32] (fun v32 wr => ∃ k : Nat, v32 = .int .i64 k ∧ k ≤ l.length ∧ Below w5.heap.size w5 wr) (fun v _ => l.length - (intOf v).toNat)
  case atStart => exact ⟨0, rfl, Nat.zero_le _, Below.refl _ _⟩
  case round =>
    obtain ⟨k, rfl, hk, hb⟩ := hrel
    rename World => w6
    by_cases h1 : k < l.length
    · have h1i : (k : Int) < (l.length : Int) := by omega
      have h1m : (k : Int) < (m.length : Int) := by omega
      obtain ⟨x, hx⟩ : ∃ x, l[k]? = some x := ⟨l[k], List.getElem?_eq_getElem h1⟩
      obtain ⟨y, hy, hy1, hy2⟩ := hBH.out k x hx
      have hxm := hmem.out x (List.mem_of_getElem? hx)
      rcases hr' with rfl | ⟨q1, rfl, hg1, hc1⟩
      · simp at h1
      · rcases hr2 with rfl | ⟨q2, rfl, hg2, hc2⟩
        · simp at hy
        · obtain ⟨a0', a1'⟩ := hc1 k x hx
          obtain ⟨b0, b1⟩ := hc2 k y hy
          replace a0' := (hb.cell (p := ⟨q1, k * 2, none⟩) hg1).trans a0'
          replace a1' := (hb.cell (p := ⟨q1, k * 2 + 1, none⟩) hg1).trans a1'
          obtain ⟨f, u⟩ := x
          obtain ⟨f', u'⟩ := y
          simp only at a0' a1' b0 b1 hy1 hxm
          subst hy1
          have HY : Hid (u' = u ∨ k + 1 = l.length ∧ CP.grows S t = true) := Lib.hid (hy2.imp_left fun h => by injection h)
          clear hx hy hy2 hc1 hc2
          obtain ⟨j, hj⟩ : ∃ j, S.size = j + 1 := ⟨S.size - 1, by omega⟩
          have hSj : (S.size : Int) - 1 = (j : Int) := by omega
          have hjS : j < S.size := by omega
          have g1 : decide ((0 : Int) < (S.size : Int)) = true := decide_eq_true (by omega)
          have g1' : decide (0 < S.size) = true := decide_eq_true (by omega)
          have hby : (S[j].toNat : Int) ≤ 255 := by have := S[j].toNat_lt; omega
          have hff : ((f' : Int) != (f' : Int)) = false := by simp
          have huu : ((u : Int) != (u : Int)) = false := by simp
          have hkl : k < 1000 := by omega
          have HBI : Hid (Below w5.heap.size w5 w6) := Lib.hid hb
          have HG : Hid (CP.grows S t = (decide (0 < t.size) && (CP.ex t 0 || (decide (CP.cl t 0 = 9) && decide (CP.cl S j = 10))))) := Lib.hid (by unfold CP.grows; rw [g1', Bool.true_and, show S.size - 1 = j by omega])
          rcases Nat.eq_zero_or_pos t.size with t0 | t0
          · have g2 : decide ((0 : Int) < (t.size : Int)) = false := decide_eq_false (by omega)
            have g2' : decide (0 < t.size) = false := decide_eq_false (by omega)
            obtain rfl : u = u' := (HY.out.resolve_right fun h => by have := h.2; rw [HG.out, g2'] at this; cases this).symm
            clear HG HY t0 HX HK
            go_wp2_with fail
            obtain ⟨W, hW⟩ : ∃ W, w6.alloc (.cells #[.int .i64 (f' : Int), .int .i64 (u : Int)] 30) = W := ⟨_, rfl⟩
            have e0 : W.cell? ⟨w6.heap.size, 0, none⟩ = some (.int .i64 (f' : Int)) := by rw [← hW]; exact (two_cells (World.alloc_heap_new w6 _)).1
            have e1 : W.cell? ⟨w6.heap.size, 1, none⟩ = some (.int .i64 (u : Int)) := by rw [← hW]; exact (two_cells (World.alloc_heap_new w6 _)).2
            have HBW : Hid (Below w5.heap.size w5 W) := Lib.hid (by rw [← hW]; exact balloc HBI.out _)
            have hWs : w6.heap.size < W.heap.size := by rw [← hW]; simp
            rw [hW]
            clear hW a0' a1' hb HBI
            have z0 := (HBW.out.cell (p := ⟨q2, k * 2, none⟩) hg2).trans b0
            have z1 := (HBW.out.cell (p := ⟨q2, k * 2 + 1, none⟩) hg2).trans b1
            go_quiet (fail)
            go_wp2_with fail
            go_roundw
            case rel => exact ⟨k + 1, by go_num, h1, (by first | exact HBW.out | exact below_drewN HBW.out _)⟩
            case measure => simp [intOf]; omega
          · have g2 : decide ((0 : Int) < (t.size : Int)) = true := decide_eq_true (by omega)
            have g2' : decide (0 < t.size) = true := decide_eq_true (by omega)
            have hbt : (t[0].toNat : Int) ≤ 255 := by have := t[0].toNat_lt; omega
            have X1 := Lib.hid (HX.out 0 t0)
            have K1 := Lib.hid (HK.out t 0 t0)
            have K2 := Lib.hid (HK.out S j hjS)
            rw [g2', Bool.true_and] at HG
            generalize CP.ex t 0 = x at X1 HG
            generalize CP.cl t 0 = c1 at K1 HG
            generalize CP.cl S j = c2 at K2 HG
            generalize CP.grows S t = gz at HY HG
            clear HX HK
            cases x with
            | true =>
              have hgz : gz = true := HG.out
              subst hgz
              clear HG
              by_cases huz : u = u'
              · subst huz
                clear HY
                go_wp2_with fail
                obtain ⟨W, hW⟩ : ∃ W, w6.alloc (.cells #[.int .i64 (f' : Int), .int .i64 (u : Int)] 30) = W := ⟨_, rfl⟩
                have e0 : W.cell? ⟨w6.heap.size, 0, none⟩ = some (.int .i64 (f' : Int)) := by rw [← hW]; exact (two_cells (World.alloc_heap_new w6 _)).1
                have e1 : W.cell? ⟨w6.heap.size, 1, none⟩ = some (.int .i64 (u : Int)) := by rw [← hW]; exact (two_cells (World.alloc_heap_new w6 _)).2
                have HBW : Hid (Below w5.heap.size w5 W) := Lib.hid (by rw [← hW]; exact balloc HBI.out _)
                have hWs : w6.heap.size < W.heap.size := by rw [← hW]; simp
                rw [hW]
                clear hW a0' a1' hb HBI
                refine (X1.out _ (bnext ACC5.out HBW.out)).mono ?_
                rintro e' w7 ⟨rfl, hb7⟩
                have HB7 := Lib.hid (bnext HBW.out hb7)
                replace e0 := (hb7.cell (p := ⟨w6.heap.size, 0, none⟩) hWs).trans e0
                replace e1 := (hb7.cell (p := ⟨w6.heap.size, 1, none⟩) hWs).trans e1
                replace hWs := Nat.lt_of_lt_of_le hWs hb7.size
                clear hb7
                have z0 := (HB7.out.cell (p := ⟨q2, k * 2, none⟩) hg2).trans b0
                have z1 := (HB7.out.cell (p := ⟨q2, k * 2 + 1, none⟩) hg2).trans b1
                go_wp2_with fail
                go_quiet (fail)
                go_wp2_with fail
                go_roundw
                case rel => exact ⟨k + 1, by go_num, h1, (by first | exact HB7.out | exact below_drewN HB7.out _)⟩
                case measure => simp [intOf]; omega
              · have hlast : ((k : Int) == (l.length : Int) - 1) = true := by have := (HY.out.resolve_left fun h => huz h.symm).1; simp; omega
                have huv : ((u' : Int) != (u : Int)) = true := by simp; omega
                have huw : ((u' : Int) == (u : Int)) = false := by simp; omega
                clear HY huz
                go_wp2_with fail
                obtain ⟨W, hW⟩ : ∃ W, w6.alloc (.cells #[.int .i64 (f' : Int), .int .i64 (u : Int)] 30) = W := ⟨_, rfl⟩
                have e0 : W.cell? ⟨w6.heap.size, 0, none⟩ = some (.int .i64 (f' : Int)) := by rw [← hW]; exact (two_cells (World.alloc_heap_new w6 _)).1
                have e1 : W.cell? ⟨w6.heap.size, 1, none⟩ = some (.int .i64 (u : Int)) := by rw [← hW]; exact (two_cells (World.alloc_heap_new w6 _)).2
                have HBW : Hid (Below w5.heap.size w5 W) := Lib.hid (by rw [← hW]; exact balloc HBI.out _)
                have hWs : w6.heap.size < W.heap.size := by rw [← hW]; simp
                rw [hW]
                clear hW a0' a1' hb HBI
                refine (X1.out _ (bnext ACC5.out HBW.out)).mono ?_
                rintro e' w7 ⟨rfl, hb7⟩
                have HB7 := Lib.hid (bnext HBW.out hb7)
                replace e0 := (hb7.cell (p := ⟨w6.heap.size, 0, none⟩) hWs).trans e0
                replace e1 := (hb7.cell (p := ⟨w6.heap.size, 1, none⟩) hWs).trans e1
                replace hWs := Nat.lt_of_lt_of_le hWs hb7.size
                clear hb7
                have z0 := (HB7.out.cell (p := ⟨q2, k * 2, none⟩) hg2).trans b0
                have z1 := (HB7.out.cell (p := ⟨q2, k * 2 + 1, none⟩) hg2).trans b1
                go_wp2_with fail
                go_quiet (fail)
                go_wp2_with fail
                go_roundw
                case rel => exact ⟨k + 1, by go_num, h1, (by first | exact HB7.out | exact below_drewN HB7.out _)⟩
                case measure => simp [intOf]; omega
            | false =>
              by_cases h9 : c1 = 9
              · subst h9
                by_cases h10 : c2 = 10
                · subst h10
                  have hgz : gz = true := HG.out
                  subst hgz
                  clear HG
                  by_cases huz : u = u'
                  · subst huz
                    clear HY
                    go_wp2_with fail
                    obtain ⟨W, hW⟩ : ∃ W, w6.alloc (.cells #[.int .i64 (f' : Int), .int .i64 (u : Int)] 30) = W := ⟨_, rfl⟩
                    have e0 : W.cell? ⟨w6.heap.size, 0, none⟩ = some (.int .i64 (f' : Int)) := by rw [← hW]; exact (two_cells (World.alloc_heap_new w6 _)).1
                    have e1 : W.cell? ⟨w6.heap.size, 1, none⟩ = some (.int .i64 (u : Int)) := by rw [← hW]; exact (two_cells (World.alloc_heap_new w6 _)).2
                    have HBW : Hid (Below w5.heap.size w5 W) := Lib.hid (by rw [← hW]; exact balloc HBI.out _)
                    have hWs : w6.heap.size < W.heap.size := by rw [← hW]; simp
                    rw [hW]
                    clear hW a0' a1' hb HBI
                    refine (X1.out _ (bnext ACC5.out HBW.out)).mono ?_
                    rintro e' w7 ⟨rfl, hb7⟩
                    have HB7 := Lib.hid (bnext HBW.out hb7)
                    replace e0 := (hb7.cell (p := ⟨w6.heap.size, 0, none⟩) hWs).trans e0
                    replace e1 := (hb7.cell (p := ⟨w6.heap.size, 1, none⟩) hWs).trans e1
                    replace hWs := Nat.lt_of_lt_of_le hWs hb7.size
                    clear hb7
                    go_wp2_with fail
                    refine (K1.out _ (bnext ACC5.out HB7.out)).mono ?_
                    rintro e' w8 ⟨rfl, hb8⟩
                    have HB8 := Lib.hid (bnext HB7.out hb8)
                    replace e0 := (hb8.cell (p := ⟨w6.heap.size, 0, none⟩) hWs).trans e0
                    replace e1 := (hb8.cell (p := ⟨w6.heap.size, 1, none⟩) hWs).trans e1
                    replace hWs := Nat.lt_of_lt_of_le hWs hb8.size
                    clear hb8
                    go_wp2_with fail
                    refine (K2.out _ (bnext ACC5.out HB8.out)).mono ?_
                    rintro e' w9 ⟨rfl, hb9⟩
                    have HB9 := Lib.hid (bnext HB8.out hb9)
                    replace e0 := (hb9.cell (p := ⟨w6.heap.size, 0, none⟩) hWs).trans e0
                    replace e1 := (hb9.cell (p := ⟨w6.heap.size, 1, none⟩) hWs).trans e1
                    replace hWs := Nat.lt_of_lt_of_le hWs hb9.size
                    clear hb9
                    have z0 := (HB9.out.cell (p := ⟨q2, k * 2, none⟩) hg2).trans b0
                    have z1 := (HB9.out.cell (p := ⟨q2, k * 2 + 1, none⟩) hg2).trans b1
                    go_wp2_with fail
                    go_quiet (fail)
                    go_wp2_with fail
                    go_roundw
                    case rel => exact ⟨k + 1, by go_num, h1, (by first | exact HB9.out | exact below_drewN HB9.out _)⟩
                    case measure => simp [intOf]; omega
                  · have hlast : ((k : Int) == (l.length : Int) - 1) = true := by have := (HY.out.resolve_left fun h => huz h.symm).1; simp; omega
                    have huv : ((u' : Int) != (u : Int)) = true := by simp; omega
                    have huw : ((u' : Int) == (u : Int)) = false := by simp; omega
                    clear HY huz
                    go_wp2_with fail
                    obtain ⟨W, hW⟩ : ∃ W, w6.alloc (.cells #[.int .i64 (f' : Int), .int .i64 (u : Int)] 30) = W := ⟨_, rfl⟩
                    have e0 : W.cell? ⟨w6.heap.size, 0, none⟩ = some (.int .i64 (f' : Int)) := by rw [← hW]; exact (two_cells (World.alloc_heap_new w6 _)).1
                    have e1 : W.cell? ⟨w6.heap.size, 1, none⟩ = some (.int .i64 (u : Int)) := by rw [← hW]; exact (two_cells (World.alloc_heap_new w6 _)).2
                    have HBW : Hid (Below w5.heap.size w5 W) := Lib.hid (by rw [← hW]; exact balloc HBI.out _)
                    have hWs : w6.heap.size < W.heap.size := by rw [← hW]; simp
                    rw [hW]
                    clear hW a0' a1' hb HBI
                    refine (X1.out _ (bnext ACC5.out HBW.out)).mono ?_
                    rintro e' w7 ⟨rfl, hb7⟩
                    have HB7 := Lib.hid (bnext HBW.out hb7)
                    replace e0 := (hb7.cell (p := ⟨w6.heap.size, 0, none⟩) hWs).trans e0
                    replace e1 := (hb7.cell (p := ⟨w6.heap.size, 1, none⟩) hWs).trans e1
                    replace hWs := Nat.lt_of_lt_of_le hWs hb7.size
                    clear hb7
                    go_wp2_with fail
                    refine (K1.out _ (bnext ACC5.out HB7.out)).mono ?_
                    rintro e' w8 ⟨rfl, hb8⟩
                    have HB8 := Lib.hid (bnext HB7.out hb8)
                    replace e0 := (hb8.cell (p := ⟨w6.heap.size, 0, none⟩) hWs).trans e0
                    replace e1 := (hb8.cell (p := ⟨w6.heap.size, 1, none⟩) hWs).trans e1
                    replace hWs := Nat.lt_of_lt_of_le hWs hb8.size
                    clear hb8
                    go_wp2_with fail
                    refine (K2.out _ (bnext ACC5.out HB8.out)).mono ?_
                    rintro e' w9 ⟨rfl, hb9⟩
                    have HB9 := Lib.hid (bnext HB8.out hb9)
                    replace e0 := (hb9.cell (p := ⟨w6.heap.size, 0, none⟩) hWs).trans e0
                    replace e1 := (hb9.cell (p := ⟨w6.heap.size, 1, none⟩) hWs).trans e1
                    replace hWs := Nat.lt_of_lt_of_le hWs hb9.size
                    clear hb9
                    have z0 := (HB9.out.cell (p := ⟨q2, k * 2, none⟩) hg2).trans b0
                    have z1 := (HB9.out.cell (p := ⟨q2, k * 2 + 1, none⟩) hg2).trans b1
                    go_wp2_with fail
                    go_quiet (fail)
                    go_wp2_with fail
                    go_roundw
                    case rel => exact ⟨k + 1, by go_num, h1, (by first | exact HB9.out | exact below_drewN HB9.out _)⟩
                    case measure => simp [intOf]; omega
                · have hgz : gz = false := by rw [HG.out, decide_eq_false h10]; rfl
                  subst hgz
                  have r10 : (c2 == 10) = false := by simpa using h10
                  obtain rfl : u = u' := (HY.out.resolve_right fun h => by cases h.2).symm
                  clear HG HY h10
                  go_wp2_with fail
                  obtain ⟨W, hW⟩ : ∃ W, w6.alloc (.cells #[.int .i64 (f' : Int), .int .i64 (u : Int)] 30) = W := ⟨_, rfl⟩
                  have e0 : W.cell? ⟨w6.heap.size, 0, none⟩ = some (.int .i64 (f' : Int)) := by rw [← hW]; exact (two_cells (World.alloc_heap_new w6 _)).1
                  have e1 : W.cell? ⟨w6.heap.size, 1, none⟩ = some (.int .i64 (u : Int)) := by rw [← hW]; exact (two_cells (World.alloc_heap_new w6 _)).2
                  have HBW : Hid (Below w5.heap.size w5 W) := Lib.hid (by rw [← hW]; exact balloc HBI.out _)
                  have hWs : w6.heap.size < W.heap.size := by rw [← hW]; simp
                  rw [hW]
                  clear hW a0' a1' hb HBI
                  refine (X1.out _ (bnext ACC5.out HBW.out)).mono ?_
                  rintro e' w7 ⟨rfl, hb7⟩
                  have HB7 := Lib.hid (bnext HBW.out hb7)
                  replace e0 := (hb7.cell (p := ⟨w6.heap.size, 0, none⟩) hWs).trans e0
                  replace e1 := (hb7.cell (p := ⟨w6.heap.size, 1, none⟩) hWs).trans e1
                  replace hWs := Nat.lt_of_lt_of_le hWs hb7.size
                  clear hb7
                  go_wp2_with fail
                  refine (K1.out _ (bnext ACC5.out HB7.out)).mono ?_
                  rintro e' w8 ⟨rfl, hb8⟩
                  have HB8 := Lib.hid (bnext HB7.out hb8)
                  replace e0 := (hb8.cell (p := ⟨w6.heap.size, 0, none⟩) hWs).trans e0
                  replace e1 := (hb8.cell (p := ⟨w6.heap.size, 1, none⟩) hWs).trans e1
                  replace hWs := Nat.lt_of_lt_of_le hWs hb8.size
                  clear hb8
                  go_wp2_with fail
                  refine (K2.out _ (bnext ACC5.out HB8.out)).mono ?_
                  rintro e' w9 ⟨rfl, hb9⟩
                  have HB9 := Lib.hid (bnext HB8.out hb9)
                  replace e0 := (hb9.cell (p := ⟨w6.heap.size, 0, none⟩) hWs).trans e0
                  replace e1 := (hb9.cell (p := ⟨w6.heap.size, 1, none⟩) hWs).trans e1
                  replace hWs := Nat.lt_of_lt_of_le hWs hb9.size
                  clear hb9
                  have z0 := (HB9.out.cell (p := ⟨q2, k * 2, none⟩) hg2).trans b0
                  have z1 := (HB9.out.cell (p := ⟨q2, k * 2 + 1, none⟩) hg2).trans b1
                  go_wp2_with fail
                  go_quiet (fail)
                  go_wp2_with fail
                  go_roundw
                  case rel => exact ⟨k + 1, by go_num, h1, (by first | exact HB9.out | exact below_drewN HB9.out _)⟩
                  case measure => simp [intOf]; omega
              · have hgz : gz = false := by rw [HG.out, decide_eq_false h9]; rfl
                subst hgz
                have r9 : (c1 == 9) = false := by simpa using h9
                obtain rfl : u = u' := (HY.out.resolve_right fun h => by cases h.2).symm
                clear HG HY h9
                go_wp2_with fail
                obtain ⟨W, hW⟩ : ∃ W, w6.alloc (.cells #[.int .i64 (f' : Int), .int .i64 (u : Int)] 30) = W := ⟨_, rfl⟩
                have e0 : W.cell? ⟨w6.heap.size, 0, none⟩ = some (.int .i64 (f' : Int)) := by rw [← hW]; exact (two_cells (World.alloc_heap_new w6 _)).1
                have e1 : W.cell? ⟨w6.heap.size, 1, none⟩ = some (.int .i64 (u : Int)) := by rw [← hW]; exact (two_cells (World.alloc_heap_new w6 _)).2
                have HBW : Hid (Below w5.heap.size w5 W) := Lib.hid (by rw [← hW]; exact balloc HBI.out _)
                have hWs : w6.heap.size < W.heap.size := by rw [← hW]; simp
                rw [hW]
                clear hW a0' a1' hb HBI
                refine (X1.out _ (bnext ACC5.out HBW.out)).mono ?_
                rintro e' w7 ⟨rfl, hb7⟩
                have HB7 := Lib.hid (bnext HBW.out hb7)
                replace e0 := (hb7.cell (p := ⟨w6.heap.size, 0, none⟩) hWs).trans e0
                replace e1 := (hb7.cell (p := ⟨w6.heap.size, 1, none⟩) hWs).trans e1
                replace hWs := Nat.lt_of_lt_of_le hWs hb7.size
                clear hb7
                go_wp2_with fail
                refine (K1.out _ (bnext ACC5.out HB7.out)).mono ?_
                rintro e' w8 ⟨rfl, hb8⟩
                have HB8 := Lib.hid (bnext HB7.out hb8)
                replace e0 := (hb8.cell (p := ⟨w6.heap.size, 0, none⟩) hWs).trans e0
                replace e1 := (hb8.cell (p := ⟨w6.heap.size, 1, none⟩) hWs).trans e1
                replace hWs := Nat.lt_of_lt_of_le hWs hb8.size
                clear hb8
                have z0 := (HB8.out.cell (p := ⟨q2, k * 2, none⟩) hg2).trans b0
                have z1 := (HB8.out.cell (p := ⟨q2, k * 2 + 1, none⟩) hg2).trans b1
                go_wp2_with fail
                go_quiet (fail)
                go_wp2_with fail
                go_roundw
                case rel => exact ⟨k + 1, by go_num, h1, (by first | exact HB8.out | exact below_drewN HB8.out _)⟩
                case measure => simp [intOf]; omega
    · obtain rfl : k = l.length := by omega
      go_wp2_with fail
      go_ret
      exact ⟨rfl, bnext ACC5.out hb⟩

set_option maxRecDepth 100000 in
theorem lifted (os : Os) (started : os.Started) (H : Type) (enc : TypeId × Value → H) :
    ReturnsInHanded {} Tryd.checked os 9 .any (fun w args => (Rows.clusterBehindSpec.pre enc Tryd.prog Tryd.f9 [] false w args ∧ laidMetH Tryd.prog laidL w) ∧ sizedMet enc Tryd.prog Tryd.f9 (OpenSpec.ofChange Rows.clusterBehindSpec) false w args)
      (Rows.clusterBehindSpec.post enc Tryd.prog Tryd.f9 false true false false) := by
  refine returnsInHanded_of_change_and (C := Tryd.checked) (X := fun w _ => laidMetH Tryd.prog laidL w) (fun _ _ _ hh h => h.of_heap hh) own started (by kernel_rfl) Tryd.func9
    (ChangeSpec.witness_shaped (enc := enc) (C := Tryd.checked) (os := os) (X := fun w _ => laidMetH Tryd.prog laidL w) false (World.doorLaid Tryd.prog 46 os) #[.slice none 0 0, .slice none 0 0] 8 rfl (World.shaped_of_RefB (by kernel_rfl) (by kernel_rfl)) (by kernel_rfl) (by kernel_rfl) (by kernel_rfl) (door_met os _)) ?_
  intro W base args ds gs before hval0 hW _ _ hL _
  have hval : ∀ (j : Nat) t v, Tryd.f9.params[j]? = some t → args[j]? = some v → Value.okWide Tryd.prog W .any base t v := hval0
  have hW' := hW
  obtain ⟨p, q, hA0, hV, rfl, hfz, hnd⟩ := hW
  have hA : DataW.TrodAll enc Tryd.prog W 0 (fun _ => true) true Tryd.f9.params.toList args.toList ds p := hA0
  rw [Tryd.params9] at hA hval
  obtain ⟨v0, vs0, d0, ds0, p0, q0, hargs, rfl, rfl, h0, r0⟩ := trodAll_cons hA
  obtain ⟨v1, vs1, d1, ds1, p1, q1, rfl, rfl, rfl, h1, r1⟩ := trodAll_cons r0
  obtain ⟨rfl, rfl, rfl⟩ := trodAll_nil r1
  obtain rfl : args = #[v0, v1] := by cases args; simp_all
  obtain ⟨rfl, rfl⟩ := trodVars_none hV
  obtain ⟨g, hlaid⟩ := of_laid hL
  have k0 := h0
  have lt0 : ∀ x ∈ p0, x.block < W.heap.size := by obtain ⟨m, hm⟩ := k0; exact DataW.trod_lt m _ _ _ hm
  have k1 := h1
  have lt1 : ∀ x ∈ p1, x.block < W.heap.size := by obtain ⟨m, hm⟩ := k1; exact DataW.trod_lt m _ _ _ hm
  obtain ⟨a0, H0, L0, E0⟩ := open_l (hval 0 22 v0 rfl rfl) h0
  obtain ⟨a1, H1, L1, E1⟩ := open_l (hval 1 22 v1 rfl rfl) h1
  clear hA0 hval0
  refine (walk v0 a0 v1 a1 g  W hlaid H0 L0 E0 H1 L1 E1).mono fun e W' ⟨he, bel⟩ => ?_
  subst he
  exact ⟨_, rfl, _, _, _, [], _, [], hW', trodAll_mk1 (shut_bool Tryd.underlying4 _), (trodAll_cons_mk (Below.trod laidOut (by kernel_rfl) (of_decide_eq_true (by kernel_rfl)) k0 bel lt0) (trodAll_cons_mk (Below.trod laidOut (by kernel_rfl) (of_decide_eq_true (by kernel_rfl)) k1 bel lt1) trodAll_mk0)), rfl, bel.frame _, fun h => by cases h⟩

theorem over : Rows.clusterBehindRow.holds Tryd.pinned (OpenSpec.ofChange Rows.clusterBehindSpec) :=
  OpenClaim.holds_of_wide 9 Tryd.f9 rfl rfl rfl rfl rfl rfl rfl ⟨rfl, rfl, rfl, rfl, rfl⟩ rfl rfl rfl rfl rfl (by kernel_rfl) Tryd.func9 (by kernel_rfl)
    (of_decide_eq_true (by kernel_rfl)) (by unfold Func.isWrapper; first | (rw [if_pos (by decide +kernel)]; kernel_rfl) | (rw [if_neg (by decide +kernel)]; exact ⟨rfl, rfl⟩))
    (fun os started H enc _ => lifted os started H enc)

/-- The row's card, tied to the program's text. -/
theorem card : Rows.ClusterBehindCardSaid :=
  Claim7.holds_tied_plain_at .later [] [.data] true Rows.clusterBehindCard.stood.harness false
    over (fun _ h => by cases h) (by kernel_rfl) (fun _ h => by cases h) clusterBehind_row_tie rfl ⟨rfl, rfl⟩ (by kernel_rfl) rfl
    (fun f fn hf hfn => by
      obtain rfl : f = 9 := Option.some.inj ((show Tryd.prog.funcNamed "abugida/abugidalaw06.ClusterBehind" = some 9 by kernel_rfl).symm.trans hf) |>.symm
      obtain rfl : fn = Tryd.f9 := (Option.some.inj (Tryd.func9.symm.trans hfn)).symm
      exact ⟨by kernel_rfl, fun j t ht => by
        rw [Tryd.params9] at ht
        have hm : t ∈ [22, 22] := by simpa using Array.mem_of_getElem? ht
        have hall : ([22, 22].all fun u => !Tryd.prog.wantsStandIn u) = true := by kernel_rfl
        exact (show Tryd.prog.wantsStandIn t = false by simpa using List.all_eq_true.1 hall t hm)⟩)
    (by kernel_rfl)

end Go.Proofs.YtnikddmcphcmeaaDoor.clusterBehind
namespace Go.Proofs.YtnikddmcphcmeaaDoor
theorem clusterBehind_proved : Rows.ClusterBehindCardSaid := clusterBehind.card
#print axioms clusterBehind_proved
end Go.Proofs.YtnikddmcphcmeaaDoor
