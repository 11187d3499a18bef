/- For every list of numbers ClusterBelongs returns true: inside of a cluster there are only characters that extend, and consonants behind a virama; a cluster begins with one of them only at the beginning, behind the end of a line, or behind a full cluster. No conditions. -/
import Derived.Test.YtnikddmcphcmeaaDoorCluSane
import Derived.Test.YtnikddmcphcmeaaDoorClsLaid
import Derived.Test.YtnikddmcphcmeaaDoorCluFacts
namespace Go.Proofs.YtnikddmcphcmeaaDoor.clusterBelongs
open Go.ChangeShapes Go.WideShapes Go.ChangeAt Go.RowKit Go.Joins Go.Deep
set_option linter.unusedVariables false

theorem made_of {v : Value} {a : List Int} {w W : World} (n : Nat) (hn : n ≤ 1000) (hv : RowAt w v (a.map (Value.int .i64))) (hL : a.length ≤ maxLen) (hb : Below w.heap.size w W) :
    Calls Tryd.prog 11 #[v, .int .i64 n] W fun e W' => ∃ t : ByteArray, e = .returned (.string t) ∧ t.size ≤ n ∧ Below W.heap.size W W' :=
  made_any v (a.map (Value.int .i64)) n W (hv.keep hb) (fun k hk => ⟨a.getD k 0, by simp at hk; simp [List.getD, hk]⟩) (by simpa using hL) hn
set_option maxRecDepth 100000 in
set_option maxHeartbeats 2000000 in
theorem walk (v0 : Value) (a0 : List Int) (g : Nat × Nat)  (w : World) (hl : Laid w g) (H0 : RowAt w v0 (a0.map (Value.int .i64))) (L0 : a0.length ≤ maxLen ∧ ∀ a n c, v0 = .slice a n c → n ≤ c) (E0 : ∀ x, x ∈ a0 → -9223372036854775808 ≤ x ∧ x ≤ 9223372036854775807) :
    Calls Tryd.prog 6 #[v0] w fun e w' => e = .returned (.bool true) ∧ Below w.heap.size w w' := by
  have HL : Hid (∀ B, Below w.heap.size w B → Laid B g) := Lib.hid fun B hb => hl.mono hb
  have acc0 : Below w.heap.size w w := Below.refl _ _
  have HM := Lib.hid (fun W (hb : Below w.heap.size w W) => made_of 60 (by omega) H0 L0.1 hb)
  clear H0 E0
  go_enter Tryd.func6, Tryd.ntmps6
  go_wp2_with fail
  refine (sane_any g _ hl).mono ?_
  rintro e w1 ⟨rfl, hb1⟩
  have acc1 := bnext acc0 hb1
  go_wp2_with fail
  refine (HM.out _ acc1).mono ?_
  rintro e w2 ⟨t, rfl, ht, hb2⟩
  have acc2 := bnext acc1 hb2
  have ht1 : t.size ≤ 1000000000 := by omega
  clear hb1 hb2 acc0 acc1 HM
  go_wp2_with fail
  refine (split_any t g _ (HL.out _ acc2) ht1).mono ?_
  rintro e w3 ⟨vp, rfl, op, hb3⟩
  have acc3 := bnext acc2 hb3
  obtain ⟨ao, ac, rfl, hr⟩ := own_srcP op
  clear op hb3 acc2
  have hSP := Lib.hid (CP.sp_split t)
  have hLn := Lib.hid (CP.split_length t)
  have hAT := Lib.hid (show ∀ i : Int, 0 ≤ i → i < (t.size : Int) → CP.at' t i = (CP.upto (CP.split t) i : Int) from fun i a b => CP.at_good (by omega) (by omega))
  generalize CP.split t = l at hSP hLn hAT hr
  have HX := Lib.hid fun (j : Nat) (hj : j < t.size) (W : World) (hW : Below w.heap.size w W) => (show Calls Tryd.prog 20 #[.int .i64 (t[j].toNat : Int)] W fun e w' => e = .returned (.bool (CP.ex t j)) ∧ Below W.heap.size W w' from by
    have := extends_any (t[j].toNat : Int) g W (HL.out _ hW)
    rwa [show FC.extB (t[j].toNat : Int) = CP.ex t j by unfold CP.ex; rw [CP.ch_at hj]] at this)
  have HK := Lib.hid fun (j : Nat) (hj : j < t.size) (W : World) (hW : Below w.heap.size w W) => (show Calls Tryd.prog 19 #[.int .i64 (t[j].toNat : Int)] W fun e w' => e = .returned (.int .i64 (CP.cl t j)) ∧ Below W.heap.size W w' from by
    have := class_any (t[j].toNat : Int) g W (HL.out _ hW)
    rwa [show FC.cls (t[j].toNat : Int) = CP.cl t j by unfold CP.cl; rw [CP.ch_at hj]] at this)
  go_wp2_with fail

  go_loopw [20] (fun v15 wr => ∃ k e : Nat, v15 = .int .i64 k ∧ k ≤ l.length ∧ Hid (CP.Sp t e (l.drop k)) ∧ Hid (k = 0 ∧ e = 0 ∨ 0 < k ∧ ∃ f, l[k - 1]? = some (f, e) ∧ e = CP.stop t f ∧ f < t.size) ∧ Below w3.heap.size w3 wr) (fun v _ => l.length - (intOf v).toNat)
  case atStart => exact ⟨0, 0, rfl, Nat.zero_le _, hSP, Lib.hid (.inl ⟨rfl, rfl⟩), Below.refl _ _⟩
  case round =>
    obtain ⟨k, e, rfl, hk, HP, HF, hb⟩ := hrel
    rename World => w4
    by_cases h1 : k < l.length
    · have h1i : (k : Int) < (l.length : Int) := by omega
      have hkb : k < 1000 := by have := hLn.out; omega
      obtain ⟨x, hx⟩ : ∃ x, l[k]? = some x := ⟨l[k], List.getElem?_eq_getElem h1⟩
      rcases hr with rfl | ⟨g', rfl, hg, hc⟩
      · simp at h1
      · obtain ⟨c0, c1⟩ := hc k x hx
        obtain ⟨he, hxe, hP2⟩ := CP.sp_drop HP.out hx
        have hst := CP.stop_bd he
        have hno := Lib.hid (fun j (a : e < j) (b : j < CP.stop t e) => CP.beg_false (CP.stop_no a b))
        have hF2 : Hid (k + 1 = 0 ∧ x.2 = 0 ∨ 0 < k + 1 ∧ ∃ f, l[k + 1 - 1]? = some (f, x.2) ∧ x.2 = CP.stop t f ∧ f < t.size) := Lib.hid (.inr ⟨by omega, e, by rw [Nat.add_sub_cancel, hx, hxe], by rw [hxe], he⟩)
        have hyes := Lib.hid (fun f (hf : f < t.size) (h : e = CP.stop t f) => CP.beg_true (show CP.beg t f e = true by rw [h]; exact CP.stop_yes hf (by omega)))
        generalize CP.stop t e = u at *
        subst hxe
        replace c0 := (hb.cell (p := ⟨g', k * 2, none⟩) hg).trans c0
        replace c1 := (hb.cell (p := ⟨g', k * 2 + 1, none⟩) hg).trans c1
        replace HP := Lib.hid hP2
        have q1 : ¬ (e : Int) < 0 := by omega
        have q2 : ¬ (u : Int) ≤ (e : Int) := by omega
        have q3 : ¬ (t.size : Int) < (u : Int) := by omega
        have HC := Lib.hid hc
        clear hc hx hP2 hAT
        go_wp2_with fail
        obtain ⟨W, hW⟩ : ∃ W, w4.alloc (.cells #[.int .i64 (e : Int), .int .i64 (u : Int)] 30) = W := ⟨_, rfl⟩
        have e0 : W.cell? ⟨w4.heap.size, 0, none⟩ = some (.int .i64 (e : Int)) := by rw [← hW]; exact (two_cells (World.alloc_heap_new w4 _)).1
        have e1 : W.cell? ⟨w4.heap.size, 1, none⟩ = some (.int .i64 (u : Int)) := by rw [← hW]; exact (two_cells (World.alloc_heap_new w4 _)).2
        have hbW : Below w3.heap.size w3 W := by rw [← hW]; exact balloc hb _
        have hWs : w4.heap.size < W.heap.size := by rw [← hW]; simp
        rw [hW]
        clear hW c0 c1
        go_loopw [8] (fun v8 wi => ∃ i : Nat, v8 = .int .i64 i ∧ e ≤ i ∧ i ≤ u ∧ Below W.heap.size W wi) (fun v _ => u - (intOf v).toNat)
        case atStart => exact ⟨e, rfl, Nat.le_refl _, by omega, Below.refl _ _⟩
        case round =>
          obtain ⟨i, rfl, hi0, hi1, hbi⟩ := hrel
          have d0 := (hbi.cell (p := ⟨w4.heap.size, 0, none⟩) hWs).trans e0
          have d1 := (hbi.cell (p := ⟨w4.heap.size, 1, none⟩) hWs).trans e1
          have HBI := Lib.hid hbi
          by_cases hi : i < u
          · have hii : (i : Int) < (u : Int) := by omega
            have his : i < t.size := by omega
            have hby : (t[i].toNat : Int) ≤ 255 := by have := t[i].toNat_lt; omega
            rcases i with _ | j
            · have e00 : e = 0 := by omega
              have k00 : k = 0 := by
                rcases HF.out with ⟨h, _⟩ | ⟨h, f, hf1, hf2, hf3⟩
                · exact h
                · have := CP.stop_bd hf3; omega
              have r2 : ((0 : Int) == (e : Int)) = true := by simp; omega
              have r3 : ¬ (e : Int) < 0 := by omega
              have r4 : decide ((0 : Int) < (k : Int)) = false := decide_eq_false (by omega)
              have r5 : decide (0 < k) = false := decide_eq_false (by omega)
              clear e00 k00
              have K1 := Lib.hid (HK.out 0 his)
              have X1 := Lib.hid (HX.out 0 his)
              generalize CP.cl t 0 = c1 at K1
              generalize CP.ex t 0 = x at X1
              clear HK HX hno hyes
              cases x with
              | true =>
                go_wp2_with fail
                refine (K1.out _ (bnext acc3 (bnext hbW HBI.out))).mono ?_
                rintro e' w5 ⟨rfl, hb5⟩
                have HB5 := Lib.hid (bnext HBI.out hb5)
                clear hb5
                go_wp2_with fail
                refine (X1.out _ (bnext acc3 (bnext hbW HB5.out))).mono ?_
                rintro e' w6 ⟨rfl, hb6⟩
                have HB6 := Lib.hid (bnext HB5.out hb6)
                clear hb6
                have dd0 := (HB6.out.cell (p := ⟨w4.heap.size, 0, none⟩) hWs).trans e0
                go_wp2_with fail
                go_quiet (fail)
                go_wp2_with fail
                go_roundw
                case rel => exact ⟨0 + 1, by go_num, by omega, by omega, (by first | exact HB6.out | exact below_drewN HB6.out _)⟩
                case measure => simp [intOf]; omega
              | false =>
                by_cases h9 : c1 = 9
                · subst h9
                  go_wp2_with fail
                  refine (K1.out _ (bnext acc3 (bnext hbW HBI.out))).mono ?_
                  rintro e' w5 ⟨rfl, hb5⟩
                  have HB5 := Lib.hid (bnext HBI.out hb5)
                  clear hb5
                  go_wp2_with fail
                  refine (X1.out _ (bnext acc3 (bnext hbW HB5.out))).mono ?_
                  rintro e' w6 ⟨rfl, hb6⟩
                  have HB6 := Lib.hid (bnext HB5.out hb6)
                  clear hb6
                  have dd0 := (HB6.out.cell (p := ⟨w4.heap.size, 0, none⟩) hWs).trans e0
                  go_wp2_with fail
                  go_quiet (fail)
                  go_wp2_with fail
                  go_roundw
                  case rel => exact ⟨0 + 1, by go_num, by omega, by omega, (by first | exact HB6.out | exact below_drewN HB6.out _)⟩
                  case measure => simp [intOf]; omega
                · have r9 : (c1 == 9) = false := by simpa using h9
                  go_wp2_with fail
                  refine (K1.out _ (bnext acc3 (bnext hbW HBI.out))).mono ?_
                  rintro e' w5 ⟨rfl, hb5⟩
                  have HB5 := Lib.hid (bnext HBI.out hb5)
                  clear hb5
                  go_wp2_with fail
                  refine (X1.out _ (bnext acc3 (bnext hbW HB5.out))).mono ?_
                  rintro e' w6 ⟨rfl, hb6⟩
                  have HB6 := Lib.hid (bnext HB5.out hb6)
                  clear hb6
                  have dd0 := (HB6.out.cell (p := ⟨w4.heap.size, 0, none⟩) hWs).trans e0
                  go_wp2_with fail
                  go_quiet (fail)
                  go_wp2_with fail
                  go_roundw
                  case rel => exact ⟨0 + 1, by go_num, by omega, by omega, (by first | exact HB6.out | exact below_drewN HB6.out _)⟩
                  case measure => simp [intOf]; omega
            · have hjs : j < t.size := by omega
              have hby2 : (t[j].toNat : Int) ≤ 255 := by have := t[j].toNat_lt; omega
              have K1 := Lib.hid (HK.out (j + 1) his)
              have K0 := Lib.hid (HK.out j hjs)
              have X1 := Lib.hid (HX.out (j + 1) his)
              have N1 : Hid (e < j + 1 → CP.cl t j ≠ 1 ∧ (CP.ex t (j + 1) = true ∨ CP.cl t (j + 1) = 9 ∧ CP.cl t j = 10)) := Lib.hid fun h => by have := hno.out (j + 1) h hi; exact ⟨this.1, this.2.2⟩
              have N2 : Hid (∀ f, f < t.size → e = CP.stop t f → e = j + 1 → CP.cl t j = 1 ∨ e = f + 6 ∨ (CP.ex t (j + 1) = false ∧ ¬ (CP.cl t (j + 1) = 9 ∧ CP.cl t j = 10))) := Lib.hid fun f h1 h2 h3 => by have := hyes.out f h1 h2; rw [h3] at this ⊢; exact this
              generalize CP.cl t (j + 1) = c1 at K1 N1 N2
              generalize CP.cl t j = c0 at K0 N1 N2
              generalize CP.ex t (j + 1) = x at X1 N1 N2
              clear HK HX hno hyes
              by_cases hej : e < j + 1
              · obtain ⟨n1, n2⟩ := N1.out hej
                have r1 : (c0 == 1) = false := by simpa using n1
                have r2 : ((j : Int) + 1 == (e : Int)) = false := by simp; omega
                have r3 : (e : Int) < (j : Int) + 1 := by omega
                clear N1 N2 n1
                rcases Nat.eq_zero_or_pos k with k0 | k0
                · have r4 : decide ((0 : Int) < (k : Int)) = false := decide_eq_false (by omega)
                  have r5 : decide (0 < k) = false := decide_eq_false (by omega)
                  clear k0
                  cases x with
                  | true =>
                    go_wp2_with fail
                    refine (K1.out _ (bnext acc3 (bnext hbW HBI.out))).mono ?_
                    rintro e' w5 ⟨rfl, hb5⟩
                    have HB5 := Lib.hid (bnext HBI.out hb5)
                    clear hb5
                    go_wp2_with fail
                    refine (K0.out _ (bnext acc3 (bnext hbW HB5.out))).mono ?_
                    rintro e' w6 ⟨rfl, hb6⟩
                    have HB6 := Lib.hid (bnext HB5.out hb6)
                    clear hb6
                    go_wp2_with fail
                    refine (X1.out _ (bnext acc3 (bnext hbW HB6.out))).mono ?_
                    rintro e' w7 ⟨rfl, hb7⟩
                    have HB7 := Lib.hid (bnext HB6.out hb7)
                    clear hb7
                    have dd0 := (HB7.out.cell (p := ⟨w4.heap.size, 0, none⟩) hWs).trans e0
                    go_wp2_with fail
                    go_quiet (fail)
                    go_wp2_with fail
                    go_roundw
                    case rel => exact ⟨(j + 1) + 1, by go_num, by omega, by omega, (by first | exact HB7.out | exact below_drewN HB7.out _)⟩
                    case measure => simp [intOf]; omega
                  | false =>
                    obtain ⟨rfl, rfl⟩ : c1 = 9 ∧ c0 = 10 := by simpa using n2
                    go_wp2_with fail
                    refine (K1.out _ (bnext acc3 (bnext hbW HBI.out))).mono ?_
                    rintro e' w5 ⟨rfl, hb5⟩
                    have HB5 := Lib.hid (bnext HBI.out hb5)
                    clear hb5
                    go_wp2_with fail
                    refine (K0.out _ (bnext acc3 (bnext hbW HB5.out))).mono ?_
                    rintro e' w6 ⟨rfl, hb6⟩
                    have HB6 := Lib.hid (bnext HB5.out hb6)
                    clear hb6
                    go_wp2_with fail
                    refine (X1.out _ (bnext acc3 (bnext hbW HB6.out))).mono ?_
                    rintro e' w7 ⟨rfl, hb7⟩
                    have HB7 := Lib.hid (bnext HB6.out hb7)
                    clear hb7
                    go_wp2_with fail
                    refine (K0.out _ (bnext acc3 (bnext hbW HB7.out))).mono ?_
                    rintro e' w8 ⟨rfl, hb8⟩
                    have HB8 := Lib.hid (bnext HB7.out hb8)
                    clear hb8
                    have dd0 := (HB8.out.cell (p := ⟨w4.heap.size, 0, none⟩) hWs).trans e0
                    go_wp2_with fail
                    go_quiet (fail)
                    go_wp2_with fail
                    go_roundw
                    case rel => exact ⟨(j + 1) + 1, by go_num, by omega, by omega, (by first | exact HB8.out | exact below_drewN HB8.out _)⟩
                    case measure => simp [intOf]; omega
                · obtain ⟨f, hf, hf2, hf3⟩ : ∃ f, l[k - 1]? = some (f, e) ∧ e = CP.stop t f ∧ f < t.size := by
                    rcases HF.out with ⟨h, _⟩ | ⟨_, h⟩
                    · omega
                    · exact h
                  obtain ⟨m, hm⟩ : ∃ m, k - 1 = m := ⟨_, rfl⟩
                  rw [hm] at hf
                  obtain ⟨p0, p1⟩ := HC.out m _ hf
                  have hmi : (m : Int) < (l.length : Int) := by omega
                  have hkm : (k : Int) - 1 = (m : Int) := by omega
                  have r4 : decide ((0 : Int) < (k : Int)) = true := decide_eq_true (by omega)
                  have r5 : decide (0 < k) = true := decide_eq_true (by omega)
                  clear hf hf2 hm k0
                  cases x with
                  | true =>
                    go_wp2_with fail
                    refine (K1.out _ (bnext acc3 (bnext hbW HBI.out))).mono ?_
                    rintro e' w5 ⟨rfl, hb5⟩
                    have HB5 := Lib.hid (bnext HBI.out hb5)
                    clear hb5
                    go_wp2_with fail
                    refine (K0.out _ (bnext acc3 (bnext hbW HB5.out))).mono ?_
                    rintro e' w6 ⟨rfl, hb6⟩
                    have HB6 := Lib.hid (bnext HB5.out hb6)
                    clear hb6
                    go_wp2_with fail
                    refine (X1.out _ (bnext acc3 (bnext hbW HB6.out))).mono ?_
                    rintro e' w7 ⟨rfl, hb7⟩
                    have HB7 := Lib.hid (bnext HB6.out hb7)
                    clear hb7
                    have pp0 := ((bnext hbW HB7.out).cell (p := ⟨g', m * 2, none⟩) hg).trans p0
                    have pp1 := ((bnext hbW HB7.out).cell (p := ⟨g', m * 2 + 1, none⟩) hg).trans p1
                    have dd0 := (HB7.out.cell (p := ⟨w4.heap.size, 0, none⟩) hWs).trans e0
                    go_wp2_with fail
                    go_quiet (fail)
                    go_wp2_with fail
                    go_roundw
                    case rel => exact ⟨(j + 1) + 1, by go_num, by omega, by omega, (by first | exact HB7.out | exact below_drewN HB7.out _)⟩
                    case measure => simp [intOf]; omega
                  | false =>
                    obtain ⟨rfl, rfl⟩ : c1 = 9 ∧ c0 = 10 := by simpa using n2
                    go_wp2_with fail
                    refine (K1.out _ (bnext acc3 (bnext hbW HBI.out))).mono ?_
                    rintro e' w5 ⟨rfl, hb5⟩
                    have HB5 := Lib.hid (bnext HBI.out hb5)
                    clear hb5
                    go_wp2_with fail
                    refine (K0.out _ (bnext acc3 (bnext hbW HB5.out))).mono ?_
                    rintro e' w6 ⟨rfl, hb6⟩
                    have HB6 := Lib.hid (bnext HB5.out hb6)
                    clear hb6
                    go_wp2_with fail
                    refine (X1.out _ (bnext acc3 (bnext hbW HB6.out))).mono ?_
                    rintro e' w7 ⟨rfl, hb7⟩
                    have HB7 := Lib.hid (bnext HB6.out hb7)
                    clear hb7
                    go_wp2_with fail
                    refine (K0.out _ (bnext acc3 (bnext hbW HB7.out))).mono ?_
                    rintro e' w8 ⟨rfl, hb8⟩
                    have HB8 := Lib.hid (bnext HB7.out hb8)
                    clear hb8
                    have pp0 := ((bnext hbW HB8.out).cell (p := ⟨g', m * 2, none⟩) hg).trans p0
                    have pp1 := ((bnext hbW HB8.out).cell (p := ⟨g', m * 2 + 1, none⟩) hg).trans p1
                    have dd0 := (HB8.out.cell (p := ⟨w4.heap.size, 0, none⟩) hWs).trans e0
                    go_wp2_with fail
                    go_quiet (fail)
                    go_wp2_with fail
                    go_roundw
                    case rel => exact ⟨(j + 1) + 1, by go_num, by omega, by omega, (by first | exact HB8.out | exact below_drewN HB8.out _)⟩
                    case measure => simp [intOf]; omega
              · have ej : e = j + 1 := by omega
                obtain ⟨f, hf, hf2, hf3, hk0⟩ : ∃ f, l[k - 1]? = some (f, e) ∧ e = CP.stop t f ∧ f < t.size ∧ 0 < k := by
                  rcases HF.out with ⟨_, h⟩ | ⟨h0, f, h1, h2, h3⟩
                  · omega
                  · exact ⟨f, h1, h2, h3, h0⟩
                obtain ⟨m, hm⟩ : ∃ m, k - 1 = m := ⟨_, rfl⟩
                rw [hm] at hf
                obtain ⟨p0, p1⟩ := HC.out m _ hf
                have hmi : (m : Int) < (l.length : Int) := by omega
                have hkm : (k : Int) - 1 = (m : Int) := by omega
                have r4 : decide ((0 : Int) < (k : Int)) = true := decide_eq_true (by omega)
                have r5 : decide (0 < k) = true := decide_eq_true (by omega)
                have n2 := N2.out f hf3 hf2 ej
                have r2 : ((j : Int) + 1 == (e : Int)) = true := by simp; omega
                have r3 : ¬ (e : Int) < (j : Int) + 1 := by omega
                clear hf hf2 N1 N2 hej hm
                have EJ := Lib.hid ej
                clear ej
                by_cases h0 : c0 = 1
                · subst h0
                  clear n2
                  cases x with
                  | true =>
                    go_wp2_with fail
                    refine (K1.out _ (bnext acc3 (bnext hbW HBI.out))).mono ?_
                    rintro e' w5 ⟨rfl, hb5⟩
                    have HB5 := Lib.hid (bnext HBI.out hb5)
                    clear hb5
                    go_wp2_with fail
                    refine (K0.out _ (bnext acc3 (bnext hbW HB5.out))).mono ?_
                    rintro e' w6 ⟨rfl, hb6⟩
                    have HB6 := Lib.hid (bnext HB5.out hb6)
                    clear hb6
                    go_wp2_with fail
                    refine (X1.out _ (bnext acc3 (bnext hbW HB6.out))).mono ?_
                    rintro e' w7 ⟨rfl, hb7⟩
                    have HB7 := Lib.hid (bnext HB6.out hb7)
                    clear hb7
                    have pp0 := ((bnext hbW HB7.out).cell (p := ⟨g', m * 2, none⟩) hg).trans p0
                    have pp1 := ((bnext hbW HB7.out).cell (p := ⟨g', m * 2 + 1, none⟩) hg).trans p1
                    have dd0 := (HB7.out.cell (p := ⟨w4.heap.size, 0, none⟩) hWs).trans e0
                    go_wp2_with fail
                    go_quiet (fail)
                    go_wp2_with fail
                    go_roundw
                    case rel => exact ⟨(j + 1) + 1, by go_num, by omega, by omega, (by first | exact HB7.out | exact below_drewN HB7.out _)⟩
                    case measure => simp [intOf]; omega
                  | false =>
                    by_cases h9 : c1 = 9
                    · subst h9
                      go_wp2_with fail
                      refine (K1.out _ (bnext acc3 (bnext hbW HBI.out))).mono ?_
                      rintro e' w5 ⟨rfl, hb5⟩
                      have HB5 := Lib.hid (bnext HBI.out hb5)
                      clear hb5
                      go_wp2_with fail
                      refine (K0.out _ (bnext acc3 (bnext hbW HB5.out))).mono ?_
                      rintro e' w6 ⟨rfl, hb6⟩
                      have HB6 := Lib.hid (bnext HB5.out hb6)
                      clear hb6
                      go_wp2_with fail
                      refine (X1.out _ (bnext acc3 (bnext hbW HB6.out))).mono ?_
                      rintro e' w7 ⟨rfl, hb7⟩
                      have HB7 := Lib.hid (bnext HB6.out hb7)
                      clear hb7
                      go_wp2_with fail
                      refine (K0.out _ (bnext acc3 (bnext hbW HB7.out))).mono ?_
                      rintro e' w8 ⟨rfl, hb8⟩
                      have HB8 := Lib.hid (bnext HB7.out hb8)
                      clear hb8
                      have pp0 := ((bnext hbW HB8.out).cell (p := ⟨g', m * 2, none⟩) hg).trans p0
                      have pp1 := ((bnext hbW HB8.out).cell (p := ⟨g', m * 2 + 1, none⟩) hg).trans p1
                      have dd0 := (HB8.out.cell (p := ⟨w4.heap.size, 0, none⟩) hWs).trans e0
                      go_wp2_with fail
                      go_quiet (fail)
                      go_wp2_with fail
                      go_roundw
                      case rel => exact ⟨(j + 1) + 1, by go_num, by omega, by omega, (by first | exact HB8.out | exact below_drewN HB8.out _)⟩
                      case measure => simp [intOf]; omega
                    · have r9 : (c1 == 9) = false := by simpa using h9
                      go_wp2_with fail
                      refine (K1.out _ (bnext acc3 (bnext hbW HBI.out))).mono ?_
                      rintro e' w5 ⟨rfl, hb5⟩
                      have HB5 := Lib.hid (bnext HBI.out hb5)
                      clear hb5
                      go_wp2_with fail
                      refine (K0.out _ (bnext acc3 (bnext hbW HB5.out))).mono ?_
                      rintro e' w6 ⟨rfl, hb6⟩
                      have HB6 := Lib.hid (bnext HB5.out hb6)
                      clear hb6
                      go_wp2_with fail
                      refine (X1.out _ (bnext acc3 (bnext hbW HB6.out))).mono ?_
                      rintro e' w7 ⟨rfl, hb7⟩
                      have HB7 := Lib.hid (bnext HB6.out hb7)
                      clear hb7
                      have pp0 := ((bnext hbW HB7.out).cell (p := ⟨g', m * 2, none⟩) hg).trans p0
                      have pp1 := ((bnext hbW HB7.out).cell (p := ⟨g', m * 2 + 1, none⟩) hg).trans p1
                      have dd0 := (HB7.out.cell (p := ⟨w4.heap.size, 0, none⟩) hWs).trans e0
                      go_wp2_with fail
                      go_quiet (fail)
                      go_wp2_with fail
                      go_roundw
                      case rel => exact ⟨(j + 1) + 1, by go_num, by omega, by omega, (by first | exact HB7.out | exact below_drewN HB7.out _)⟩
                      case measure => simp [intOf]; omega
                · have r1 : (c0 == 1) = false := by simpa using h0
                  by_cases h6 : e = f + 6
                  · have r6 : ((e : Int) - (f : Int) == 6) = true := by simp; omega
                    clear n2 h6
                    cases x with
                    | true =>
                      go_wp2_with fail
                      refine (K1.out _ (bnext acc3 (bnext hbW HBI.out))).mono ?_
                      rintro e' w5 ⟨rfl, hb5⟩
                      have HB5 := Lib.hid (bnext HBI.out hb5)
                      clear hb5
                      go_wp2_with fail
                      refine (K0.out _ (bnext acc3 (bnext hbW HB5.out))).mono ?_
                      rintro e' w6 ⟨rfl, hb6⟩
                      have HB6 := Lib.hid (bnext HB5.out hb6)
                      clear hb6
                      go_wp2_with fail
                      refine (X1.out _ (bnext acc3 (bnext hbW HB6.out))).mono ?_
                      rintro e' w7 ⟨rfl, hb7⟩
                      have HB7 := Lib.hid (bnext HB6.out hb7)
                      clear hb7
                      have pp0 := ((bnext hbW HB7.out).cell (p := ⟨g', m * 2, none⟩) hg).trans p0
                      have pp1 := ((bnext hbW HB7.out).cell (p := ⟨g', m * 2 + 1, none⟩) hg).trans p1
                      have dd0 := (HB7.out.cell (p := ⟨w4.heap.size, 0, none⟩) hWs).trans e0
                      go_wp2_with fail
                      go_quiet (fail)
                      go_wp2_with fail
                      go_roundw
                      case rel => exact ⟨(j + 1) + 1, by go_num, by omega, by omega, (by first | exact HB7.out | exact below_drewN HB7.out _)⟩
                      case measure => simp [intOf]; omega
                    | false =>
                      by_cases h9 : c1 = 9
                      · subst h9
                        by_cases h10 : c0 = 10
                        · subst h10
                          go_wp2_with fail
                          refine (K1.out _ (bnext acc3 (bnext hbW HBI.out))).mono ?_
                          rintro e' w5 ⟨rfl, hb5⟩
                          have HB5 := Lib.hid (bnext HBI.out hb5)
                          clear hb5
                          go_wp2_with fail
                          refine (K0.out _ (bnext acc3 (bnext hbW HB5.out))).mono ?_
                          rintro e' w6 ⟨rfl, hb6⟩
                          have HB6 := Lib.hid (bnext HB5.out hb6)
                          clear hb6
                          go_wp2_with fail
                          refine (X1.out _ (bnext acc3 (bnext hbW HB6.out))).mono ?_
                          rintro e' w7 ⟨rfl, hb7⟩
                          have HB7 := Lib.hid (bnext HB6.out hb7)
                          clear hb7
                          go_wp2_with fail
                          refine (K0.out _ (bnext acc3 (bnext hbW HB7.out))).mono ?_
                          rintro e' w8 ⟨rfl, hb8⟩
                          have HB8 := Lib.hid (bnext HB7.out hb8)
                          clear hb8
                          have pp0 := ((bnext hbW HB8.out).cell (p := ⟨g', m * 2, none⟩) hg).trans p0
                          have pp1 := ((bnext hbW HB8.out).cell (p := ⟨g', m * 2 + 1, none⟩) hg).trans p1
                          have dd0 := (HB8.out.cell (p := ⟨w4.heap.size, 0, none⟩) hWs).trans e0
                          go_wp2_with fail
                          go_quiet (fail)
                          go_wp2_with fail
                          go_roundw
                          case rel => exact ⟨(j + 1) + 1, by go_num, by omega, by omega, (by first | exact HB8.out | exact below_drewN HB8.out _)⟩
                          case measure => simp [intOf]; omega
                        · have r10 : (c0 == 10) = false := by simpa using h10
                          go_wp2_with fail
                          refine (K1.out _ (bnext acc3 (bnext hbW HBI.out))).mono ?_
                          rintro e' w5 ⟨rfl, hb5⟩
                          have HB5 := Lib.hid (bnext HBI.out hb5)
                          clear hb5
                          go_wp2_with fail
                          refine (K0.out _ (bnext acc3 (bnext hbW HB5.out))).mono ?_
                          rintro e' w6 ⟨rfl, hb6⟩
                          have HB6 := Lib.hid (bnext HB5.out hb6)
                          clear hb6
                          go_wp2_with fail
                          refine (X1.out _ (bnext acc3 (bnext hbW HB6.out))).mono ?_
                          rintro e' w7 ⟨rfl, hb7⟩
                          have HB7 := Lib.hid (bnext HB6.out hb7)
                          clear hb7
                          go_wp2_with fail
                          refine (K0.out _ (bnext acc3 (bnext hbW HB7.out))).mono ?_
                          rintro e' w8 ⟨rfl, hb8⟩
                          have HB8 := Lib.hid (bnext HB7.out hb8)
                          clear hb8
                          have pp0 := ((bnext hbW HB8.out).cell (p := ⟨g', m * 2, none⟩) hg).trans p0
                          have pp1 := ((bnext hbW HB8.out).cell (p := ⟨g', m * 2 + 1, none⟩) hg).trans p1
                          have dd0 := (HB8.out.cell (p := ⟨w4.heap.size, 0, none⟩) hWs).trans e0
                          go_wp2_with fail
                          go_quiet (fail)
                          go_wp2_with fail
                          go_roundw
                          case rel => exact ⟨(j + 1) + 1, by go_num, by omega, by omega, (by first | exact HB8.out | exact below_drewN HB8.out _)⟩
                          case measure => simp [intOf]; omega
                      · have r9 : (c1 == 9) = false := by simpa using h9
                        go_wp2_with fail
                        refine (K1.out _ (bnext acc3 (bnext hbW HBI.out))).mono ?_
                        rintro e' w5 ⟨rfl, hb5⟩
                        have HB5 := Lib.hid (bnext HBI.out hb5)
                        clear hb5
                        go_wp2_with fail
                        refine (K0.out _ (bnext acc3 (bnext hbW HB5.out))).mono ?_
                        rintro e' w6 ⟨rfl, hb6⟩
                        have HB6 := Lib.hid (bnext HB5.out hb6)
                        clear hb6
                        go_wp2_with fail
                        refine (X1.out _ (bnext acc3 (bnext hbW HB6.out))).mono ?_
                        rintro e' w7 ⟨rfl, hb7⟩
                        have HB7 := Lib.hid (bnext HB6.out hb7)
                        clear hb7
                        have pp0 := ((bnext hbW HB7.out).cell (p := ⟨g', m * 2, none⟩) hg).trans p0
                        have pp1 := ((bnext hbW HB7.out).cell (p := ⟨g', m * 2 + 1, none⟩) hg).trans p1
                        have dd0 := (HB7.out.cell (p := ⟨w4.heap.size, 0, none⟩) hWs).trans e0
                        go_wp2_with fail
                        go_quiet (fail)
                        go_wp2_with fail
                        go_roundw
                        case rel => exact ⟨(j + 1) + 1, by go_num, by omega, by omega, (by first | exact HB7.out | exact below_drewN HB7.out _)⟩
                        case measure => simp [intOf]; omega
                  · have r6 : ((e : Int) - (f : Int) == 6) = false := by simp; omega
                    obtain ⟨rfl, n3⟩ : x = false ∧ ¬ (c1 = 9 ∧ c0 = 10) := by
                      rcases n2 with h | h | h
                      · exact absurd h h0
                      · exact absurd h h6
                      · exact h
                    by_cases h9 : c1 = 9
                    · subst h9
                      have r10 : (c0 == 10) = false := by simpa using n3
                      go_wp2_with fail
                      refine (K1.out _ (bnext acc3 (bnext hbW HBI.out))).mono ?_
                      rintro e' w5 ⟨rfl, hb5⟩
                      have HB5 := Lib.hid (bnext HBI.out hb5)
                      clear hb5
                      go_wp2_with fail
                      refine (K0.out _ (bnext acc3 (bnext hbW HB5.out))).mono ?_
                      rintro e' w6 ⟨rfl, hb6⟩
                      have HB6 := Lib.hid (bnext HB5.out hb6)
                      clear hb6
                      go_wp2_with fail
                      refine (X1.out _ (bnext acc3 (bnext hbW HB6.out))).mono ?_
                      rintro e' w7 ⟨rfl, hb7⟩
                      have HB7 := Lib.hid (bnext HB6.out hb7)
                      clear hb7
                      go_wp2_with fail
                      refine (K0.out _ (bnext acc3 (bnext hbW HB7.out))).mono ?_
                      rintro e' w8 ⟨rfl, hb8⟩
                      have HB8 := Lib.hid (bnext HB7.out hb8)
                      clear hb8
                      have pp0 := ((bnext hbW HB8.out).cell (p := ⟨g', m * 2, none⟩) hg).trans p0
                      have pp1 := ((bnext hbW HB8.out).cell (p := ⟨g', m * 2 + 1, none⟩) hg).trans p1
                      have dd0 := (HB8.out.cell (p := ⟨w4.heap.size, 0, none⟩) hWs).trans e0
                      go_wp2_with fail
                      go_quiet (fail)
                      go_wp2_with fail
                      go_roundw
                      case rel => exact ⟨(j + 1) + 1, by go_num, by omega, by omega, (by first | exact HB8.out | exact below_drewN HB8.out _)⟩
                      case measure => simp [intOf]; omega
                    · have r9 : (c1 == 9) = false := by simpa using h9
                      go_wp2_with fail
                      refine (K1.out _ (bnext acc3 (bnext hbW HBI.out))).mono ?_
                      rintro e' w5 ⟨rfl, hb5⟩
                      have HB5 := Lib.hid (bnext HBI.out hb5)
                      clear hb5
                      go_wp2_with fail
                      refine (K0.out _ (bnext acc3 (bnext hbW HB5.out))).mono ?_
                      rintro e' w6 ⟨rfl, hb6⟩
                      have HB6 := Lib.hid (bnext HB5.out hb6)
                      clear hb6
                      go_wp2_with fail
                      refine (X1.out _ (bnext acc3 (bnext hbW HB6.out))).mono ?_
                      rintro e' w7 ⟨rfl, hb7⟩
                      have HB7 := Lib.hid (bnext HB6.out hb7)
                      clear hb7
                      have pp0 := ((bnext hbW HB7.out).cell (p := ⟨g', m * 2, none⟩) hg).trans p0
                      have pp1 := ((bnext hbW HB7.out).cell (p := ⟨g', m * 2 + 1, none⟩) hg).trans p1
                      have dd0 := (HB7.out.cell (p := ⟨w4.heap.size, 0, none⟩) hWs).trans e0
                      go_wp2_with fail
                      go_quiet (fail)
                      go_wp2_with fail
                      go_roundw
                      case rel => exact ⟨(j + 1) + 1, by go_num, by omega, by omega, (by first | exact HB7.out | exact below_drewN HB7.out _)⟩
                      case measure => simp [intOf]; omega
          · obtain rfl : i = u := by omega
            go_wp2_with fail
            go_roundw
            case rel => exact ⟨k + 1, i, by go_num, h1, HP, hF2, bnext hbW HBI.out⟩
            case measure => simp [intOf]; omega
    · obtain rfl : k = l.length := by omega
      go_wp2_with fail
      go_ret
      exact ⟨rfl, bnext acc3 hb⟩

set_option maxRecDepth 100000 in
theorem lifted (os : Os) (started : os.Started) (H : Type) (enc : TypeId × Value → H) :
    ReturnsInHanded {} Tryd.checked os 6 .any (fun w args => (Rows.clusterBelongsSpec.pre enc Tryd.prog Tryd.f6 [] false w args ∧ laidMetH Tryd.prog laidL w) ∧ sizedMet enc Tryd.prog Tryd.f6 (OpenSpec.ofChange Rows.clusterBelongsSpec) false w args)
      (Rows.clusterBelongsSpec.post enc Tryd.prog Tryd.f6 false true false false) := by
  refine returnsInHanded_of_change_and (C := Tryd.checked) (X := fun w _ => laidMetH Tryd.prog laidL w) (fun _ _ _ hh h => h.of_heap hh) own started (by kernel_rfl) Tryd.func6
    (ChangeSpec.witness_shaped (enc := enc) (C := Tryd.checked) (os := os) (X := fun w _ => laidMetH Tryd.prog laidL w) false (World.doorLaid Tryd.prog 46 os) #[.slice none 0 0] 8 rfl (World.shaped_of_RefB (by kernel_rfl) (by kernel_rfl)) (by kernel_rfl) (by kernel_rfl) (by kernel_rfl) (door_met os _)) ?_
  intro W base args ds gs before hval0 hW _ _ hL _
  have hval : ∀ (j : Nat) t v, Tryd.f6.params[j]? = some t → args[j]? = some v → Value.okWide Tryd.prog W .any base t v := hval0
  have hW' := hW
  obtain ⟨p, q, hA0, hV, rfl, hfz, hnd⟩ := hW
  have hA : DataW.TrodAll enc Tryd.prog W 0 (fun _ => true) true Tryd.f6.params.toList args.toList ds p := hA0
  rw [Tryd.params6] at hA hval
  obtain ⟨v0, vs0, d0, ds0, p0, q0, hargs, rfl, rfl, h0, r0⟩ := trodAll_cons hA
  obtain ⟨rfl, rfl, rfl⟩ := trodAll_nil r0
  obtain rfl : args = #[v0] := by cases args; simp_all
  obtain ⟨rfl, rfl⟩ := trodVars_none hV
  obtain ⟨g, hlaid⟩ := of_laid hL
  have k0 := h0
  have lt0 : ∀ x ∈ p0, x.block < W.heap.size := by obtain ⟨m, hm⟩ := k0; exact DataW.trod_lt m _ _ _ hm
  obtain ⟨a0, H0, L0, E0⟩ := open_l (hval 0 22 v0 rfl rfl) h0
  clear hA0 hval0
  refine (walk v0 a0 g  W hlaid H0 L0 E0).mono fun e W' ⟨he, bel⟩ => ?_
  subst he
  exact ⟨_, rfl, _, _, _, [], _, [], hW', trodAll_mk1 (shut_bool Tryd.underlying4 _), (trodAll_cons_mk (Below.trod laidOut (by kernel_rfl) (of_decide_eq_true (by kernel_rfl)) k0 bel lt0) trodAll_mk0), rfl, bel.frame _, fun h => by cases h⟩

theorem over : Rows.clusterBelongsRow.holds Tryd.pinned (OpenSpec.ofChange Rows.clusterBelongsSpec) :=
  OpenClaim.holds_of_wide 6 Tryd.f6 rfl rfl rfl rfl rfl rfl rfl ⟨rfl, rfl, rfl, rfl, rfl⟩ rfl rfl rfl rfl rfl (by kernel_rfl) Tryd.func6 (by kernel_rfl)
    (of_decide_eq_true (by kernel_rfl)) (by unfold Func.isWrapper; first | (rw [if_pos (by decide +kernel)]; kernel_rfl) | (rw [if_neg (by decide +kernel)]; exact ⟨rfl, rfl⟩))
    (fun os started H enc _ => lifted os started H enc)

/-- The row's card, tied to the program's text. -/
theorem card : Rows.ClusterBelongsCardSaid :=
  Claim7.holds_tied_plain_at .later [] [.data] true Rows.clusterBelongsCard.stood.harness false
    over (fun _ h => by cases h) (by kernel_rfl) (fun _ h => by cases h) clusterBelongs_row_tie rfl ⟨rfl, rfl⟩ (by kernel_rfl) rfl
    (fun f fn hf hfn => by
      obtain rfl : f = 6 := Option.some.inj ((show Tryd.prog.funcNamed "abugida/abugidalaw06.ClusterBelongs" = some 6 by kernel_rfl).symm.trans hf) |>.symm
      obtain rfl : fn = Tryd.f6 := (Option.some.inj (Tryd.func6.symm.trans hfn)).symm
      exact ⟨by kernel_rfl, fun j t ht => by
        rw [Tryd.params6] at ht
        have hm : t ∈ [22] := by simpa using Array.mem_of_getElem? ht
        have hall : ([22].all fun u => !Tryd.prog.wantsStandIn u) = true := by kernel_rfl
        exact (show Tryd.prog.wantsStandIn t = false by simpa using List.all_eq_true.1 hall t hm)⟩)
    (by kernel_rfl)

end Go.Proofs.YtnikddmcphcmeaaDoor.clusterBelongs
namespace Go.Proofs.YtnikddmcphcmeaaDoor
theorem clusterBelongs_proved : Rows.ClusterBelongsCardSaid := clusterBelongs.card
#print axioms clusterBelongs_proved
end Go.Proofs.YtnikddmcphcmeaaDoor
