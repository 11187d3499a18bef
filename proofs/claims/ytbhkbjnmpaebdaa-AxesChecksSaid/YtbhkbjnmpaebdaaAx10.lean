/- The reference: strengths. No conditions. -/
import Derived.Test.YtbhkbjnmpaebdaaAx9
namespace Go.Proofs.Ytbhkbjnmpaebdaa
set_option maxRecDepth 100000
set_option linter.unusedVariables false
open Go.RowKit Go.Deep
theorem common_c {a b g : Int} (h : F.FP.gc a b = g) (w : World) (a0 : 0 ≤ a) (b0 : 0 ≤ b) (a1 : a ≤ 9223372036854775807) (b1 : b ≤ 9223372036854775807) :
    Calls Try.prog 76 #[.int .i64 a, .int .i64 b] w fun e w' => e = .returned (.int .i64 g) ∧ Below w.heap.size w w' := by
  have := F.common_any a b w a0 b0 a1 b1
  rwa [h] at this
set_option maxHeartbeats 8000000 in
theorem rstr_any (t : AX.Tn) (n : Int) (w : World) (ht : AX.tent t = true) (hn : AX.coord n = true) :
    Calls Try.prog 62 #[.agg #[.int .i64 t.1, .int .i64 t.2.1, .int .i64 t.2.2], .int .i64 n] w fun e w' => e = .returned (.agg #[.int .i64 (AX.strength t n).1, .int .i64 (AX.strength t n).2]) ∧ Below w.heap.size w w' := by
  obtain ⟨f, p, q⟩ := t
  obtain ⟨t1, t2, t3, t4, -⟩ := (AX.tent_iff _).1 ht
  have n1 := (AX.coord_iff n).1 hn
  simp only at t1 t2 t3 t4 ⊢
  clear ht hn
  by_cases k1 : p = 0
  · have q1 : (p == 0) = true := by simpa using k1
    have K1 := Lib.hid k1
    clear k1
    have HF : Hid (AX.strength (f, p, q) n = (1, 1)) := Lib.hid (by unfold AX.strength; simp only; rw [if_pos (.inl K1.out)])
    rw [HF.out]
    go_enter Try.func62, Try.ntmps62
    go_wp2_with fail
    refine (common_c (a := 1) (b := 1) (g := 1) (by decide) _ (by omega) (by omega) (by omega) (by omega)).mono ?_
    rintro e w2 ⟨rfl, hb⟩
    have hsb : ScB ((w.alloc (.cells #[.int .i64 f, .int .i64 p, .int .i64 q] 71)).alloc (.cells #[.int .i64 0, .int .i64 0] 50)) (w.heap.size + 1) (0, 0) := by
      have := heap_alloc_new (w.alloc (.cells #[.int .i64 f, .int .i64 p, .int .i64 q] 71)) (.cells #[.int .i64 0, .int .i64 0] 50)
      rw [World.size_alloc] at this
      exact this
    have hs2 := hsb.keep hb
    have hbw : Below w.heap.size w w2 := bnext (balloc (balloc (Below.refl _ _) _) _) hb
    obtain ⟨B, hB⟩ : ∃ B, w.heap.size + 1 = B := ⟨_, rfl⟩
    rw [hB] at hs2 ⊢
    obtain ⟨x0, x1⟩ := hs2.cells
    have f0 := hs2.frozen 0
    have f1 := hs2.frozen 1
    have HZ := Lib.hid (hs2.put (1, 1))
    have HBR := Lib.hid (bset (bset hbw (p := ⟨B, 0, none⟩) (by show w.heap.size ≤ B; omega) (.int .i64 1)) (p := ⟨B, 1, none⟩) (by show w.heap.size ≤ B; omega) (.int .i64 1))
    clear hsb hs2 hb hbw hB
    go_wp2_with fail
    go_region
    go_wp2
    refine bodyPost_ret (v := .agg #[.int .i64 1, .int .i64 1]) (results_cell_row Try.results62 _ _ B 50 _ (0, 0) _ rfl HZ.out Try.underlying50 rfl (by kernel_rfl)) rfl ?_
    exact ⟨rfl, HBR.out.drew⟩
  · have q1 : (p == 0) = false := by simpa using k1
    by_cases k2 : n = p
    · have q2 : (n == p) = true := by simpa using k2
      have K2 := Lib.hid k2
      clear k2
      have HF : Hid (AX.strength (f, p, q) n = (1, 1)) := Lib.hid (by unfold AX.strength; simp only; rw [if_pos (.inr K2.out)])
      rw [HF.out]
      go_enter Try.func62, Try.ntmps62
      go_wp2_with fail
      refine (common_c (a := 1) (b := 1) (g := 1) (by decide) _ (by omega) (by omega) (by omega) (by omega)).mono ?_
      rintro e w2 ⟨rfl, hb⟩
      have hsb : ScB ((w.alloc (.cells #[.int .i64 f, .int .i64 p, .int .i64 q] 71)).alloc (.cells #[.int .i64 0, .int .i64 0] 50)) (w.heap.size + 1) (0, 0) := by
        have := heap_alloc_new (w.alloc (.cells #[.int .i64 f, .int .i64 p, .int .i64 q] 71)) (.cells #[.int .i64 0, .int .i64 0] 50)
        rw [World.size_alloc] at this
        exact this
      have hs2 := hsb.keep hb
      have hbw : Below w.heap.size w w2 := bnext (balloc (balloc (Below.refl _ _) _) _) hb
      obtain ⟨B, hB⟩ : ∃ B, w.heap.size + 1 = B := ⟨_, rfl⟩
      rw [hB] at hs2 ⊢
      obtain ⟨x0, x1⟩ := hs2.cells
      have f0 := hs2.frozen 0
      have f1 := hs2.frozen 1
      have HZ := Lib.hid (hs2.put (1, 1))
      have HBR := Lib.hid (bset (bset hbw (p := ⟨B, 0, none⟩) (by show w.heap.size ≤ B; omega) (.int .i64 1)) (p := ⟨B, 1, none⟩) (by show w.heap.size ≤ B; omega) (.int .i64 1))
      clear hsb hs2 hb hbw hB
      go_wp2_with fail
      go_region
      go_wp2
      refine bodyPost_ret (v := .agg #[.int .i64 1, .int .i64 1]) (results_cell_row Try.results62 _ _ B 50 _ (0, 0) _ rfl HZ.out Try.underlying50 rfl (by kernel_rfl)) rfl ?_
      exact ⟨rfl, HBR.out.drew⟩
    · have q2 : (n == p) = false := by simpa using k2
      have K12 : Hid (¬ (p = 0 ∨ n = p)) := Lib.hid (by omega)
      by_cases k3 : n ≤ f
      · have K3 := Lib.hid k3
        have HF : Hid (AX.strength (f, p, q) n = (0, 1)) := Lib.hid (by unfold AX.strength; simp only; rw [if_neg K12.out, if_pos (.inl K3.out)])
        rw [HF.out]
        go_enter Try.func62, Try.ntmps62
        go_wp2_with fail
        refine (common_c (a := 0) (b := 1) (g := 1) (by decide) _ (by omega) (by omega) (by omega) (by omega)).mono ?_
        rintro e w2 ⟨rfl, hb⟩
        have hsb : ScB ((w.alloc (.cells #[.int .i64 f, .int .i64 p, .int .i64 q] 71)).alloc (.cells #[.int .i64 0, .int .i64 0] 50)) (w.heap.size + 1) (0, 0) := by
          have := heap_alloc_new (w.alloc (.cells #[.int .i64 f, .int .i64 p, .int .i64 q] 71)) (.cells #[.int .i64 0, .int .i64 0] 50)
          rw [World.size_alloc] at this
          exact this
        have hs2 := hsb.keep hb
        have hbw : Below w.heap.size w w2 := bnext (balloc (balloc (Below.refl _ _) _) _) hb
        obtain ⟨B, hB⟩ : ∃ B, w.heap.size + 1 = B := ⟨_, rfl⟩
        rw [hB] at hs2 ⊢
        obtain ⟨x0, x1⟩ := hs2.cells
        have f0 := hs2.frozen 0
        have f1 := hs2.frozen 1
        have HZ := Lib.hid (hs2.put (0, 1))
        have HBR := Lib.hid (bset (bset hbw (p := ⟨B, 0, none⟩) (by show w.heap.size ≤ B; omega) (.int .i64 0)) (p := ⟨B, 1, none⟩) (by show w.heap.size ≤ B; omega) (.int .i64 1))
        clear hsb hs2 hb hbw hB
        go_wp2_with fail
        go_region
        go_wp2
        refine bodyPost_ret (v := .agg #[.int .i64 0, .int .i64 1]) (results_cell_row Try.results62 _ _ B 50 _ (0, 0) _ rfl HZ.out Try.underlying50 rfl (by kernel_rfl)) rfl ?_
        exact ⟨rfl, HBR.out.drew⟩
      · by_cases k4 : q ≤ n
        · have K4 := Lib.hid k4
          have HF : Hid (AX.strength (f, p, q) n = (0, 1)) := Lib.hid (by unfold AX.strength; simp only; rw [if_neg K12.out, if_pos (.inr K4.out)])
          rw [HF.out]
          go_enter Try.func62, Try.ntmps62
          go_wp2_with fail
          refine (common_c (a := 0) (b := 1) (g := 1) (by decide) _ (by omega) (by omega) (by omega) (by omega)).mono ?_
          rintro e w2 ⟨rfl, hb⟩
          have hsb : ScB ((w.alloc (.cells #[.int .i64 f, .int .i64 p, .int .i64 q] 71)).alloc (.cells #[.int .i64 0, .int .i64 0] 50)) (w.heap.size + 1) (0, 0) := by
            have := heap_alloc_new (w.alloc (.cells #[.int .i64 f, .int .i64 p, .int .i64 q] 71)) (.cells #[.int .i64 0, .int .i64 0] 50)
            rw [World.size_alloc] at this
            exact this
          have hs2 := hsb.keep hb
          have hbw : Below w.heap.size w w2 := bnext (balloc (balloc (Below.refl _ _) _) _) hb
          obtain ⟨B, hB⟩ : ∃ B, w.heap.size + 1 = B := ⟨_, rfl⟩
          rw [hB] at hs2 ⊢
          obtain ⟨x0, x1⟩ := hs2.cells
          have f0 := hs2.frozen 0
          have f1 := hs2.frozen 1
          have HZ := Lib.hid (hs2.put (0, 1))
          have HBR := Lib.hid (bset (bset hbw (p := ⟨B, 0, none⟩) (by show w.heap.size ≤ B; omega) (.int .i64 0)) (p := ⟨B, 1, none⟩) (by show w.heap.size ≤ B; omega) (.int .i64 1))
          clear hsb hs2 hb hbw hB
          go_wp2_with fail
          go_region
          go_wp2
          refine bodyPost_ret (v := .agg #[.int .i64 0, .int .i64 1]) (results_cell_row Try.results62 _ _ B 50 _ (0, 0) _ rfl HZ.out Try.underlying50 rfl (by kernel_rfl)) rfl ?_
          exact ⟨rfl, HBR.out.drew⟩
        · have K34 : Hid (¬ (n ≤ f ∨ q ≤ n)) := Lib.hid (by omega)
          by_cases k5 : n < p
          · have K5 := Lib.hid k5
            have HS : Hid (AX.strength (f, p, q) n = AX.fr (n - f) (p - f)) := Lib.hid (by unfold AX.strength; simp only; rw [if_neg K12.out, if_neg K34.out, if_pos K5.out])
            obtain ⟨a, ha⟩ : ∃ a, (n - f : Int) = a := ⟨_, rfl⟩
            obtain ⟨b, hb'⟩ : ∃ b, (p - f : Int) = b := ⟨_, rfl⟩
            have ba : 0 ≤ a ∧ a ≤ b ∧ 1 ≤ b ∧ b ≤ 128 := by omega
            obtain ⟨ba1, ba2, ba3, ba4⟩ := ba
            obtain ⟨g, hg⟩ : ∃ g, F.FP.gc a b = g := ⟨_, rfl⟩
            obtain ⟨g1, g2, g3, g4, g5, g6, -, -⟩ := F.FP.gc_parts a b ba1 ba2 ba3
            rw [hg] at g1 g2 g3 g4 g5 g6
            have hpi : (0 : Int) < g := by omega
            have hpn : ¬ g = 0 := by omega
            have hd1 : a.tdiv g = a / g := Int.tdiv_eq_ediv_of_nonneg (by omega)
            have hd2 : b.tdiv g = b / g := Int.tdiv_eq_ediv_of_nonneg (by omega)
            obtain ⟨q1', hq1⟩ : ∃ x, a / g = x := ⟨_, rfl⟩
            obtain ⟨q2', hq2⟩ : ∃ x, b / g = x := ⟨_, rfl⟩
            have HF : Hid (AX.strength (f, p, q) n = (q1', q2')) := Lib.hid (by rw [HS.out, ha, hb']; unfold AX.fr; rw [hg, hq1, hq2])
            rw [HF.out]
            rw [hq1] at hd1 g3 g4
            rw [hq2] at hd2 g4 g5 g6
            clear hq1 hq2
            go_enter Try.func62, Try.ntmps62
            go_wp2_with fail
            refine (common_c hg _ (by omega) (by omega) (by omega) (by omega)).mono ?_
            rintro e w2 ⟨rfl, hb⟩
            have hsb : ScB ((w.alloc (.cells #[.int .i64 f, .int .i64 p, .int .i64 q] 71)).alloc (.cells #[.int .i64 0, .int .i64 0] 50)) (w.heap.size + 1) (0, 0) := by
              have := heap_alloc_new (w.alloc (.cells #[.int .i64 f, .int .i64 p, .int .i64 q] 71)) (.cells #[.int .i64 0, .int .i64 0] 50)
              rw [World.size_alloc] at this
              exact this
            have hs2 := hsb.keep hb
            have hbw : Below w.heap.size w w2 := bnext (balloc (balloc (Below.refl _ _) _) _) hb
            obtain ⟨B, hB⟩ : ∃ B, w.heap.size + 1 = B := ⟨_, rfl⟩
            rw [hB] at hs2 ⊢
            obtain ⟨x0, x1⟩ := hs2.cells
            have f0 := hs2.frozen 0
            have f1 := hs2.frozen 1
            have HZ := Lib.hid (hs2.put (q1', q2'))
            have HBR := Lib.hid (bset (bset hbw (p := ⟨B, 0, none⟩) (by show w.heap.size ≤ B; omega) (.int .i64 q1')) (p := ⟨B, 1, none⟩) (by show w.heap.size ≤ B; omega) (.int .i64 q2'))
            clear hsb hs2 hb hbw hB hg
            go_wp2_with fail
            go_region
            go_wp2
            refine bodyPost_ret (v := .agg #[.int .i64 q1', .int .i64 q2']) (results_cell_row Try.results62 _ _ B 50 _ (0, 0) _ rfl HZ.out Try.underlying50 rfl (by kernel_rfl)) rfl ?_
            exact ⟨rfl, HBR.out.drew⟩
          · have K5 := Lib.hid k5
            have HS : Hid (AX.strength (f, p, q) n = AX.fr (q - n) (q - p)) := Lib.hid (by unfold AX.strength; simp only; rw [if_neg K12.out, if_neg K34.out, if_neg K5.out])
            obtain ⟨a, ha⟩ : ∃ a, (q - n : Int) = a := ⟨_, rfl⟩
            obtain ⟨b, hb'⟩ : ∃ b, (q - p : Int) = b := ⟨_, rfl⟩
            have ba : 0 ≤ a ∧ a ≤ b ∧ 1 ≤ b ∧ b ≤ 128 := by omega
            obtain ⟨ba1, ba2, ba3, ba4⟩ := ba
            obtain ⟨g, hg⟩ : ∃ g, F.FP.gc a b = g := ⟨_, rfl⟩
            obtain ⟨g1, g2, g3, g4, g5, g6, -, -⟩ := F.FP.gc_parts a b ba1 ba2 ba3
            rw [hg] at g1 g2 g3 g4 g5 g6
            have hpi : (0 : Int) < g := by omega
            have hpn : ¬ g = 0 := by omega
            have hd1 : a.tdiv g = a / g := Int.tdiv_eq_ediv_of_nonneg (by omega)
            have hd2 : b.tdiv g = b / g := Int.tdiv_eq_ediv_of_nonneg (by omega)
            obtain ⟨q1', hq1⟩ : ∃ x, a / g = x := ⟨_, rfl⟩
            obtain ⟨q2', hq2⟩ : ∃ x, b / g = x := ⟨_, rfl⟩
            have HF : Hid (AX.strength (f, p, q) n = (q1', q2')) := Lib.hid (by rw [HS.out, ha, hb']; unfold AX.fr; rw [hg, hq1, hq2])
            rw [HF.out]
            rw [hq1] at hd1 g3 g4
            rw [hq2] at hd2 g4 g5 g6
            clear hq1 hq2
            go_enter Try.func62, Try.ntmps62
            go_wp2_with fail
            refine (common_c hg _ (by omega) (by omega) (by omega) (by omega)).mono ?_
            rintro e w2 ⟨rfl, hb⟩
            have hsb : ScB ((w.alloc (.cells #[.int .i64 f, .int .i64 p, .int .i64 q] 71)).alloc (.cells #[.int .i64 0, .int .i64 0] 50)) (w.heap.size + 1) (0, 0) := by
              have := heap_alloc_new (w.alloc (.cells #[.int .i64 f, .int .i64 p, .int .i64 q] 71)) (.cells #[.int .i64 0, .int .i64 0] 50)
              rw [World.size_alloc] at this
              exact this
            have hs2 := hsb.keep hb
            have hbw : Below w.heap.size w w2 := bnext (balloc (balloc (Below.refl _ _) _) _) hb
            obtain ⟨B, hB⟩ : ∃ B, w.heap.size + 1 = B := ⟨_, rfl⟩
            rw [hB] at hs2 ⊢
            obtain ⟨x0, x1⟩ := hs2.cells
            have f0 := hs2.frozen 0
            have f1 := hs2.frozen 1
            have HZ := Lib.hid (hs2.put (q1', q2'))
            have HBR := Lib.hid (bset (bset hbw (p := ⟨B, 0, none⟩) (by show w.heap.size ≤ B; omega) (.int .i64 q1')) (p := ⟨B, 1, none⟩) (by show w.heap.size ≤ B; omega) (.int .i64 q2'))
            clear hsb hs2 hb hbw hB hg
            go_wp2_with fail
            go_region
            go_wp2
            refine bodyPost_ret (v := .agg #[.int .i64 q1', .int .i64 q2']) (results_cell_row Try.results62 _ _ B 50 _ (0, 0) _ rfl HZ.out Try.underlying50 rfl (by kernel_rfl)) rfl ?_
            exact ⟨rfl, HBR.out.drew⟩
theorem rstr_c {t : AX.Tn} {n : Int} {r : Int × Int} (h : AX.strength t n = r) (w : World) (ht : AX.tent t = true) (hn : AX.coord n = true) :
    Calls Try.prog 62 #[.agg #[.int .i64 t.1, .int .i64 t.2.1, .int .i64 t.2.2], .int .i64 n] w fun e w' => e = .returned (.agg #[.int .i64 r.1, .int .i64 r.2]) ∧ Below w.heap.size w w' := by
  have := rstr_any t n w ht hn
  rwa [h] at this
end Go.Proofs.Ytbhkbjnmpaebdaa
