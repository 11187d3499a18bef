/- short of the laws. No conditions. -/
import Derived.Test.YtbhkbjnmpaebdaaAx24
namespace Go.Proofs.Ytbhkbjnmpaebdaa
set_option maxRecDepth 100000
set_option linter.unusedVariables false
open Go.RowKit Go.Deep
set_option maxHeartbeats 4000000 in
theorem short_any (x : AX.Ax) (v : Value) (w : World) (hv : SrcN 2 w v x.map.length (AX.prc x.map)) (hc : ∀ a n c, v = .slice a n c → n ≤ c) (hs : x.name.size ≤ maxLen) :
    Calls Try.prog 12 #[AxV v x] w fun e w' => ∃ v' x', e = .returned (AxV v' x') ∧ x'.map.length ≤ 8 ∧ x'.name.size ≤ 20 ∧ w'.ownsRow w.heap.size 30 2 v' x'.map.length (AX.prc x'.map) ∧ Below w.heap.size w w' := by
  obtain ⟨i0, hi0, hz0, hz1, hz2⟩ := info_parts info_pr
  have hv' := hv
  obtain ⟨a, c, rfl, -, -⟩ := hv'
  have hnc := hc a x.map.length c rfl
  obtain ⟨s, lo, de, hi, l⟩ := x
  simp only at hv hnc hs
  obtain ⟨n, hn⟩ : ∃ n, l.length = n := ⟨_, rfl⟩
  rw [hn] at hv hnc
  obtain ⟨m, hm⟩ : ∃ m : Nat, (if (8 : Int) < (n : Int) then 8 else (n : Int)) = (m : Int) := ⟨min n 8, by split <;> omega⟩
  have hm8 : m ≤ 8 ∧ m ≤ n := by split at hm <;> omega
  have hmc : m ≤ c := by omega
  obtain ⟨j, hj⟩ : ∃ j : Nat, (if (20 : Int) < (s.size : Int) then 20 else (s.size : Int)) = (j : Int) := ⟨min s.size 20, by split <;> omega⟩
  have hj20 : j ≤ 20 ∧ j ≤ s.size := by split at hj <;> omega
  obtain ⟨s', hs'⟩ : ∃ s' : ByteArray, s.extract 0 j = s' := ⟨_, rfl⟩
  have hss : s'.size ≤ 20 := by rw [← hs', ByteArray.size_extract]; omega
  have HML : Hid ((l.take m).length = m) := Lib.hid (by rw [List.length_take]; omega)
  have HSV := Lib.hid (SrcN.take hv hm8.2)
  show Calls _ _ #[.agg #[.string s, .int .i64 lo, .int .i64 de, .int .i64 hi, .slice a l.length c]] _ _
  rw [hn]
  obtain ⟨B, hB⟩ : ∃ B, w.heap.size = B := ⟨_, rfl⟩
  obtain ⟨W2, hW2, b0, b1, bel, hsz⟩ := two_blocks w (.cells #[.string s, .int .i64 lo, .int .i64 de, .int .i64 hi, .slice a n c] 24) (.cells #[.string ⟨#[]⟩, .int .i64 0, .int .i64 0, .int .i64 0, .slice none 0 0] 24) B hB
  have c0 := cell_of b0 (i := 0) rfl
  have f0 := frozen_of b0 0
  have HB0 := Lib.hid b0
  have HB1 := Lib.hid b1
  have HBEL := Lib.hid bel
  have HB := Lib.hid hB
  have HSZ := Lib.hid hsz
  have hlt : B < W2.heap.size := by omega
  clear hc hv hn b0 b1 bel hsz
  go_enter Try.func12, Try.ntmps12
  go_upto_region 1 with fail
  try rw [hW2]
  try rw [hB]
  clear hW2 hB
  go_upto_region 2 with fail
  have b2 : (W2.setCell ⟨B, 0, none⟩ (.string s')).heap[B]? = some (.cells #[.string s', .int .i64 lo, .int .i64 de, .int .i64 hi, .slice a n c] 24 (0, 0)) := heap_setCell_same W2 B 0 _ _ (.string s') HB0.out
  have b3 : (W2.setCell ⟨B, 0, none⟩ (.string s')).heap[B + 1]? = some (.cells #[.string ⟨#[]⟩, .int .i64 0, .int .i64 0, .int .i64 0, .slice none 0 0] 24 (0, 0)) := (Below.heap_setCell _ _ _ _ (by show B + 1 ≠ B; omega)).trans HB1.out
  have hb3 : Below w.heap.size w (W2.setCell ⟨B, 0, none⟩ (.string s')) := bset HBEL.out (by have := HB.out; show w.heap.size ≤ B; omega) _
  have hsz3 : (W2.setCell ⟨B, 0, none⟩ (.string s')).heap.size = B + 2 := by rw [← HSZ.out]; simp
  obtain ⟨W3, hW3⟩ : ∃ W3, W2.setCell ⟨B, 0, none⟩ (.string s') = W3 := ⟨_, rfl⟩
  try rw [hs']
  rw [hW3] at b2 b3 hb3 hsz3 ⊢
  have hlt3 : B < W3.heap.size := by omega
  have d0 := cell_of b2 (i := 0) rfl
  have d4 := cell_of b2 (i := 4) rfl
  have HB2 := Lib.hid b2
  have HB3 := Lib.hid b3
  have HBEL3 := Lib.hid hb3
  have HSZ3 := Lib.hid hsz3
  clear hW3 b2 b3 hb3 hsz3 c0 f0 hlt
  go_upto_region 3 with (at_builtin; refine wpList_appN _ rfl _ _ 22 rfl (B + 2) 30 i0 _ 2 16 Try.underlying22 hi0 hz0 hz1 hz2 rfl (by decide) _ _ _ rfl (own_empty W3 30 2 (B + 2) (by rw [HSZ3.out]; exact Nat.le_refl _)) _ m (AX.prc (l.take m)) rfl (by have h := (HSV.out.keep HBEL3.out).keep (balloc (Below.refl _ _) (.cells #[] 30)); rw [AX.prc, AX.flat_take AX.prv_len]; exact h) (AX.prc_one _) (by unfold maxLen; omega) (by omega) (by have := HSZ3.out; simp; omega) ?_; intro v' w1 hown' hgrow hat; rw [Nat.zero_add, List.nil_append] at hown'; obtain ⟨va, vc, rfl⟩ := own_shape hown'; have hq := HSZ3.out; have hrow : ∀ q, (Value.slice (some ⟨W3.heap.size, 0, none⟩) 0 0).ownBlock = some q → B + 1 < q := (fun q e => by have : W3.heap.size = q := Option.some.inj e; omega); have hbl : ∀ q, q ≤ B + 1 → w1.heap[q]? = W3.heap[q]? := (fun q hq' => (hgrow.block q (by simp; omega) (fun e => by have := hrow q e.symm; omega)).trans (Below.block (balloc (Below.refl _ W3) _) _ (by omega))); have y2 := (hbl B (by omega)).trans HB2.out; have y3 := (hbl (B + 1) (by omega)).trans HB3.out; have z4 := cell_of y2 (i := 4) rfl; have f4 := frozen_of y2 4; have hz := heap_setCell_same w1 B 4 _ _ (.slice va m vc) y2; have HZ := Lib.hid hz; have HY3 := Lib.hid y3; have HO := Lib.hid hown'; have HBW : Hid (Below w.heap.size w w1) := Lib.hid ((balloc HBEL3.out _).grown hgrow (by have := HB.out; simp; omega) (fun j ej => by have := hrow j ej; have := HB.out; omega)); clear hown' hz hgrow hat hq hrow hbl y2 y3)
  have k1 : (w1.setCell ⟨B, 4, none⟩ (.slice va m vc)).heap[B]? = some (.cells #[.string s', .int .i64 lo, .int .i64 de, .int .i64 hi, .slice va m vc] 24 (0, 0)) := HZ.out
  have k2 : (w1.setCell ⟨B, 4, none⟩ (.slice va m vc)).heap[B + 1]? = some (.cells #[.string ⟨#[]⟩, .int .i64 0, .int .i64 0, .int .i64 0, .slice none 0 0] 24 (0, 0)) := (Below.heap_setCell _ _ _ _ (by show B + 1 ≠ B; omega)).trans HY3.out
  have k3 : Below w.heap.size w (w1.setCell ⟨B, 4, none⟩ (.slice va m vc)) := bset HBW.out (by have := HB.out; show w.heap.size ≤ B; omega) _
  have k4 : (w1.setCell ⟨B, 4, none⟩ (.slice va m vc)).ownsRow (B + 2) 30 2 (.slice va m vc) m (AX.prc (l.take m)) := own_of_grown HO.out (set_kept w1 B 4 _) (fun q h1 e => by have := (HO.out.lt q h1).1; have := Option.some.inj e; omega)
  obtain ⟨W5, hW5⟩ : ∃ W5, w1.setCell ⟨B, 4, none⟩ (.slice va m vc) = W5 := ⟨_, rfl⟩
  rw [hW5] at k1 k2 k3 k4 ⊢
  clear hW5 z4 f4
  have x0 := cell_of k1 (i := 0) rfl
  have x1 := cell_of k1 (i := 1) rfl
  have x2 := cell_of k1 (i := 2) rfl
  have x3 := cell_of k1 (i := 3) rfl
  have x4 := cell_of k1 (i := 4) rfl
  have y0 := cell_of k2 (i := 0) rfl
  have y1 := cell_of k2 (i := 1) rfl
  have y2 := cell_of k2 (i := 2) rfl
  have y3 := cell_of k2 (i := 3) rfl
  have y4 := cell_of k2 (i := 4) rfl
  have g0 := frozen_of k2 0
  have g1 := frozen_of k2 1
  have g2 := frozen_of k2 2
  have g3 := frozen_of k2 3
  have g4 := frozen_of k2 4
  have HZZ := Lib.hid (five_set k2 (.string s') (.int .i64 lo) (.int .i64 de) (.int .i64 hi) (.slice va m vc))
  have HKP := Lib.hid (five_kept W5 (B + 1) (.string s') (.int .i64 lo) (.int .i64 de) (.int .i64 hi) (.slice va m vc))
  have K3 := Lib.hid k3
  have K4 := Lib.hid k4
  clear k1 k2 k3 k4
  go_wp2
  refine bodyPost_ret (v := .agg #[.string s', .int .i64 lo, .int .i64 de, .int .i64 hi, .slice va m vc]) (results_cell_row Try.results12 _ _ (B + 1) 24 _ (0, 0) _ rfl HZZ.out Try.underlying24 rfl (by kernel_rfl)) rfl ?_
  refine ⟨.slice va m vc, ⟨s', lo, de, hi, l.take m⟩, rfl, by show (l.take m).length ≤ 8; rw [HML.out]; exact hm8.1, hss, ?_, K3.out.grown HKP.out K3.out.size (fun q e => by have := Option.some.inj e; have := HB.out; omega)⟩
  show World.ownsRow _ _ _ _ _ (l.take m).length (AX.prc (l.take m))
  rw [HML.out]
  exact own_base (own_of_grown K4.out HKP.out (fun q h1 e => by have := (K4.out.lt q h1).1; have := Option.some.inj e; omega)) (by have := HB.out; omega)
end Go.Proofs.Ytbhkbjnmpaebdaa
