/- few, one and short of the laws; how many axes a case has. No conditions. -/
import Derived.Test.YtbhkbjnmpaebdaaAx23
namespace Go.Proofs.Ytbhkbjnmpaebdaa
set_option maxRecDepth 100000
set_option linter.unusedVariables false
open Go.RowKit Go.Deep
theorem own_empty (w : World) (e : TypeId) (size B : Nat) (hB : B ≤ w.heap.size) : (w.alloc (.cells #[] e)).ownsRow B e size (.slice (some ⟨w.heap.size, 0, none⟩) 0 0) 0 [] :=
  ⟨by simp, .inr ⟨w.heap.size, 0, #[], rfl, hB, heap_alloc_new w _, Nat.le_refl _, Nat.zero_le _, by simp, by simp⟩⟩
theorem cell_of {V : World} {g : Nat} {c : Array Value} {T : TypeId} {i : Nat} {u : Value} (h : V.heap[g]? = some (.cells c T (0, 0))) (hc : c[i]? = some u) : V.cell? ⟨g, i, none⟩ = some u := by
  simp only [World.cell?, h]
  exact hc
theorem frozen_of {V : World} {g : Nat} {c : Array Value} {T : TypeId} (h : V.heap[g]? = some (.cells c T (0, 0))) (i : Nat) : V.frozen? ⟨g, i, none⟩ = false := by simp [World.frozen?, h]
theorem two_blocks (w : World) (o0 o1 : Obj) (B : Nat) (hB : w.heap.size = B) : ∃ W0, (w.alloc o0).alloc o1 = W0 ∧ W0.heap[B]? = some o0 ∧ W0.heap[B + 1]? = some o1 ∧ Below w.heap.size w W0 ∧ W0.heap.size = B + 2 := by
  subst hB
  refine ⟨_, rfl, (Below.block (balloc (Below.refl _ (w.alloc o0)) o1) _ (by simp)).trans (heap_alloc_new w o0), ?_, balloc (balloc (Below.refl _ _) _) _, by simp⟩
  rw [show w.heap.size + 1 = (w.alloc o0).heap.size by simp]
  exact heap_alloc_new _ _
set_option maxHeartbeats 4000000 in
theorem few_any (l : List AX.Tn) (v : Value) (w : World) (hv : SrcN 3 w v l.length (AX.tnc l)) (hc : ∀ a n c, v = .slice a n c → n ≤ c) :
    Calls Try.prog 20 #[.agg #[v]] w fun e w' => ∃ v' m, e = .returned (.agg #[v']) ∧ m ≤ 5 ∧ (l.take m).length = m ∧ w'.ownsRow w.heap.size 71 3 v' m (AX.tnc (l.take m)) ∧ Below w.heap.size w w' := by
  obtain ⟨i1, hi1, hy0, hy1, hy2⟩ := info_parts info_tn
  have hv' := hv
  obtain ⟨a, c, rfl, -, -⟩ := hv'
  have hnc := hc a l.length c rfl
  obtain ⟨n, hn⟩ : ∃ n, l.length = n := ⟨_, rfl⟩
  rw [hn] at hv hnc
  obtain ⟨m, hm⟩ : ∃ m : Nat, (if (5 : Int) < (n : Int) then 5 else (n : Int)) = (m : Int) := ⟨min n 5, by split <;> omega⟩
  have hm5 : m ≤ 5 ∧ m ≤ n := by split at hm <;> omega
  have hmc : m ≤ c := by omega
  have HML : Hid ((l.take m).length = m) := Lib.hid (by rw [List.length_take]; omega)
  have HSV := Lib.hid (SrcN.take hv hm5.2)
  rw [hn]
  obtain ⟨B, hB⟩ : ∃ B, w.heap.size = B := ⟨_, rfl⟩
  obtain ⟨W2, hW2, b0, b1, bel, hsz⟩ := two_blocks w (.cells #[.slice a n c] 42) (.cells #[.slice none 0 0] 42) B hB
  have c0 := cell_of b0 (i := 0) rfl
  have HB1 := Lib.hid b1
  have HBEL := Lib.hid bel
  have HB := Lib.hid hB
  have HSZ := Lib.hid hsz
  have hlt : B < W2.heap.size := by omega
  clear hc hv hn b0 b1 bel hsz
  go_enter Try.func20, Try.ntmps20
  go_upto_region 1 with fail
  try rw [hW2]
  try rw [hB]
  clear hW2 hB
  go_wp2_with (at_builtin; refine wpList_appN _ rfl _ _ 40 rfl (B + 2) 71 i1 _ 3 24 Try.underlying40 hi1 hy0 hy1 hy2 rfl (by decide) _ _ _ rfl (own_empty W2 71 3 (B + 2) (by rw [HSZ.out]; exact Nat.le_refl _)) _ m (AX.tnc (l.take m)) rfl (by have h := HSV.out.keep (balloc HBEL.out (.cells #[] 71)); rw [AX.tnc, AX.flat_take AX.tnv_len]; exact h) (AX.tnc_one _) (by unfold maxLen; omega) (by omega) (by have := HSZ.out; simp; omega) ?_; intro v' w1 hown' hgrow hat; rw [Nat.zero_add, List.nil_append] at hown'; obtain ⟨va, vc, rfl⟩ := own_shape hown'; have hq := HSZ.out; have hb1 := (hgrow.block (B + 1) (by simp; omega) (fun e => by have : B + 1 = W2.heap.size := Option.some.inj e; omega)).trans ((Below.block (balloc (Below.refl _ W2) _) _ (by omega)).trans HB1.out); have z0 := cell_of hb1 (i := 0) rfl; have f0 := frozen_of hb1 0; have hz := heap_setCell_same w1 (B + 1) 0 _ _ (.slice va m vc) hb1; have HZ := Lib.hid hz; have HO := Lib.hid hown'; have HBW : Hid (Below w.heap.size w w1) := Lib.hid ((balloc HBEL.out _).grown hgrow (by have := HB.out; have := HSZ.out; simp; omega) (fun j ej => by have : W2.heap.size = j := Option.some.inj ej; have := HB.out; have := HSZ.out; omega)); clear hown' hb1 hz hgrow hat hq)
  refine bodyPost_ret (v := .agg #[.slice va m vc]) (results_cell_row Try.results20 _ _ (B + 1) 42 _ (0, 0) _ rfl HZ.out Try.underlying42 rfl (by kernel_rfl)) rfl ?_
  exact ⟨_, m, rfl, hm5.1, HML.out, own_base (own_of_grown HO.out (set_kept w1 (B + 1) 0 _) (fun q h1 e => by have := (HO.out.lt q h1).1; have := Option.some.inj e; omega)) (by have := HB.out; omega), bset HBW.out (by have := HB.out; show w.heap.size ≤ B + 1; omega) _⟩
set_option maxHeartbeats 2000000 in
theorem one_any (f p q : Int) (w : World) :
    Calls Try.prog 40 #[.int .i64 f, .int .i64 p, .int .i64 q] w fun e w' => ∃ a c, e = .returned (.agg #[.slice a 1 c]) ∧ TnAt w' (.slice a 1 c) [(f, p, q)] ∧ Below w.heap.size w w' := by
  obtain ⟨B, hB⟩ : ∃ B, w.heap.size = B := ⟨_, rfl⟩
  obtain ⟨W2, hW2, b0, b1, bel, hsz⟩ := two_blocks w (.cells #[.slice none 0 0] 42) (.cells #[.int .i64 f, .int .i64 p, .int .i64 q] 71) B hB
  have c0 := cell_of b0 (i := 0) rfl
  have f0 := frozen_of b0 0
  have HZ := Lib.hid (heap_setCell_same W2 B 0 _ _ (.slice (some ⟨B + 1, 0, none⟩) 1 1) b0)
  have HT : Hid (TnAt (W2.setCell ⟨B, 0, none⟩ (.slice (some ⟨B + 1, 0, none⟩) 1 1)) (.slice (some ⟨B + 1, 0, none⟩) 1 1) [(f, p, q)]) := Lib.hid (by
    have k1 : (W2.setCell ⟨B, 0, none⟩ (.slice (some ⟨B + 1, 0, none⟩) 1 1)).heap[B + 1]? = some (.cells #[.int .i64 f, .int .i64 p, .int .i64 q] 71 (0, 0)) := (Below.heap_setCell _ _ _ _ (by show B + 1 ≠ B; omega)).trans b1
    refine ⟨_, 1, rfl, .inr ⟨B + 1, 0, rfl, (Array.getElem?_eq_some_iff.1 k1).1, fun i z hz => ?_⟩⟩
    cases i with
    | zero =>
      obtain rfl : (f, p, q) = z := by simpa using hz
      exact ⟨cell_of k1 rfl, cell_of k1 rfl, cell_of k1 rfl⟩
    | succ i => simp at hz)
  have HBEL := Lib.hid (bset bel (p := ⟨B, 0, none⟩) (by show w.heap.size ≤ B; omega) (.slice (some ⟨B + 1, 0, none⟩) 1 1))
  clear b0 b1 bel
  go_enter Try.func40, Try.ntmps40
  go_wp2
  try rw [hW2]
  try simp only [hB]
  refine bodyPost_ret (v := .agg #[.slice (some ⟨B + 1, 0, none⟩) 1 1]) (results_cell_row Try.results40 _ _ B 42 _ (0, 0) _ rfl HZ.out Try.underlying42 rfl (by kernel_rfl)) rfl ?_
  exact ⟨_, 1, rfl, HT.out, by rw [← hB]; rw [← hB] at HBEL; exact HBEL.out⟩
end Go.Proofs.Ytbhkbjnmpaebdaa
