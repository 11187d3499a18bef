/- The contract of forms.former. -/
import Derived.Test.YtkacbmimmnlhlaaDoorFrmFormer
import Derived.Laws.EntriesVeiled
import Derived.Laws.OwnMore
import Derived.RangeFuncBox
namespace Go.Proofs.YtkacbmimmnlhlaaDoor
set_option linter.unusedVariables false
open Go.RowKit Go.Shelf Go.Deep
theorem one_cell {X : World} {B : Nat} {a : Value} {t : TypeId} (h : X.heap[B]? = some (.cells #[a] t (0, 0))) : X.cell? ⟨B, 0, none⟩ = some a := by
  simp [World.cell?, h]
theorem three_cells (w : World) (a b c : Value) (t0 t1 t2 : TypeId) : ∃ W, ((w.alloc (.cells #[a] t0)).alloc (.cells #[b] t1)).alloc (.cells #[c] t2) = W ∧ W.cell? ⟨w.heap.size, 0, none⟩ = some a ∧ W.cell? ⟨w.heap.size + 1, 0, none⟩ = some b ∧ W.cell? ⟨w.heap.size + 1 + 1, 0, none⟩ = some c ∧ Below w.heap.size w W := by
  have n : ∀ (X : World) (v : Value) (t : TypeId), (X.alloc (.cells #[v] t)).cell? ⟨X.heap.size, 0, none⟩ = some v := fun X v t => one_cell (World.alloc_heap_new X _)
  have k : ∀ (X : World) (v : Value) (t : TypeId) (B : Nat), B < X.heap.size → (X.alloc (.cells #[v] t)).cell? ⟨B, 0, none⟩ = X.cell? ⟨B, 0, none⟩ := fun X v t B h => (balloc (Below.refl _ X) _).cell (p := ⟨B, 0, none⟩) h
  have e0 := n w a t0
  have e1 := n (w.alloc (.cells #[a] t0)) b t1
  have e2 := n ((w.alloc (.cells #[a] t0)).alloc (.cells #[b] t1)) c t2
  simp only [World.size_alloc] at e1 e2
  refine ⟨_, rfl, ?_, ?_, e2, balloc (balloc (balloc (Below.refl _ _) _) _) _⟩
  · rw [k _ _ _ _ (by simp; omega), k _ _ _ _ (by simp)]; exact e0
  · rw [k _ _ _ _ (by simp)]; exact e1
set_option maxRecDepth 100000 in
set_option maxHeartbeats 4000000 in
theorem former_any (s : ByteArray) (ao : Option Addr) (n cc : Nat) (w : World) :
    Calls Tryd.prog 27 #[.func (.func 28) #[.agg #[.string s, .slice ao n cc]] #[], .func (.func 29) #[.agg #[.string s, .slice ao n cc]] #[], .func (.func 30) #[.agg #[.string s, .slice ao n cc]] #[]] w fun e w' => ∃ (bh bm bt bo m cl : Nat) (es : Es), e = .returned (.func (.func 40) #[] #[.pointer (some ⟨bh, 0, none⟩), .pointer (some ⟨bm, 0, none⟩), .pointer (some ⟨bt, 0, none⟩), .pointer (some ⟨bo, 0, none⟩)]) ∧
      w'.cell? ⟨bh, 0, none⟩ = some (.func (.func 28) #[.agg #[.string s, .slice ao n cc]] #[]) ∧ w'.cell? ⟨bm, 0, none⟩ = some (.map (some m)) ∧ w'.cell? ⟨bt, 0, none⟩ = some (.func (.func 29) #[.agg #[.string s, .slice ao n cc]] #[]) ∧ w'.cell? ⟨bo, 0, none⟩ = some (.func (.func 30) #[.agg #[.string s, .slice ao n cc]] #[]) ∧ dualOk es = true ∧ w'.heap[m]? = some (.map (ents es) cl) ∧ Below w.heap.size w w' := by
  obtain ⟨W, hW, q0, q1, q2, hbW⟩ := three_cells w (.func (.func 28) #[.agg #[.string s, .slice ao n cc]] #[]) (.func (.func 29) #[.agg #[.string s, .slice ao n cc]] #[]) (.func (.func 30) #[.agg #[.string s, .slice ao n cc]] #[]) 41 43 43
  go_enter Tryd.func27, Tryd.ntmps27
  go_wp2_with fail
  refine (dual_any W).mono ?_
  rintro e w2 ⟨es, hdo, rfl, hw2⟩
  have hm2 : w2.heap[W.heap.size]? = some (.map (ents es) es.length) := by rw [hw2]; exact mw_heap W.drew es
  have hb2 : Below W.heap.size W w2 := by rw [hw2]; exact balloc ((Below.refl _ _).drew) _
  clear hw2 hW
  go_wp2_with fail
  go_ret
  have hbF : Below w2.heap.size w2 (w2.alloc (.cells #[.map (some W.heap.size)] 61)) := balloc (Below.refl _ _) _
  have hk : ∀ {p : Addr} {v : Value}, W.cell? p = some v → (w2.alloc (.cells #[.map (some W.heap.size)] 61)).cell? p = some v := fun h => ((bnext hb2 hbF).cell (World.block_lt_of_cell? _ _ h)).trans h
  exact ⟨_, _, _, _, W.heap.size, es.length, es, rfl, hk q0, one_cell (World.alloc_heap_new w2 _), hk q1, hk q2, hdo, (hbF.block _ (Array.getElem?_eq_some_iff.1 hm2).1).trans hm2, bnext hbW (bnext hb2 hbF)⟩
theorem make_ints (w : World) (n B : Nat) (hB : B ≤ w.heap.size) (hn : n ≤ 1000000000) :
    ∃ w', (Instr.makeSlice 22 (.int .i64 (n : Int)) (.int .i64 (n : Int))).run Tryd.prog w = .ok (.slice (some ⟨w.heap.size, 0, none⟩) n n) w' ∧
      w'.ownsRow B 3 1 (.slice (some ⟨w.heap.size, 0, none⟩) n n) n ((List.replicate n (0 : Int)).map (Value.int .i64)) ∧ Below w.heap.size w w' ∧ w.heap.size < w'.heap.size := by
  obtain ⟨i0, hi, hz0, hz1, hz2⟩ := info_parts info_int
  have h := run_make (P := Tryd.prog) w 22 3 i0 (.int .i64 0) Tryd.underlying22 hi hz0 .i64 .i64 n n (by omega) (by omega) (by rw [hz2]; omega) (by omega)
  simp only [Int.toNat_natCast] at h
  refine ⟨_, h, ?_, balloc (Below.refl _ _) _, by simp⟩
  have := World.ownsRow_lit (base := B) (e := 3) (size := 1) w (madeCells #[.int .i64 0] (n * i0.size)) n hB (by unfold maxLen; omega) (by rw [size_madeCells, hz1])
  rw [toList_madeCells_one, hz1, Nat.mul_one] at this
  rw [show (Value.int .i64 0).cells = #[.int .i64 0] from rfl, hz1, Nat.mul_one, List.map_replicate]
  exact this
theorem set_mid (a b : List Int) (x y : Int) : ((a ++ x :: b).map (Value.int .i64)).set a.length (.int .i64 y) = ((a ++ [y]) ++ b).map (Value.int .i64) := by
  simp
theorem own2_set {w : World} {B e n b : Nat} {v : Value} {xs : List Value} (h : w.ownsRow B e 2 v n xs) (o : Nat) (u : Value) (hb : b < B) : (w.setCell ⟨b, o, none⟩ u).ownsRow B e 2 v n xs :=
  h.kept (row := some b) ⟨rfl, rfl, rfl, (KeepsWalks.setCell w _ u).size, fun k _ hk => Below.heap_setCell _ _ _ k (fun e => hk (by rw [e]))⟩ (by cases hw : v.ownBlock with | none => exact Or.inl rfl | some k => exact Or.inr (fun e => by have := (h.lt k hw).1; injection e with e; omega))
theorem read_any (s : ByteArray) (g : Nat × Nat) (w : World) (hl : Laid w g) (hs : s.size ≤ 1000000000) :
    Calls Tryd.prog 26 #[.string s] w fun e w' => ∃ v, e = .returned (.agg #[.string s, v]) ∧ SrcP w' v (CP.split s) ∧ Below w.heap.size w w' := by
  have HS := Lib.hid fun V (hV : Below w.heap.size w V) => split_any s g V (hl.mono hV) hs
  clear hl
  go_enter Tryd.func26, Tryd.ntmps26
  go_wp2_with fail
  obtain ⟨w1, hW1⟩ : ∃ W, w.alloc (.cells #[.string ⟨#[]⟩, .slice none 0 0] 50) = W := ⟨_, rfl⟩
  have hA1 : w1.heap[w.heap.size]? = some (.cells #[.string ⟨#[]⟩, .slice none 0 0] 50 (0, 0)) := by rw [← hW1]; exact World.alloc_heap_new w _
  have hb1 : Below w.heap.size w w1 := by rw [← hW1]; exact balloc (Below.refl _ _) _
  try rw [hW1]
  clear hW1
  refine (HS.out _ hb1).mono ?_
  rintro e w2 ⟨v, rfl, hown, hb2⟩
  have hsp := hown
  obtain ⟨aa, ac, rfl⟩ := own_shape hown
  have hA2 := (hb2.block w.heap.size (Array.getElem?_eq_some_iff.1 hA1).1).trans hA1
  have e0 : w2.cell? ⟨w.heap.size, 0, none⟩ = some (.string ⟨#[]⟩) := by simp [World.cell?, hA2]
  have e1 : w2.cell? ⟨w.heap.size, 1, none⟩ = some (.slice none 0 0) := by simp [World.cell?, hA2]
  have f0 : w2.frozen? ⟨w.heap.size, 0, none⟩ = false := by simp [World.frozen?, hA2]
  have f1 : w2.frozen? ⟨w.heap.size, 1, none⟩ = false := by simp [World.frozen?, hA2]
  have hb02 := bnext hb1 hb2
  have HD := Lib.hid hA2
  have HSP := Lib.hid hsp
  have HB := Lib.hid hb02
  have hB : w.heap.size < w2.heap.size := (Array.getElem?_eq_some_iff.1 hA2).1
  have HLT : Hid (w.heap.size < w1.heap.size ∧ True) := Lib.hid ⟨(Array.getElem?_eq_some_iff.1 hA1).1, trivial⟩
  clear hown hsp hb1 hb2 hb02 hA1 hA2 hB
  go_wp2_with fail
  have hZ := heap_setCell_same _ w.heap.size 1 _ 50 (.slice aa (CP.split s).length ac) (heap_setCell_same w2 w.heap.size 0 _ 50 (.string s) HD.out)
  refine bodyPost_ret (v := .agg #[.string s, .slice aa (CP.split s).length ac]) (results_cell_row Tryd.results26 _ _ w.heap.size 50 _ (0, 0) _ rfl hZ Tryd.underlying50 rfl (by kernel_rfl)) rfl ?_
  refine ⟨_, rfl, ?_, bset (bset HB.out (Nat.le_refl _) _) (Nat.le_refl _) _⟩
  exact own_srcP (own2_set (own2_set HSP.out _ _ HLT.out.1) _ _ HLT.out.1)
end Go.Proofs.YtkacbmimmnlhlaaDoor
