/- The law's examples hold. -/
import Derived.Test.YtcocnmpnbolpmaaDoorBrkFill
namespace Go.Proofs.YtcocnmpnbolpmaaDoor
set_option linter.unusedVariables false
open Go.RowKit Go.Shelf Go.Deep
theorem lit_row (w : World) (L : List Int) {e : TypeId} : RowAt (w.alloc (.cells (L.map (Value.int .i64)).toArray e)) (.slice (some ⟨w.heap.size, 0, none⟩) L.length L.length) (L.map (Value.int .i64)) :=
  ⟨_, _, by rw [List.length_map], .inr ⟨w.heap.size, 0, rfl, by simp, fun i hi => by
    rw [Nat.zero_add]
    have := World.alloc_heap_new w (.cells (L.map (Value.int .i64)).toArray e)
    have hi' : i < L.length := by simpa using hi
    simp only [World.cell?, this]
    simp [List.getD, List.getElem?_eq_getElem hi']⟩⟩
theorem lit_rowb (w : World) (L : List Bool) {e : TypeId} : RowAt (w.alloc (.cells (L.map Value.bool).toArray e)) (.slice (some ⟨w.heap.size, 0, none⟩) L.length L.length) (L.map Value.bool) :=
  ⟨_, _, by rw [List.length_map], .inr ⟨w.heap.size, 0, rfl, by simp, fun i hi => by
    rw [Nat.zero_add]
    have := World.alloc_heap_new w (.cells (L.map Value.bool).toArray e)
    have hi' : i < L.length := by simpa using hi
    simp only [World.cell?, this]
    simp [List.getD, List.getElem?_eq_getElem hi']⟩⟩
theorem fill_lit (W M : List Int) (S : List Bool) (width : Int) (vS : Value) (w : World) (hS : ∀ V, Below w.heap.size w V → RowAt V vS (S.map Value.bool)) (hW1 : W.length ≤ 1000) (hM1 : M.length ≤ 1000) (hS1 : S.length ≤ 1000) :
    Calls Tryd.prog 18 #[.slice (some ⟨w.heap.size, 0, none⟩) W.length W.length, .slice (some ⟨w.heap.size + 1, 0, none⟩) M.length M.length, vS, .int .i64 width] ((w.alloc (.cells (W.map (Value.int .i64)).toArray 3)).alloc (.cells (M.map (Value.int .i64)).toArray 3)) fun e W' => ∃ v', e = .returned v' ∧ Src W' v' ((BP.Fill W M S width).map (Value.int .i64)) ∧ Below w.heap.size w W' := by
  have h2 := lit_row (w.alloc (.cells (W.map (Value.int .i64)).toArray 3)) M (e := 3)
  rw [World.size_alloc] at h2
  have hB : Below w.heap.size w ((w.alloc (.cells (W.map (Value.int .i64)).toArray 3)).alloc (.cells (M.map (Value.int .i64)).toArray 3)) := balloc (balloc (Below.refl _ _) _) _
  exact (fill_any W M S width _ _ vS _ ((lit_row w W).keep (balloc (Below.refl _ _) _)) h2 (hS _ hB) hW1 hM1 hS1).mono fun e W' ⟨v', h1, h2, h3⟩ => ⟨v', h1, h2, bnext hB h3⟩
theorem fill_lit3 (W M : List Int) (S : List Bool) (width : Int) (w : World) (hW1 : W.length ≤ 1000) (hM1 : M.length ≤ 1000) (hS1 : S.length ≤ 1000) :
    Calls Tryd.prog 18 #[.slice (some ⟨w.heap.size, 0, none⟩) W.length W.length, .slice (some ⟨w.heap.size + 1, 0, none⟩) M.length M.length, .slice (some ⟨w.heap.size + 1 + 1, 0, none⟩) S.length S.length, .int .i64 width] (((w.alloc (.cells (W.map (Value.int .i64)).toArray 3)).alloc (.cells (M.map (Value.int .i64)).toArray 3)).alloc (.cells (S.map Value.bool).toArray 4)) fun e W' => ∃ v', e = .returned v' ∧ Src W' v' ((BP.Fill W M S width).map (Value.int .i64)) ∧ Below w.heap.size w W' := by
  have h2 := lit_row (w.alloc (.cells (W.map (Value.int .i64)).toArray 3)) M (e := 3)
  rw [World.size_alloc] at h2
  have h3 := lit_rowb ((w.alloc (.cells (W.map (Value.int .i64)).toArray 3)).alloc (.cells (M.map (Value.int .i64)).toArray 3)) S (e := 4)
  rw [World.size_alloc, World.size_alloc] at h3
  have hB : Below w.heap.size w (((w.alloc (.cells (W.map (Value.int .i64)).toArray 3)).alloc (.cells (M.map (Value.int .i64)).toArray 3)).alloc (.cells (S.map Value.bool).toArray 4)) := balloc (balloc (balloc (Below.refl _ _) _) _) _
  exact (fill_any W M S width _ _ _ _ ((lit_row w W).keep (balloc (balloc (Below.refl _ _) _) _)) (h2.keep (balloc (Below.refl _ _) _)) h3 hW1 hM1 hS1).mono fun e W' ⟨v', h1, h2, h3⟩ => ⟨v', h1, h2, bnext hB h3⟩
theorem info_bool : (Tryd.prog.info? 4).map (fun i => (i.zero, i.size, i.bytes)) = some (some (.bool false), 1, 1) := by kernel_rfl
theorem make_bools (w : World) (n B : Nat) (hB : B ≤ w.heap.size) (hn : n ≤ 1000000000) :
    ∃ w', (Instr.makeSlice 35 (.int .i64 (n : Int)) (.int .i64 (n : Int))).run Tryd.prog w = .ok (.slice (some ⟨w.heap.size, 0, none⟩) n n) w' ∧
      w'.ownsRow B 4 1 (.slice (some ⟨w.heap.size, 0, none⟩) n n) n ((List.replicate n false).map Value.bool) ∧ Below w.heap.size w w' := by
  obtain ⟨i0, hi, hz0, hz1, hz2⟩ := info_parts info_bool
  have h := run_make (P := Tryd.prog) w 35 4 i0 (.bool false) Tryd.underlying35 hi hz0 .i64 .i64 n n (by omega) (by omega) (by rw [hz2]; omega) (by omega)
  simp only [Int.toNat_natCast] at h
  refine ⟨_, h, ?_, balloc (Below.refl _ _) _⟩
  have := World.ownsRow_lit (base := B) (e := 4) (size := 1) w (madeCells #[.bool false] (n * i0.size)) n hB (by unfold maxLen; omega) (by rw [size_madeCells, hz1])
  rw [toList_madeCells_one, hz1, Nat.mul_one] at this
  rw [show (Value.bool false).cells = #[.bool false] from rfl, hz1, Nat.mul_one, List.map_replicate]
  exact this
set_option maxRecDepth 100000 in
set_option maxHeartbeats 4000000 in
theorem sane_any (g : Nat × Nat) (w : World) (hl : Laid w g) : Calls Tryd.prog 9 #[] w fun e w' => e = .returned (.bool true) ∧ Below w.heap.size w w' := by
  have HL : Hid (∀ B, Below w.heap.size w B → Laid B g) := Lib.hid fun B hb => hl.mono hb
  have acc0 : Below w.heap.size w w := Below.refl _ _
  clear hl
  go_enter Tryd.func9, Tryd.ntmps9
  go_wp2_with fail
  refine (may_any ⟨#[64, 65, 32, 66, 45, 67]⟩ g _ (HL.out _ acc0) (by decide)).mono ?_
  rintro e w1 ⟨v1, rfl, s1, hb1⟩
  rw [show BP.may ⟨#[64, 65, 32, 66, 45, 67]⟩ = [0, 0, 1, 0, 1, 0] by decide +kernel] at s1
  have acc1 := bnext acc0 hb1
  clear hb1 acc0
  go_wp2_with fail
  refine (is_any _ _ [0, 0, 1, 0, 1, 0] _ (s1.keep (balloc (Below.refl _ _) _)).row (lit_row w1 [0, 0, 1, 0, 1, 0]) (by decide)).mono ?_
  rintro e w2 ⟨rfl, hb2⟩
  have acc2 := bnext (w := w) (balloc acc1 _) hb2
  clear hb2 s1 acc1
  go_wp2_with fail
  refine (may_any ⟨#[152, 153, 240, 154, 241, 64]⟩ g _ (HL.out _ acc2) (by decide)).mono ?_
  rintro e w3 ⟨v3, rfl, s3, hb3⟩
  rw [show BP.may ⟨#[152, 153, 240, 154, 241, 64]⟩ = [1, 0, 1, 0] by decide +kernel] at s3
  have acc3 := bnext acc2 hb3
  clear hb3 acc2
  go_wp2_with fail
  refine (is_any _ _ [1, 0, 1, 0] _ (s3.keep (balloc (Below.refl _ _) _)).row (lit_row w3 [1, 0, 1, 0]) (by decide)).mono ?_
  rintro e w4 ⟨rfl, hb4⟩
  have acc4 := bnext (w := w) (balloc acc3 _) hb4
  clear hb4 s3 acc3
  go_wp2_with fail
  refine (may_any ⟨#[64, 10, 65]⟩ g _ (HL.out _ acc4) (by decide)).mono ?_
  rintro e w5 ⟨v5, rfl, s5, hb5⟩
  rw [show BP.may ⟨#[64, 10, 65]⟩ = [0, 2, 0] by decide +kernel] at s5
  have acc5 := bnext acc4 hb5
  clear hb5 acc4
  go_wp2_with fail
  refine (is_any _ _ [0, 2, 0] _ (s5.keep (balloc (Below.refl _ _) _)).row (lit_row w5 [0, 2, 0]) (by decide)).mono ?_
  rintro e w6 ⟨rfl, hb6⟩
  have acc6 := bnext (w := w) (balloc acc5 _) hb6
  clear hb6 s5 acc5
  obtain ⟨w7, hmk, hownb, hbm⟩ := make_bools w6 4 w6.heap.size (Nat.le_refl _) (by omega)
  rw [show ((4 : Nat) : Int) = 4 from rfl] at hmk
  skip
  have acc7 := bnext acc6 hbm
  have hnone0 : RowAt w7 (.slice (some ⟨w6.heap.size, 0, none⟩) 4 4) ([false, false, false, false].map Value.bool) := row_own hownb rfl
  have HNONE := Lib.hid (fun (V : World) (hV : Below w7.heap.size w7 V) => hnone0.keep hV)
  have B0 : Below w7.heap.size w7 w7 := Below.refl _ _
  have ACCM := Lib.hid acc7
  clear hownb hbm hnone0 acc7 acc6
  go_wp2_with fail
  refine (fill_lit [3, 2, 4, 2] [0, 1, 0, 0] [false, false, false, false] 6 _ w7 (fun V hV => HNONE.out V (bnext B0 hV)) (by decide) (by decide) (by decide)).mono ?_
  rintro e w8 ⟨v8, rfl, s8, hb8⟩
  rw [show BP.Fill [3, 2, 4, 2] [0, 1, 0, 0] [false, false, false, false] 6 = [0, 0, 1, 1] by decide +kernel] at s8
  have acc8 := bnext B0 hb8
  clear hb8 B0
  go_wp2_with fail
  refine (is_any _ _ [0, 0, 1, 1] _ (s8.keep (balloc (Below.refl _ _) _)).row (lit_row w8 [0, 0, 1, 1]) (by decide)).mono ?_
  rintro e w9 ⟨rfl, hb9⟩
  have acc9 := bnext (w := w7) (balloc acc8 _) hb9
  clear hb9 s8 acc8
  go_wp2_with fail
  refine (fill_lit [3, 2, 4, 2] [0, 1, 0, 0] [false, false, false, false] 4 _ w9 (fun V hV => HNONE.out V (bnext acc9 hV)) (by decide) (by decide) (by decide)).mono ?_
  rintro e w10 ⟨v10, rfl, s10, hb10⟩
  rw [show BP.Fill [3, 2, 4, 2] [0, 1, 0, 0] [false, false, false, false] 4 = [0, 1, 2, 3] by decide +kernel] at s10
  have acc10 := bnext acc9 hb10
  clear hb10 acc9
  go_wp2_with fail
  refine (is_any _ _ [0, 1, 2, 3] _ (s10.keep (balloc (Below.refl _ _) _)).row (lit_row w10 [0, 1, 2, 3]) (by decide)).mono ?_
  rintro e w11 ⟨rfl, hb11⟩
  have acc11 := bnext (w := w7) (balloc acc10 _) hb11
  clear hb11 s10 acc10
  go_wp2_with fail
  refine (fill_lit3 [3, 2, 3] [0, 1, 0] [false, true, false] 3 w11 (by decide) (by decide) (by decide)).mono ?_
  rintro e w12 ⟨v12, rfl, s12, hb12⟩
  rw [show BP.Fill [3, 2, 3] [0, 1, 0] [false, true, false] 3 = [0, 0, 1] by decide +kernel] at s12
  have acc12 := bnext acc11 hb12
  clear hb12 acc11
  go_wp2_with fail
  refine (is_any _ _ [0, 0, 1] _ (s12.keep (balloc (Below.refl _ _) _)).row (lit_row w12 [0, 0, 1]) (by decide)).mono ?_
  rintro e w13 ⟨rfl, hb13⟩
  have acc13 := bnext (w := w7) (balloc acc12 _) hb13
  clear hb13 s12 acc12
  go_wp2_with fail
  refine (fill_lit [1, 1, 1] [0, 2, 0] [false, false, false, false] 9 _ w13 (fun V hV => HNONE.out V (bnext acc13 hV)) (by decide) (by decide) (by decide)).mono ?_
  rintro e w14 ⟨v14, rfl, s14, hb14⟩
  rw [show BP.Fill [1, 1, 1] [0, 2, 0] [false, false, false, false] 9 = [0, 0, 1] by decide +kernel] at s14
  have acc14 := bnext acc13 hb14
  clear hb14 acc13
  go_wp2_with fail
  refine (is_any _ _ [0, 0, 1] _ (s14.keep (balloc (Below.refl _ _) _)).row (lit_row w14 [0, 0, 1]) (by decide)).mono ?_
  rintro e w15 ⟨rfl, hb15⟩
  have acc15 := bnext (w := w7) (balloc acc14 _) hb15
  clear hb15 s14 acc14
  go_wp2_with fail
  go_ret
  exact ⟨rfl, bnext ACCM.out acc15⟩
end Go.Proofs.YtcocnmpnbolpmaaDoor
