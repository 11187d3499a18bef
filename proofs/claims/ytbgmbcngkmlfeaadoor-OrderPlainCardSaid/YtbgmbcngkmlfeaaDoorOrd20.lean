/- The law's examples hold. No conditions. -/
import Derived.Test.YtbgmbcngkmlfeaaDoorOrd19
namespace Go.Proofs.YtbgmbcngkmlfeaaDoor
set_option maxRecDepth 100000
set_option linter.unusedVariables false
open Go.RowKit Go.Shelf Go.Deep
def SH (s : ByteArray) : ByteArray := s.extract 0 (min s.size 120)
theorem SH_size (s : ByteArray) : (SH s).size ≤ 120 := by unfold SH; rw [ByteArray.size_extract]; omega
set_option maxHeartbeats 1000000 in
theorem oshort_any (s : ByteArray) (w : World) (hs : s.size ≤ maxLen) :
    Calls Tryd.prog 10 #[.string s] w fun e w' => e = .returned (.string (SH s)) ∧ w' = w := by
  unfold maxLen at hs
  rcases Nat.lt_or_ge 120 s.size with h | h
  · have hm : (if (120 : Int) < (s.size : Int) then 120 else (s.size : Int)) = 120 := if_pos (by omega)
    have hm2 : min (s.size : Int) 120 = 120 := by omega
    have HE : Hid (s.extract 0 120 = SH s) := Lib.hid (by unfold SH; rw [Nat.min_eq_right (by omega)])
    go_enter Tryd.func10, Tryd.ntmps10
    go_wp2
    go_ret
    exact ⟨by rw [← HE.out]; rfl, rfl⟩
  · have hm : (if (120 : Int) < (s.size : Int) then 120 else (s.size : Int)) = (s.size : Int) := if_neg (by omega)
    have hm2 : min (s.size : Int) 120 = (s.size : Int) := by omega
    have HE : Hid (s.extract 0 s.size = SH s) := Lib.hid (by unfold SH; rw [Nat.min_eq_left h])
    have HE2 : Hid (SH s = s) := Lib.hid (by rw [← HE.out]; exact ByteArray.extract_zero_size)
    go_enter Tryd.func10, Tryd.ntmps10
    go_wp2
    go_ret
    exact ⟨by rw [HE2.out]; simp, rfl⟩
theorem lit_row (w : World) (L : List Int) (n : Nat) (hn : L.length = n) : RowAt (w.alloc (.cells (L.map (Value.int .i64)).toArray 3)) (.slice (some ⟨w.heap.size, 0, none⟩) n n) (L.map (Value.int .i64)) := by
  subst hn
  refine ⟨_, L.length, by rw [List.length_map], .inr ⟨w.heap.size, 0, rfl, by simp, fun i hi => ?_⟩⟩
  simp only [World.cell?, heap_alloc_new w _]
  simp at hi
  simp [List.getD, hi]
set_option maxHeartbeats 4000000 in
theorem ohas_any (s : ByteArray) (r : Bool) (L : List Int) (v : Value) (g : Nat × Nat) (w : World) (hl : Laid w g) (hs : s.size ≤ 1000) (hv : RowAt w v (L.map (Value.int .i64))) (hr : oright (OP.wrt s s.size) = r) (hL : OP.levels (OP.wrt s s.size) = L) :
    Calls Tryd.prog 26 #[.string s, .bool r, v] w fun e w' => e = .returned (.bool true) ∧ Below w.heap.size w w' := by
  have HL : Hid (∀ B, Below w.heap.size w B → Laid B g) := Lib.hid fun B hb => hl.mono hb
  have HV : Hid (∀ V, Below w.heap.size w V → RowAt V v (L.map (Value.int .i64))) := Lib.hid fun V hV => hv.keep hV
  have hws := OP.wrt_size s s.size
  have HW := Lib.hid fun V => owritten_any s V (by omega)
  obtain ⟨t, ht⟩ : ∃ t, OP.wrt s s.size = t := ⟨_, rfl⟩
  rw [ht] at hws hr hL HW
  have hts : t.size ≤ 1000000000 := by omega
  have HR := Lib.hid fun V (hV : Below w.heap.size w V) => oright_any t g V (HL.out V hV) hts
  rw [hr] at HR
  have HLV := Lib.hid fun V (hV : Below w.heap.size w V) => olevels_any t g V (HL.out V hV) hts
  have HLN := Lib.hid (OP.levels_len t)
  rw [hL] at HLV HLN
  have hrr : (r == r) = true := by simp
  have HWS := Lib.hid hws
  clear hl hv ht hr hL hws
  go_enter Tryd.func26, Tryd.ntmps26
  go_wp2_with fail
  refine (HW.out _).mono ?_
  rintro e w1 ⟨rfl, hb1⟩
  have HB1 := Lib.hid hb1
  clear hb1
  go_wp2_with fail
  refine (HR.out _ HB1.out).mono ?_
  rintro e w2 ⟨rfl, hb2⟩
  have HB2 := Lib.hid (bnext HB1.out hb2)
  clear hb2
  go_wp2_with fail
  refine (HW.out _).mono ?_
  rintro e w3 ⟨rfl, hb3⟩
  have HB3 := Lib.hid (bnext HB2.out hb3)
  clear hb3
  go_wp2_with fail
  refine (HLV.out _ HB3.out).mono ?_
  rintro e w4 ⟨v4, rfl, ho4, hb4⟩
  have HB4 := Lib.hid (bnext HB3.out hb4)
  have hr4 := row_own ho4 (by rw [List.length_map, HLN.out])
  have HE := Lib.hid (oequal_any v4 v L w4 hr4 (HV.out _ HB4.out) (by rw [HLN.out, HWS.out]; omega))
  obtain ⟨a4, c4, rfl⟩ := own_shape ho4
  clear hb4 ho4 hr4
  go_wp2_with fail
  refine HE.out.mono ?_
  rintro e w5 ⟨rfl, hb5⟩
  go_wp2_with fail
  go_ret
  exact ⟨rfl, bnext HB4.out hb5⟩
theorem rn_lit (w : World) (R : List OP.Rn) (n : Nat) (hn : R.length = n) : RnAt (w.alloc (.cells (OP.rnc R).toArray 44)) (.slice (some ⟨w.heap.size, 0, none⟩) n n) R := by
  subst hn
  refine ⟨_, R.length, rfl, .inr ⟨w.heap.size, rfl, by simp, fun i x hx => ?_⟩⟩
  obtain ⟨a1, a2, a3⟩ := rnc_at R i x hx
  refine ⟨?_, ?_, ?_⟩ <;> simp only [World.cell?, heap_alloc_new w _] <;> simp [a1, a2, a3]
theorem ex_r0 : oright (OP.wrt ⟨#[97, 98, 32, 49, 50]⟩ 5) = false := by decide +kernel
theorem ex_l0 : OP.levels (OP.wrt ⟨#[97, 98, 32, 49, 50]⟩ 5) = [0, 0, 0, 0, 0] := by decide +kernel
theorem ex_r1 : oright (OP.wrt ⟨#[97, 32, 82, 83, 32, 98]⟩ 6) = false := by decide +kernel
theorem ex_l1 : OP.levels (OP.wrt ⟨#[97, 32, 82, 83, 32, 98]⟩ 6) = [0, 0, 1, 1, 0, 0] := by decide +kernel
theorem ex_r2 : oright (OP.wrt ⟨#[82, 83, 32, 49, 50, 32, 97]⟩ 7) = true := by decide +kernel
theorem ex_l2 : OP.levels (OP.wrt ⟨#[82, 83, 32, 49, 50, 32, 97]⟩ 7) = [1, 1, 1, 2, 2, 1, 2] := by decide +kernel
theorem ex_r3 : oright (OP.wrt ⟨#[49, 50, 32, 82]⟩ 4) = true := by decide +kernel
theorem ex_l3 : OP.levels (OP.wrt ⟨#[49, 50, 32, 82]⟩ 4) = [2, 2, 1, 1] := by decide +kernel
theorem ex_r4 : oright (OP.wrt ⟨#[97, 32, 82, 32, 49]⟩ 5) = false := by decide +kernel
theorem ex_l4 : OP.levels (OP.wrt ⟨#[97, 32, 82, 32, 49]⟩ 5) = [0, 0, 1, 1, 2] := by decide +kernel
theorem ex_v0 : OP.ints (OP.vis [0, 0, 1, 1, 0, 0]) = [0, 1, 3, 2, 4, 5] := by decide +kernel
theorem ex_v1 : OP.ints (OP.vis [1, 1, 1, 2, 2, 1, 2]) = [6, 5, 3, 4, 2, 1, 0] := by decide +kernel
theorem ex_n : OP.runs [0, 0, 1, 1, 2] = [(0, 2, 0), (2, 4, 1), (4, 5, 2)] := by decide +kernel
set_option maxHeartbeats 8000000 in
theorem sane_any (g : Nat × Nat) (w : World) (hl : Laid w g) : Calls Tryd.prog 9 #[] w fun e w' => e = .returned (.bool true) ∧ Below w.heap.size w w' := by
  have HL : Hid (∀ B, Below w.heap.size w B → Laid B g) := Lib.hid fun B hb => hl.mono hb
  have acc : Below w.heap.size w w := Below.refl _ _
  clear hl
  go_enter Tryd.func9, Tryd.ntmps9
  go_wp2_with fail
  refine (ohas_any ⟨#[97, 98, 32, 49, 50]⟩ false [0, 0, 0, 0, 0] _ g _ (HL.out _ (balloc acc _)) (by decide) (lit_row w [0, 0, 0, 0, 0] 5 rfl) ex_r0 ex_l0).mono ?_
  rintro e w1 ⟨rfl, hb⟩
  replace acc := bnext (w := w) (balloc acc _) hb
  clear hb
  go_wp2_with fail
  refine (ohas_any ⟨#[97, 32, 82, 83, 32, 98]⟩ false [0, 0, 1, 1, 0, 0] _ g _ (HL.out _ (balloc acc _)) (by decide) (lit_row w1 [0, 0, 1, 1, 0, 0] 6 rfl) ex_r1 ex_l1).mono ?_
  rintro e w2 ⟨rfl, hb⟩
  replace acc := bnext (w := w) (balloc acc _) hb
  clear hb
  go_wp2_with fail
  refine (ohas_any ⟨#[82, 83, 32, 49, 50, 32, 97]⟩ true [1, 1, 1, 2, 2, 1, 2] _ g _ (HL.out _ (balloc acc _)) (by decide) (lit_row w2 [1, 1, 1, 2, 2, 1, 2] 7 rfl) ex_r2 ex_l2).mono ?_
  rintro e w3 ⟨rfl, hb⟩
  replace acc := bnext (w := w) (balloc acc _) hb
  clear hb
  go_wp2_with fail
  refine (ohas_any ⟨#[49, 50, 32, 82]⟩ true [2, 2, 1, 1] _ g _ (HL.out _ (balloc acc _)) (by decide) (lit_row w3 [2, 2, 1, 1] 4 rfl) ex_r3 ex_l3).mono ?_
  rintro e w4 ⟨rfl, hb⟩
  replace acc := bnext (w := w) (balloc acc _) hb
  clear hb
  go_wp2_with fail
  refine (ohas_any ⟨#[97, 32, 82, 32, 49]⟩ false [0, 0, 1, 1, 2] _ g _ (HL.out _ (balloc acc _)) (by decide) (lit_row w4 [0, 0, 1, 1, 2] 5 rfl) ex_r4 ex_l4).mono ?_
  rintro e w5 ⟨rfl, hb⟩
  replace acc := bnext (w := w) (balloc acc _) hb
  clear hb
  go_wp2_with fail
  refine (ovisual_any [0, 0, 1, 1, 0, 0] _ _ (lit_row w5 [0, 0, 1, 1, 0, 0] 6 rfl) (by decide)).mono ?_
  rintro e w6 ⟨u6, rfl, ho, hb⟩
  replace acc := bnext (w := w) (balloc acc _) hb
  rw [ex_v0] at ho
  have hr := row_own ho rfl
  have HR6 := Lib.hid (hr.keep (balloc (Below.refl _ _) (.cells ([0, 1, 3, 2, 4, 5].map (Value.int .i64)).toArray 3)))
  obtain ⟨a6, c6, rfl⟩ := own_shape ho
  clear hb ho hr
  go_wp2_with fail
  refine (oequal_any _ _ [0, 1, 3, 2, 4, 5] _ HR6.out (lit_row w6 [0, 1, 3, 2, 4, 5] 6 rfl) (by decide)).mono ?_
  rintro e w7 ⟨rfl, hb⟩
  replace acc := bnext (w := w) (balloc acc _) hb
  clear hb HR6
  go_wp2_with fail
  refine (ovisual_any [1, 1, 1, 2, 2, 1, 2] _ _ (lit_row w7 [1, 1, 1, 2, 2, 1, 2] 7 rfl) (by decide)).mono ?_
  rintro e w8 ⟨u8, rfl, ho, hb⟩
  replace acc := bnext (w := w) (balloc acc _) hb
  rw [ex_v1] at ho
  have hr := row_own ho rfl
  have HR8 := Lib.hid (hr.keep (balloc (Below.refl _ _) (.cells ([6, 5, 3, 4, 2, 1, 0].map (Value.int .i64)).toArray 3)))
  obtain ⟨a8, c8, rfl⟩ := own_shape ho
  clear hb ho hr
  go_wp2_with fail
  refine (oequal_any _ _ [6, 5, 3, 4, 2, 1, 0] _ HR8.out (lit_row w8 [6, 5, 3, 4, 2, 1, 0] 7 rfl) (by decide)).mono ?_
  rintro e w9 ⟨rfl, hb⟩
  replace acc := bnext (w := w) (balloc acc _) hb
  clear hb HR8
  go_wp2_with fail
  refine (owritten_any ⟨#[97, 32, 82, 32, 49]⟩ _ (by decide)).mono ?_
  rintro e w10 ⟨rfl, hb⟩
  replace acc := bnext (w := w) acc hb
  clear hb
  have hts : (OP.wrt ⟨#[97, 32, 82, 32, 49]⟩ (ByteArray.size ⟨#[97, 32, 82, 32, 49]⟩)).size ≤ 1000000000 := by rw [OP.wrt_size]; decide
  have HRU := Lib.hid (oruns_any (OP.wrt ⟨#[97, 32, 82, 32, 49]⟩ (ByteArray.size ⟨#[97, 32, 82, 32, 49]⟩)) g w10 (HL.out _ acc) hts)
  rw [show OP.levels (OP.wrt ⟨#[97, 32, 82, 32, 49]⟩ (ByteArray.size ⟨#[97, 32, 82, 32, 49]⟩)) = [0, 0, 1, 1, 2] from ex_l4, ex_n] at HRU
  generalize OP.wrt ⟨#[97, 32, 82, 32, 49]⟩ (ByteArray.size ⟨#[97, 32, 82, 32, 49]⟩) = T at HRU ⊢
  clear hts
  go_wp2_with fail
  refine HRU.out.mono ?_
  rintro e w11 ⟨u, rfl, ho, hb⟩
  replace acc := bnext (w := w) acc hb
  have HRR := Lib.hid ((own_rn ho).keep (balloc (Below.refl _ _) (.cells (OP.rnc [(0, 2, 0), (2, 4, 1), (4, 5, 2)]).toArray 44)))
  obtain ⟨ua, uc, rfl⟩ := own_shape ho
  clear hb ho
  go_wp2_with fail
  refine (osame_any _ _ [(0, 2, 0), (2, 4, 1), (4, 5, 2)] _ HRR.out (rn_lit w11 [(0, 2, 0), (2, 4, 1), (4, 5, 2)] 3 rfl) (by decide)).mono ?_
  rintro e w12 ⟨rfl, hb⟩
  replace acc := bnext (w := w) (balloc acc _) hb
  go_wp2_with fail
  go_ret
  exact ⟨rfl, acc⟩
end Go.Proofs.YtbgmbcngkmlfeaaDoor
