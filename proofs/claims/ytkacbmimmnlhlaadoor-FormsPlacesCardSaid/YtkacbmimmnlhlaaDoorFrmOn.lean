/- The contracts of the reader's methods: canFollow, joinsOn, joinedTo. -/
import Derived.Test.YtkacbmimmnlhlaaDoorFrmHead
namespace Go.Proofs.YtkacbmimmnlhlaaDoor
set_option linter.unusedVariables false
open Go.RowKit Go.Shelf Go.Deep
set_option maxRecDepth 100000 in
set_option maxHeartbeats 4000000 in
theorem fol_any (s : ByteArray) (v : Value) (k : Nat) (z : Int) (hz : z = (k : Int)) (g : Nat × Nat) (w : World) (hl : Laid w g) (hs : s.size ≤ 1000000000) (hv : SrcP w v (CP.split s)) :
    Calls Tryd.prog 41 #[.agg #[.string s, v], .int .i64 z] w fun e w' => e = .returned (.bool (FP.fol s (CP.split s) k)) ∧ Below w.heap.size w w' := by
  subst hz
  obtain ⟨ao, cc, hvs, _⟩ := id hv
  subst hvs
  obtain ⟨n, hn⟩ : ∃ n, (CP.split s).length = n := ⟨_, rfl⟩
  rw [hn]
  obtain ⟨W, hW⟩ : ∃ W, w.alloc (.cells #[.string s, .slice ao n cc] 50) = W := ⟨_, rfl⟩
  have q0 : W.cell? ⟨w.heap.size, 0, none⟩ = some (.string s) := by rw [← hW]; exact (two_cells (World.alloc_heap_new w _)).1
  have q1 : W.cell? ⟨w.heap.size, 1, none⟩ = some (.slice ao n cc) := by rw [← hW]; exact (two_cells (World.alloc_heap_new w _)).2
  have hbW : Below w.heap.size w W := by rw [← hW]; exact balloc (Below.refl _ _) _
  have HLV : Hid (∀ B, Below W.heap.size W B → Laid B g ∧ SrcP B (.slice ao n cc) (CP.split s)) := Lib.hid fun B hB => ⟨hl.mono (bnext hbW hB), by have := hv.keep (bnext hbW hB); rwa [hn] at this⟩
  by_cases hk : k < n
  · obtain ⟨x, hx⟩ : ∃ x, (CP.split s)[k]? = some x := ⟨_, List.getElem?_eq_getElem (hn ▸ hk)⟩
    rw [FP.fol_at hx]
    have HH : Hid (∀ V, Below W.heap.size W V → Calls Tryd.prog 28 #[.agg #[.string s, .slice ao n cc], .int .i64 (k : Int)] V fun e w' => e = .returned (.int .i64 (FP.hd s x)) ∧ Below V.heap.size V w') := Lib.hid fun V hV => head_any s _ k x g V (HLV.out V hV).1 hs (HLV.out V hV).2 hx
    generalize FP.hd s x = c at HH ⊢
    have hki : (k : Int) < (n : Int) := by omega
    clear hx HLV hv hl hn
    go_enter Tryd.func41, Tryd.ntmps41
    by_cases h7 : c = 7
    · subst h7
      rw [FP.lt_7 rfl]
      go_wp2_with (go_at_call 28; refine (HH.out _ (by (repeat' (first | exact Below.refl _ _ | (with_reducible assumption) | (refine bnext ?_ (by with_reducible assumption)) | (refine balloc ?_ _) | (refine below_drewN ?_ _) | (refine Below.drew ?_))))).mono ?_; rintro e w5 ⟨rfl, hb_w5⟩; replace q0 := (hb_w5.cell (World.block_lt_of_cell? _ _ q0)).trans q0; replace q1 := (hb_w5.cell (World.block_lt_of_cell? _ _ q1)).trans q1)
      go_ret
      exact ⟨rfl, by (repeat' (first | exact Below.refl _ _ | (with_reducible assumption) | (refine bnext ?_ (by with_reducible assumption)) | (refine balloc ?_ _) | (refine below_drewN ?_ _) | (refine Below.drew ?_)))⟩
    · have b7 : (c == 7) = false := by simpa using h7
      by_cases h8 : c = 8
      · subst h8
        rw [show FP.lt 8 = true from rfl]
        go_wp2_with (go_at_call 28; refine (HH.out _ (by (repeat' (first | exact Below.refl _ _ | (with_reducible assumption) | (refine bnext ?_ (by with_reducible assumption)) | (refine balloc ?_ _) | (refine below_drewN ?_ _) | (refine Below.drew ?_))))).mono ?_; rintro e w5 ⟨rfl, hb_w5⟩; replace q0 := (hb_w5.cell (World.block_lt_of_cell? _ _ q0)).trans q0; replace q1 := (hb_w5.cell (World.block_lt_of_cell? _ _ q1)).trans q1)
        go_ret
        exact ⟨rfl, by (repeat' (first | exact Below.refl _ _ | (with_reducible assumption) | (refine bnext ?_ (by with_reducible assumption)) | (refine balloc ?_ _) | (refine below_drewN ?_ _) | (refine Below.drew ?_)))⟩
      · have b8 : (c == 8) = false := by simpa using h8
        rw [show FP.lt c = false by unfold FP.lt; simp [h7, h8]]
        go_wp2_with (go_at_call 28; refine (HH.out _ (by (repeat' (first | exact Below.refl _ _ | (with_reducible assumption) | (refine bnext ?_ (by with_reducible assumption)) | (refine balloc ?_ _) | (refine below_drewN ?_ _) | (refine Below.drew ?_))))).mono ?_; rintro e w5 ⟨rfl, hb_w5⟩; replace q0 := (hb_w5.cell (World.block_lt_of_cell? _ _ q0)).trans q0; replace q1 := (hb_w5.cell (World.block_lt_of_cell? _ _ q1)).trans q1)
        go_ret
        exact ⟨rfl, by (repeat' (first | exact Below.refl _ _ | (with_reducible assumption) | (refine bnext ?_ (by with_reducible assumption)) | (refine balloc ?_ _) | (refine below_drewN ?_ _) | (refine Below.drew ?_)))⟩
  · rw [FP.fol_no (by omega)]
    have hki : ¬ (k : Int) < (n : Int) := by omega
    clear HLV hv hl hn
    go_enter Tryd.func41, Tryd.ntmps41
    go_wp2_with fail
    go_ret
    exact ⟨rfl, by (repeat' (first | exact Below.refl _ _ | (with_reducible assumption) | (refine bnext ?_ (by with_reducible assumption)) | (refine balloc ?_ _) | (refine below_drewN ?_ _) | (refine Below.drew ?_)))⟩
set_option maxRecDepth 100000 in
set_option maxHeartbeats 4000000 in
theorem on_any (s : ByteArray) (v : Value) (k : Nat) (z : Int) (hz : z = (k : Int)) (g : Nat × Nat) (w : World) (hl : Laid w g) (hs : s.size ≤ 1000000000) (hv : SrcP w v (CP.split s)) (hk : k < (CP.split s).length) :
    Calls Tryd.prog 30 #[.agg #[.string s, v], .int .i64 z] w fun e w' => e = .returned (.bool (FP.onx s (CP.split s) k)) ∧ Below w.heap.size w w' := by
  subst hz
  obtain ⟨ao, cc, hvs, _⟩ := id hv
  subst hvs
  obtain ⟨n, hn⟩ : ∃ n, (CP.split s).length = n := ⟨_, rfl⟩
  rw [hn] at hk ⊢
  obtain ⟨W, hW⟩ : ∃ W, w.alloc (.cells #[.string s, .slice ao n cc] 50) = W := ⟨_, rfl⟩
  have q0 : W.cell? ⟨w.heap.size, 0, none⟩ = some (.string s) := by rw [← hW]; exact (two_cells (World.alloc_heap_new w _)).1
  have q1 : W.cell? ⟨w.heap.size, 1, none⟩ = some (.slice ao n cc) := by rw [← hW]; exact (two_cells (World.alloc_heap_new w _)).2
  have hbW : Below w.heap.size w W := by rw [← hW]; exact balloc (Below.refl _ _) _
  have HLV : Hid (∀ B, Below W.heap.size W B → Laid B g ∧ SrcP B (.slice ao n cc) (CP.split s)) := Lib.hid fun B hB => ⟨hl.mono (bnext hbW hB), by have := hv.keep (bnext hbW hB); rwa [hn] at this⟩
  obtain ⟨x, hx⟩ : ∃ x, (CP.split s)[k]? = some x := ⟨_, List.getElem?_eq_getElem (hn ▸ hk)⟩
  rw [FP.onx_at hx]
  have HH : Hid (∀ V, Below W.heap.size W V → Calls Tryd.prog 28 #[.agg #[.string s, .slice ao n cc], .int .i64 (k : Int)] V fun e w' => e = .returned (.int .i64 (FP.hd s x)) ∧ Below V.heap.size V w') := Lib.hid fun V hV => head_any s _ k x g V (HLV.out V hV).1 hs (HLV.out V hV).2 hx
  have HE : Hid (∀ V, Below W.heap.size W V → Calls Tryd.prog 42 #[.agg #[.string s, .slice ao n cc], .int .i64 (k : Int)] V fun e w' => e = .returned (.int .i64 (FP.en s x)) ∧ Below V.heap.size V w') := Lib.hid fun V hV => end_any s _ k x g V (HLV.out V hV).1 hs (HLV.out V hV).2 hx
  have HF : Hid (∀ V, Below W.heap.size W V → Calls Tryd.prog 41 #[.agg #[.string s, .slice ao n cc], .int .i64 ((k : Int) + 1)] V fun e w' => e = .returned (.bool (FP.fol s (CP.split s) (k + 1))) ∧ Below V.heap.size V w') := Lib.hid fun V hV => fol_any s _ (k + 1) _ (by omega) g V (HLV.out V hV).1 hs (HLV.out V hV).2
  have hn1 : n ≤ 1000000000 := by have := CP.split_length s; omega
  have hwk : wrap64 ((k : Int) + 1) = (k : Int) + 1 := by unfold wrap64; omega
  have hwk2 : IntKind.i64.wrap ((k : Int) + 1) = (k : Int) + 1 := by rw [IntKind.wrap_i64]; omega
  generalize FP.hd s x = c at HH ⊢
  generalize FP.en s x = d at HE ⊢
  generalize FP.fol s (CP.split s) (k + 1) = q at HF ⊢
  clear hx HLV hv hl hn
  go_enter Tryd.func30, Tryd.ntmps30
  by_cases h7 : c = 7
  · subst h7
    by_cases h14 : d = 14
    · subst h14
      go_wp2_with (first | (go_at_call 28; refine (HH.out _ (by (repeat' (first | exact Below.refl _ _ | (with_reducible assumption) | (refine bnext ?_ (by with_reducible assumption)) | (refine balloc ?_ _) | (refine below_drewN ?_ _) | (refine Below.drew ?_))))).mono ?_; rintro e w5 ⟨rfl, hb_w5⟩; replace q0 := (hb_w5.cell (World.block_lt_of_cell? _ _ q0)).trans q0; replace q1 := (hb_w5.cell (World.block_lt_of_cell? _ _ q1)).trans q1) | (go_at_call 42; refine (HE.out _ (by (repeat' (first | exact Below.refl _ _ | (with_reducible assumption) | (refine bnext ?_ (by with_reducible assumption)) | (refine balloc ?_ _) | (refine below_drewN ?_ _) | (refine Below.drew ?_))))).mono ?_; rintro e w6 ⟨rfl, hb_w6⟩; replace q0 := (hb_w6.cell (World.block_lt_of_cell? _ _ q0)).trans q0; replace q1 := (hb_w6.cell (World.block_lt_of_cell? _ _ q1)).trans q1))
      go_ret
      exact ⟨rfl, by (repeat' (first | exact Below.refl _ _ | (with_reducible assumption) | (refine bnext ?_ (by with_reducible assumption)) | (refine balloc ?_ _) | (refine below_drewN ?_ _) | (refine Below.drew ?_)))⟩
    · have b14 : (d == 14) = false := by simpa using h14
      by_cases h13 : d = 13
      · subst h13
        go_wp2_with (first | (go_at_call 28; refine (HH.out _ (by (repeat' (first | exact Below.refl _ _ | (with_reducible assumption) | (refine bnext ?_ (by with_reducible assumption)) | (refine balloc ?_ _) | (refine below_drewN ?_ _) | (refine Below.drew ?_))))).mono ?_; rintro e w5 ⟨rfl, hb_w5⟩; replace q0 := (hb_w5.cell (World.block_lt_of_cell? _ _ q0)).trans q0; replace q1 := (hb_w5.cell (World.block_lt_of_cell? _ _ q1)).trans q1) | (go_at_call 42; refine (HE.out _ (by (repeat' (first | exact Below.refl _ _ | (with_reducible assumption) | (refine bnext ?_ (by with_reducible assumption)) | (refine balloc ?_ _) | (refine below_drewN ?_ _) | (refine Below.drew ?_))))).mono ?_; rintro e w6 ⟨rfl, hb_w6⟩; replace q0 := (hb_w6.cell (World.block_lt_of_cell? _ _ q0)).trans q0; replace q1 := (hb_w6.cell (World.block_lt_of_cell? _ _ q1)).trans q1))
        go_ret
        exact ⟨rfl, by (repeat' (first | exact Below.refl _ _ | (with_reducible assumption) | (refine bnext ?_ (by with_reducible assumption)) | (refine balloc ?_ _) | (refine below_drewN ?_ _) | (refine Below.drew ?_)))⟩
      · have b13 : (d == 13) = false := by simpa using h13
        rw [decide_eq_false h14, decide_eq_false h13, decide_eq_true (rfl : (7 : Int) = 7)]
        simp only [Bool.true_and, Bool.not_false, Bool.false_or]
        go_wp2_with (first | (go_at_call 28; refine (HH.out _ (by (repeat' (first | exact Below.refl _ _ | (with_reducible assumption) | (refine bnext ?_ (by with_reducible assumption)) | (refine balloc ?_ _) | (refine below_drewN ?_ _) | (refine Below.drew ?_))))).mono ?_; rintro e w5 ⟨rfl, hb_w5⟩; replace q0 := (hb_w5.cell (World.block_lt_of_cell? _ _ q0)).trans q0; replace q1 := (hb_w5.cell (World.block_lt_of_cell? _ _ q1)).trans q1) | (go_at_call 42; refine (HE.out _ (by (repeat' (first | exact Below.refl _ _ | (with_reducible assumption) | (refine bnext ?_ (by with_reducible assumption)) | (refine balloc ?_ _) | (refine below_drewN ?_ _) | (refine Below.drew ?_))))).mono ?_; rintro e w6 ⟨rfl, hb_w6⟩; replace q0 := (hb_w6.cell (World.block_lt_of_cell? _ _ q0)).trans q0; replace q1 := (hb_w6.cell (World.block_lt_of_cell? _ _ q1)).trans q1) | (go_at_call 41; refine (HF.out _ (by (repeat' (first | exact Below.refl _ _ | (with_reducible assumption) | (refine bnext ?_ (by with_reducible assumption)) | (refine balloc ?_ _) | (refine below_drewN ?_ _) | (refine Below.drew ?_))))).mono ?_; rintro e w8 ⟨rfl, hb_w8⟩; replace q0 := (hb_w8.cell (World.block_lt_of_cell? _ _ q0)).trans q0; replace q1 := (hb_w8.cell (World.block_lt_of_cell? _ _ q1)).trans q1))
        go_ret
        exact ⟨rfl, by (repeat' (first | exact Below.refl _ _ | (with_reducible assumption) | (refine bnext ?_ (by with_reducible assumption)) | (refine balloc ?_ _) | (refine below_drewN ?_ _) | (refine Below.drew ?_)))⟩
  · have b7 : (c != 7) = true := by simpa using h7
    have b7' : (c == 7) = false := by simpa using h7
    rw [decide_eq_false h7, Bool.false_and]
    go_wp2_with (first | (go_at_call 28; refine (HH.out _ (by (repeat' (first | exact Below.refl _ _ | (with_reducible assumption) | (refine bnext ?_ (by with_reducible assumption)) | (refine balloc ?_ _) | (refine below_drewN ?_ _) | (refine Below.drew ?_))))).mono ?_; rintro e w5 ⟨rfl, hb_w5⟩; replace q0 := (hb_w5.cell (World.block_lt_of_cell? _ _ q0)).trans q0; replace q1 := (hb_w5.cell (World.block_lt_of_cell? _ _ q1)).trans q1) | (go_at_call 42; refine (HE.out _ (by (repeat' (first | exact Below.refl _ _ | (with_reducible assumption) | (refine bnext ?_ (by with_reducible assumption)) | (refine balloc ?_ _) | (refine below_drewN ?_ _) | (refine Below.drew ?_))))).mono ?_; rintro e w6 ⟨rfl, hb_w6⟩; replace q0 := (hb_w6.cell (World.block_lt_of_cell? _ _ q0)).trans q0; replace q1 := (hb_w6.cell (World.block_lt_of_cell? _ _ q1)).trans q1))
    go_ret
    exact ⟨rfl, by (repeat' (first | exact Below.refl _ _ | (with_reducible assumption) | (refine bnext ?_ (by with_reducible assumption)) | (refine balloc ?_ _) | (refine below_drewN ?_ _) | (refine Below.drew ?_)))⟩
set_option maxRecDepth 100000 in
set_option maxHeartbeats 4000000 in
theorem to_any (s : ByteArray) (v : Value) (k : Nat) (z : Int) (hz : z = (k : Int)) (g : Nat × Nat) (w : World) (hl : Laid w g) (hs : s.size ≤ 1000000000) (hv : SrcP w v (CP.split s)) (hk : k < (CP.split s).length) :
    Calls Tryd.prog 29 #[.agg #[.string s, v], .int .i64 z] w fun e w' => e = .returned (.bool (FP.tox s (CP.split s) k)) ∧ Below w.heap.size w w' := by
  subst hz
  obtain ⟨ao, cc, hvs, _⟩ := id hv
  subst hvs
  obtain ⟨n, hn⟩ : ∃ n, (CP.split s).length = n := ⟨_, rfl⟩
  rw [hn] at hk ⊢
  obtain ⟨W, hW⟩ : ∃ W, w.alloc (.cells #[.string s, .slice ao n cc] 50) = W := ⟨_, rfl⟩
  have q0 : W.cell? ⟨w.heap.size, 0, none⟩ = some (.string s) := by rw [← hW]; exact (two_cells (World.alloc_heap_new w _)).1
  have q1 : W.cell? ⟨w.heap.size, 1, none⟩ = some (.slice ao n cc) := by rw [← hW]; exact (two_cells (World.alloc_heap_new w _)).2
  have hbW : Below w.heap.size w W := by rw [← hW]; exact balloc (Below.refl _ _) _
  have HLV : Hid (∀ B, Below W.heap.size W B → Laid B g ∧ SrcP B (.slice ao n cc) (CP.split s)) := Lib.hid fun B hB => ⟨hl.mono (bnext hbW hB), by have := hv.keep (bnext hbW hB); rwa [hn] at this⟩
  have hn1 : n ≤ 1000000000 := by have := CP.split_length s; omega
  have HF : Hid (∀ V, Below W.heap.size W V → Calls Tryd.prog 41 #[.agg #[.string s, .slice ao n cc], .int .i64 (k : Int)] V fun e w' => e = .returned (.bool (FP.fol s (CP.split s) k)) ∧ Below V.heap.size V w') := Lib.hid fun V hV => fol_any s _ k _ rfl g V (HLV.out V hV).1 hs (HLV.out V hV).2
  rcases k with _ | j
  · rw [show FP.tox s (CP.split s) 0 = false from rfl]
    clear HLV hv hl hn HF
    go_enter Tryd.func29, Tryd.ntmps29
    go_wp2_with fail
    go_ret
    exact ⟨rfl, by (repeat' (first | exact Below.refl _ _ | (with_reducible assumption) | (refine bnext ?_ (by with_reducible assumption)) | (refine balloc ?_ _) | (refine below_drewN ?_ _) | (refine Below.drew ?_)))⟩
  · have hji : (((j + 1 : Nat) : Int)) - 1 = (j : Int) := by omega
    have hj0 : decide ((0 : Int) < ((j + 1 : Nat) : Int)) = true := decide_eq_true (by omega)
    have HO : Hid (∀ V, Below W.heap.size W V → Calls Tryd.prog 30 #[.agg #[.string s, .slice ao n cc], .int .i64 (j : Int)] V fun e w' => e = .returned (.bool (FP.onx s (CP.split s) j)) ∧ Below V.heap.size V w') := Lib.hid fun V hV => on_any s _ j _ rfl g V (HLV.out V hV).1 hs (HLV.out V hV).2 (by omega)
    have hto : FP.tox s (CP.split s) (j + 1) = (FP.fol s (CP.split s) (j + 1) && FP.onx s (CP.split s) j) := by unfold FP.tox; simp
    rw [hto]
    generalize FP.fol s (CP.split s) (j + 1) = q at HF ⊢
    generalize FP.onx s (CP.split s) j = r at HO ⊢
    clear HLV hv hl hn hto
    obtain ⟨k, hkk⟩ : ∃ k, j + 1 = k := ⟨_, rfl⟩
    rw [hkk] at hji hj0 HF hk ⊢
    have hkp : 0 < k := by omega
    have hkp2 : decide (0 < k) = true := decide_eq_true hkp
    have hwk : wrap64 (j : Int) = (j : Int) := by unfold wrap64; omega
    have hwk2 : IntKind.i64.wrap (j : Int) = (j : Int) := by rw [IntKind.wrap_i64]; omega
    clear hkk
    go_enter Tryd.func29, Tryd.ntmps29
    cases q with
    | false =>
      go_wp2_with (first | (go_at_call 41; refine (HF.out _ (by (repeat' (first | exact Below.refl _ _ | (with_reducible assumption) | (refine bnext ?_ (by with_reducible assumption)) | (refine balloc ?_ _) | (refine below_drewN ?_ _) | (refine Below.drew ?_))))).mono ?_; rintro e w5 ⟨rfl, hb_w5⟩; replace q0 := (hb_w5.cell (World.block_lt_of_cell? _ _ q0)).trans q0; replace q1 := (hb_w5.cell (World.block_lt_of_cell? _ _ q1)).trans q1) | (go_at_call 30; refine (HO.out _ (by (repeat' (first | exact Below.refl _ _ | (with_reducible assumption) | (refine bnext ?_ (by with_reducible assumption)) | (refine balloc ?_ _) | (refine below_drewN ?_ _) | (refine Below.drew ?_))))).mono ?_; rintro e w6 ⟨rfl, hb_w6⟩; replace q0 := (hb_w6.cell (World.block_lt_of_cell? _ _ q0)).trans q0; replace q1 := (hb_w6.cell (World.block_lt_of_cell? _ _ q1)).trans q1))
      go_ret
      exact ⟨rfl, by (repeat' (first | exact Below.refl _ _ | (with_reducible assumption) | (refine bnext ?_ (by with_reducible assumption)) | (refine balloc ?_ _) | (refine below_drewN ?_ _) | (refine Below.drew ?_)))⟩
    | true =>
      rw [Bool.true_and]
      go_wp2_with (first | (go_at_call 41; refine (HF.out _ (by (repeat' (first | exact Below.refl _ _ | (with_reducible assumption) | (refine bnext ?_ (by with_reducible assumption)) | (refine balloc ?_ _) | (refine below_drewN ?_ _) | (refine Below.drew ?_))))).mono ?_; rintro e w5 ⟨rfl, hb_w5⟩; replace q0 := (hb_w5.cell (World.block_lt_of_cell? _ _ q0)).trans q0; replace q1 := (hb_w5.cell (World.block_lt_of_cell? _ _ q1)).trans q1) | (go_at_call 30; refine (HO.out _ (by (repeat' (first | exact Below.refl _ _ | (with_reducible assumption) | (refine bnext ?_ (by with_reducible assumption)) | (refine balloc ?_ _) | (refine below_drewN ?_ _) | (refine Below.drew ?_))))).mono ?_; rintro e w6 ⟨rfl, hb_w6⟩; replace q0 := (hb_w6.cell (World.block_lt_of_cell? _ _ q0)).trans q0; replace q1 := (hb_w6.cell (World.block_lt_of_cell? _ _ q1)).trans q1))
      go_ret
      exact ⟨rfl, by (repeat' (first | exact Below.refl _ _ | (with_reducible assumption) | (refine bnext ?_ (by with_reducible assumption)) | (refine balloc ?_ _) | (refine below_drewN ?_ _) | (refine Below.drew ?_)))⟩
end Go.Proofs.YtkacbmimmnlhlaaDoor
