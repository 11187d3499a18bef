/- The contract of forms.Order. -/
import Derived.Test.YtkacbmimmnlhlaaDoorFrmPlc
import Derived.Test.YtkacbmimmnlhlaaDoorApp
namespace Go.Proofs.YtkacbmimmnlhlaaDoor
set_option linter.unusedVariables false
open Go.RowKit Go.Shelf Go.Deep
theorem lit_row (w : World) (L : List Int) {e : TypeId} : RowAt (w.alloc (.cells (L.map (Value.int .i64)).toArray e)) (.slice (some ⟨w.heap.size, 0, none⟩) L.length L.length) (L.map (Value.int .i64)) :=
  ⟨_, _, by rw [List.length_map], .inr ⟨w.heap.size, 0, rfl, by simp, fun i hi => by
    rw [Nat.zero_add]
    have := World.alloc_heap_new w (.cells (L.map (Value.int .i64)).toArray e)
    have hi' : i < L.length := by simpa using hi
    simp only [World.cell?, this]
    simp [List.getD, List.getElem?_eq_getElem hi']⟩⟩
theorem lit_rowb (w : World) (L : List Bool) {e : TypeId} : RowAt (w.alloc (.cells (L.map Value.bool).toArray e)) (.slice (some ⟨w.heap.size, 0, none⟩) L.length L.length) (L.map Value.bool) :=
  ⟨_, _, by rw [List.length_map], .inr ⟨w.heap.size, 0, rfl, by simp, fun i hi => by
    rw [Nat.zero_add]
    have := World.alloc_heap_new w (.cells (L.map Value.bool).toArray e)
    have hi' : i < L.length := by simpa using hi
    simp only [World.cell?, this]
    simp [List.getD, List.getElem?_eq_getElem hi']⟩⟩

theorem FP.ord_length {s : ByteArray} {f t : Int} : (FP.ord s f t).length ≤ 2 * s.size := by
  unfold FP.ord
  split
  · simp
  · rw [List.length_append]
    have a := FP.plc_length s FP.isB (t - f).toNat f.toNat
    have b := FP.plc_length s FP.isR (t - f).toNat f.toNat
    omega
set_option maxRecDepth 100000 in
set_option maxHeartbeats 4000000 in
theorem order_any (s : ByteArray) (f t : Int) (g : Nat × Nat) (w : World) (hl : Laid w g) (hs : s.size ≤ 1000000000) :
    Calls Tryd.prog 15 #[.string s, .agg #[.int .i64 f, .int .i64 t]] w fun e W' => ∃ v', e = .returned v' ∧ W'.ownsRow w.heap.size 3 1 v' (FP.ord s f t).length ((FP.ord s f t).map (Value.int .i64)) ∧ Below w.heap.size w W' := by
  by_cases h0 : f < 0
  · rw [FP.ord_bad (.inl h0)]
    go_enter Tryd.func15, Tryd.ntmps15
    go_wp2
    go_ret
    exact ⟨_, rfl, World.ownsRow_nil _ _ _ _, balloc (Below.refl _ _) _⟩
  · by_cases h1 : t ≤ f
    · rw [FP.ord_bad (.inr (.inl h1))]
      go_enter Tryd.func15, Tryd.ntmps15
      go_wp2
      go_ret
      exact ⟨_, rfl, World.ownsRow_nil _ _ _ _, balloc (Below.refl _ _) _⟩
    · by_cases h2 : (s.size : Int) < t
      · rw [FP.ord_bad (.inr (.inr h2))]
        go_enter Tryd.func15, Tryd.ntmps15
        go_wp2
        go_ret
        exact ⟨_, rfl, World.ownsRow_nil _ _ _ _, balloc (Below.refl _ _) _⟩
      · obtain ⟨i0, hi, hz0, hz1, hz2⟩ := info_parts info_int
        obtain ⟨f, rfl⟩ : ∃ k : Nat, f = (k : Int) := ⟨f.toNat, by omega⟩
        obtain ⟨t, rfl⟩ : ∃ k : Nat, t = (k : Int) := ⟨t.toNat, by omega⟩
        have hft : f < t := by omega
        have hts : t ≤ s.size := by omega
        rw [FP.ord_good hft hts]
        obtain ⟨W0, hW⟩ : ∃ W, w.alloc (.cells #[.int .i64 (f : Int), .int .i64 (t : Int)] 29) = W := ⟨_, rfl⟩
        have q0 : W0.cell? ⟨w.heap.size, 0, none⟩ = some (.int .i64 (f : Int)) := by rw [← hW]; exact (two_cells (World.alloc_heap_new w _)).1
        have q1 : W0.cell? ⟨w.heap.size, 1, none⟩ = some (.int .i64 (t : Int)) := by rw [← hW]; exact (two_cells (World.alloc_heap_new w _)).2
        have hbW : Below w.heap.size w W0 := by rw [← hW]; exact balloc (Below.refl _ _) _
        have HP1 : Hid (∀ V, Below W0.heap.size W0 V → Calls Tryd.prog 36 #[.string s, .agg #[.int .i64 (f : Int), .int .i64 (t : Int)], .bool true, .slice (some ⟨V.heap.size, 0, none⟩) 1 1] (V.alloc (.cells #[.int .i64 12] 3)) fun e W' => ∃ v', e = .returned v' ∧ W'.ownsRow W0.heap.size 3 1 v' (FP.plc s FP.isB (t - f) f).length ((FP.plc s FP.isB (t - f) f).map (Value.int .i64)) ∧ Below V.heap.size V W') := Lib.hid fun V hV => by
          have hVb : Below V.heap.size V (V.alloc (.cells #[.int .i64 12] 3)) := balloc (Below.refl _ _) _
          refine (places_any s f t true [12] _ g _ (hl.mono (bnext hbW (bnext hV hVb))) hs hft hts (lit_row V [12]) (by decide)).mono ?_
          rintro e W' ⟨v', h1, h2, h3⟩
          rw [FP.isIn_B] at h2
          exact ⟨v', h1, own_base h2 (bnext hV hVb).size, bnext hVb h3⟩
        have HP2 : Hid (∀ V, Below W0.heap.size W0 V → Calls Tryd.prog 36 #[.string s, .agg #[.int .i64 (f : Int), .int .i64 (t : Int)], .bool false, .slice (some ⟨V.heap.size, 0, none⟩) 3 3] (V.alloc (.cells #[.int .i64 12, .int .i64 13, .int .i64 14] 3)) fun e W' => ∃ v', e = .returned v' ∧ W'.ownsRow W0.heap.size 3 1 v' (FP.plc s FP.isR (t - f) f).length ((FP.plc s FP.isR (t - f) f).map (Value.int .i64)) ∧ Below V.heap.size V W') := Lib.hid fun V hV => by
          have hVb : Below V.heap.size V (V.alloc (.cells #[.int .i64 12, .int .i64 13, .int .i64 14] 3)) := balloc (Below.refl _ _) _
          refine (places_any s f t false [12, 13, 14] _ g _ (hl.mono (bnext hbW (bnext hV hVb))) hs hft hts (lit_row V [12, 13, 14]) (by decide)).mono ?_
          rintro e W' ⟨v', h1, h2, h3⟩
          rw [FP.isIn_R] at h2
          exact ⟨v', h1, own_base h2 (bnext hV hVb).size, bnext hVb h3⟩
        have hl1 := FP.plc_length s FP.isB (t - f) f
        have hl2 := FP.plc_length s FP.isR (t - f) f
        generalize FP.plc s FP.isB (t - f) f = A at HP1 hl1 ⊢
        generalize FP.plc s FP.isR (t - f) f = B at HP2 hl2 ⊢
        have HBW := Lib.hid hbW
        clear hl hbW
        go_enter Tryd.func15, Tryd.ntmps15
        go_wp2_with fail
        try rw [hW]
        clear hW
        refine (HP1.out W0 (Below.refl _ _)).mono ?_
        rintro e w1 ⟨v1, rfl, o1, hb1⟩
        replace q0 := (hb1.cell (World.block_lt_of_cell? _ _ q0)).trans q0
        replace q1 := (hb1.cell (World.block_lt_of_cell? _ _ q1)).trans q1
        obtain ⟨a1, c1, rfl⟩ := own_shape o1
        have HO1 := Lib.hid o1
        have HB1 := Lib.hid hb1
        clear o1 hb1 HP1
        go_wp2_with fail
        refine (HP2.out w1 HB1.out).mono ?_
        rintro e w2 ⟨v2, rfl, o2, hb2⟩
        have o1 := own_below HO1.out hb2
        have s2 := own_src o2 (by rw [List.length_map])
        obtain ⟨a2, c2, rfl⟩ := own_shape o2
        have HB2 := Lib.hid (bnext HB1.out hb2)
        have hb2s := HB2.out.size
        clear o2 hb2 HP2 HO1
        go_wp2_with (at_builtin; refine wpList_app _ rfl _ _ 22 rfl W0.heap.size 3 i0 (.int .i64 0) 8 Tryd.underlying22 hi hz0 hz1 hz2 rfl _ _ _ rfl o1 _ (B.map (Value.int .i64)) rfl s2 (ints_one _) ?ca ?cb ?cc ?_)
        case ca => rw [List.length_map]; unfold maxLen; omega
        case cb => rw [List.length_map]; omega
        case cc => omega
        intro v' w3 ho hgr _
        have hb3 : Below W0.heap.size W0 w3 := (HB2.out).grown hgr hb2s (fun j hj => (o1.lt j hj).1)
        try rw [List.length_map] at ho
        have HO := Lib.hid ho
        have HB3 := Lib.hid hb3
        clear ho hgr hb3 o1 s2
        go_wp2_with fail
        go_ret
        exact ⟨_, rfl, by rw [List.length_append, List.map_append]; exact own_base HO.out HBW.out.size, bnext HBW.out HB3.out⟩
end Go.Proofs.YtkacbmimmnlhlaaDoor
