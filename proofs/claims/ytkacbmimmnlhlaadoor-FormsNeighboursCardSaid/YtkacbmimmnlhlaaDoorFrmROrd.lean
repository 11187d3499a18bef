/- The contract of the reference's Order. -/
import Derived.Test.YtkacbmimmnlhlaaDoorFrmRForms
namespace Go.Proofs.YtkacbmimmnlhlaaDoor
set_option linter.unusedVariables false
open Go.RowKit Go.Shelf Go.Deep
theorem plc_next (s : ByteArray) (P : Int → Bool) (f i : Nat) (h : f ≤ i) : FP.plc s P (i + 1 - f) f = FP.plc s P (i - f) f ++ (if P (CP.cl s i) then [(i : Int)] else []) := by
  rw [show i + 1 - f = (i - f) + 1 by omega, FP.plc_snoc, show f + (i - f) = i by omega]
set_option maxRecDepth 100000 in
set_option maxHeartbeats 4000000 in
theorem rorder_any (s : ByteArray) (f t : Int) (w : World) (hs : s.size ≤ 1000000000) :
    Calls Tryd.prog 16 #[.string s, .agg #[.int .i64 f, .int .i64 t]] w fun e W' => ∃ v', e = .returned v' ∧ W'.ownsRow w.heap.size 3 1 v' (FP.ord s f t).length ((FP.ord s f t).map (Value.int .i64)) ∧ Below w.heap.size w W' := by
  by_cases h0 : f < 0
  · rw [FP.ord_bad (.inl h0)]
    go_enter Tryd.func16, Tryd.ntmps16
    go_wp2
    go_ret
    exact ⟨_, rfl, World.ownsRow_nil _ _ _ _, balloc (Below.refl _ _) _⟩
  · by_cases h1 : t ≤ f
    · rw [FP.ord_bad (.inr (.inl h1))]
      go_enter Tryd.func16, Tryd.ntmps16
      go_wp2
      go_ret
      exact ⟨_, rfl, World.ownsRow_nil _ _ _ _, balloc (Below.refl _ _) _⟩
    · by_cases h2 : (s.size : Int) < t
      · rw [FP.ord_bad (.inr (.inr h2))]
        go_enter Tryd.func16, Tryd.ntmps16
        go_wp2
        go_ret
        exact ⟨_, rfl, World.ownsRow_nil _ _ _ _, balloc (Below.refl _ _) _⟩
      · obtain ⟨i0, hi, hz0, hz1, hz2⟩ := info_parts info_int
        obtain ⟨f, rfl⟩ : ∃ k : Nat, f = (k : Int) := ⟨f.toNat, by omega⟩
        obtain ⟨t, rfl⟩ : ∃ k : Nat, t = (k : Int) := ⟨t.toNat, by omega⟩
        have hft : f < t := by omega
        have hts : t ≤ s.size := by omega
        rw [FP.ord_good hft hts]
        obtain ⟨W0, hW⟩ : ∃ W, w.alloc (.cells #[.int .i64 (f : Int), .int .i64 (t : Int)] 29) = W := ⟨_, rfl⟩
        have q0 : W0.cell? ⟨w.heap.size, 0, none⟩ = some (.int .i64 (f : Int)) := by rw [← hW]; exact (two_cells (World.alloc_heap_new w _)).1
        have q1 : W0.cell? ⟨w.heap.size, 1, none⟩ = some (.int .i64 (t : Int)) := by rw [← hW]; exact (two_cells (World.alloc_heap_new w _)).2
        have hbW : Below w.heap.size w W0 := by rw [← hW]; exact balloc (Below.refl _ _) _
        have HBW := Lib.hid hbW
        have HPB := Lib.hid (plc_next s FP.isB f)
        have HPR := Lib.hid (plc_next s FP.isR f)
        have HLB := Lib.hid fun i => FP.plc_length s FP.isB (i - f) f
        have HLR := Lib.hid fun i => FP.plc_length s FP.isR (i - f) f
        obtain ⟨PA, hPA⟩ : ∃ A, FP.plc s FP.isB (t - f) f = A := ⟨_, rfl⟩
        obtain ⟨PB, hPB⟩ : ∃ B, FP.plc s FP.isR (t - f) f = B := ⟨_, rfl⟩
        rw [hPA, hPB]
        have HPA := Lib.hid hPA
        have HPB2 := Lib.hid hPB
        clear hbW hPA hPB
        go_enter Tryd.func16, Tryd.ntmps16
        go_wp2_with fail
        try rw [hW]
        clear hW
        go_wp2_with fail
        go_loopw [5, 6, 7] (fun v5 v6 v7 wr => ∃ i : Nat, v7 = .int .i64 i ∧ f ≤ i ∧ i ≤ t ∧ wr.ownsRow W0.heap.size 3 1 v5 (FP.plc s FP.isB (i - f) f).length ((FP.plc s FP.isB (i - f) f).map (Value.int .i64)) ∧ wr.ownsRow W0.heap.size 3 1 v6 (FP.plc s FP.isR (i - f) f).length ((FP.plc s FP.isR (i - f) f).map (Value.int .i64)) ∧ Hid (∀ q, v5.ownBlock = some q → v6.ownBlock ≠ some q) ∧ Below W0.heap.size W0 wr) (fun _ _ v _ => t - (intOf v).toNat)
        case atStart => exact ⟨f, rfl, Nat.le_refl _, by omega, by rw [Nat.sub_self]; exact World.ownsRow_nil _ _ _ _, by rw [Nat.sub_self]; exact World.ownsRow_nil _ _ _ _, Lib.hid (fun q h => by simp [Value.ownBlock] at h), Below.refl _ _⟩
        case round =>
          obtain ⟨i, rfl, hfi, hit, hrow5, hrow6, HD, hb⟩ := hrel
          have hbs := hb.size
          have d0 := (hb.cell (World.block_lt_of_cell? _ _ q0)).trans q0
          have d1 := (hb.cell (World.block_lt_of_cell? _ _ q1)).trans q1
          by_cases h1 : i < t
          · have h1i : (i : Int) < (t : Int) := by omega
            have his : i < s.size := by omega
            have hisi : (i : Int) < (s.size : Int) := by omega
            have hby : (s[i].toNat : Int) ≤ 255 := by have := s[i].toNat_lt; omega
            have hpb := HPB.out i hfi
            have hpr := HPR.out i hfi
            rw [CP.cl, CP.ch_at his] at hpb hpr
            have hlb := HLB.out i
            have hlr := HLR.out i
            generalize FP.plc s FP.isB (i - f) f = A at hrow5 hpb hlb
            generalize FP.plc s FP.isR (i - f) f = B at hrow6 hpr hlr
            have HCA := Lib.hid fun V => rclass_any ((s[i].toNat : Nat) : Int) V
            generalize FC.cls ((s[i].toNat : Nat) : Int) = c at HCA hpb hpr
            have HA := Lib.hid hpb
            have HBB := Lib.hid hpr
            have HB := Lib.hid hb
            have HR5 := Lib.hid hrow5
            have HR6 := Lib.hid hrow6
            obtain ⟨va, vc, rfl⟩ := own_shape hrow5
            obtain ⟨ua, uc, rfl⟩ := own_shape hrow6
            clear hpb hpr hb hrow5 hrow6 HPB HPR HLB HLR
            by_cases c12 : c = 12
            · subst c12
              replace HA := Lib.hid (show FP.plc s FP.isB (i + 1 - f) f = A ++ [(i : Int)] from HA.out)
              replace HBB := Lib.hid (show FP.plc s FP.isR (i + 1 - f) f = B by rw [HBB.out]; simp [FP.isR])
              go_wp2_with fail
              refine (HCA.out _).mono ?_
              rintro e _ ⟨rfl, rfl⟩
              go_wp2_with (at_builtin; refine wpList_append_own_at _ rfl _ _ 22 rfl W0.heap.size 3 i0 (.int .i64 0) 1 8 Tryd.underlying22 hi hz0 hz1 hz2 rfl (by decide) _ _ _ rfl (HR5.out.alloc _) ⟨wr.heap.size, 0, none⟩ 1 1 [.int .i64 (i : Int)] rfl rfl (cell_one_new wr _ _) (by simp [Value.oneCell']) (by unfold maxLen; omega) (by omega) (by simp; omega) ?_; intro v' w3 hown hgrow _ hat; obtain ⟨g3, capg3, rfl⟩ := ownsRow_succ hown)
              have h6 := own_of_grown (HR6.out.alloc _) hgrow (fun q h6 h5 => HD.out q h5 h6)
              go_roundw
              case rel =>
                refine ⟨i + 1, by go_num, by omega, h1, by rw [HA.out]; simpa using hown, by rw [HBB.out]; exact h6, Lib.hid fun q h4 h5 => ?_, span_app HR5.out HB.out hgrow⟩
                have h5l := (HR6.out.lt q h5).2
                rcases hat with e | e
                · exact HD.out q (Eq.trans (Eq.symm e) h4) h5
                · have := Eq.trans (Eq.symm e) h4
                  simp only [World.size_alloc, Option.some.injEq] at this
                  omega
              case measure => simp [intOf]; omega
            · have b12 : (c == 12) = false := by simpa using c12
              replace HA := Lib.hid (show FP.plc s FP.isB (i + 1 - f) f = A by rw [HA.out]; simp [FP.isB, c12])
              by_cases c13 : c = 13
              · subst c13
                replace HBB := Lib.hid (show FP.plc s FP.isR (i + 1 - f) f = B by rw [HBB.out]; simp [FP.isR])
                go_wp2_with fail
                refine (HCA.out _).mono ?_
                rintro e _ ⟨rfl, rfl⟩
                go_wp2_with fail
                go_roundw
                case rel => exact ⟨i + 1, by go_num, by omega, h1, by rw [HA.out]; exact HR5.out, by rw [HBB.out]; exact HR6.out, HD, HB.out⟩
                case measure => simp [intOf]; omega
              · have b13 : (c != 13) = true := by simpa using c13
                by_cases c14 : c = 14
                · subst c14
                  replace HBB := Lib.hid (show FP.plc s FP.isR (i + 1 - f) f = B by rw [HBB.out]; simp [FP.isR])
                  go_wp2_with fail
                  refine (HCA.out _).mono ?_
                  rintro e _ ⟨rfl, rfl⟩
                  go_wp2_with fail
                  go_roundw
                  case rel => exact ⟨i + 1, by go_num, by omega, h1, by rw [HA.out]; exact HR5.out, by rw [HBB.out]; exact HR6.out, HD, HB.out⟩
                  case measure => simp [intOf]; omega
                · have b14 : (c != 14) = true := by simpa using c14
                  replace HBB := Lib.hid (show FP.plc s FP.isR (i + 1 - f) f = B ++ [(i : Int)] by rw [HBB.out]; simp [FP.isR, c12, c13, c14])
                  clear c12 c13 c14
                  go_wp2_with fail
                  refine (HCA.out _).mono ?_
                  rintro e _ ⟨rfl, rfl⟩
                  go_wp2_with (at_builtin; refine wpList_append_own_at _ rfl _ _ 22 rfl W0.heap.size 3 i0 (.int .i64 0) 1 8 Tryd.underlying22 hi hz0 hz1 hz2 rfl (by decide) _ _ _ rfl (HR6.out.alloc _) ⟨wr.heap.size, 0, none⟩ 1 1 [.int .i64 (i : Int)] rfl rfl (cell_one_new wr _ _) (by simp [Value.oneCell']) (by unfold maxLen; omega) (by omega) (by simp; omega) ?_; intro v' w3 hown hgrow _ hat; obtain ⟨g3, capg3, rfl⟩ := ownsRow_succ hown)
                  have h5 := own_of_grown (HR5.out.alloc _) hgrow (fun q h5 h6 => HD.out q h5 h6)
                  go_roundw
                  case rel =>
                    refine ⟨i + 1, by go_num, by omega, h1, by rw [HA.out]; exact h5, by rw [HBB.out]; simpa using hown, Lib.hid fun q h4 h5 => ?_, span_app HR6.out HB.out hgrow⟩
                    have h4l := (HR5.out.lt q h4).2
                    rcases hat with e | e
                    · exact HD.out q h4 (Eq.trans (Eq.symm e) h5)
                    · have := Eq.trans (Eq.symm e) h5
                      simp only [World.size_alloc, Option.some.injEq] at this
                      omega
                  case measure => simp [intOf]; omega
          · obtain rfl : i = t := by omega
            have h1i : ¬ (i : Int) < (i : Int) := by omega
            have hlb := HLB.out i
            have hlr := HLR.out i
            rw [HPA.out] at hrow5 hlb
            rw [HPB2.out] at hrow6 hlr
            have s6 := own_src hrow6 (by rw [List.length_map])
            obtain ⟨va, vc, rfl⟩ := own_shape hrow5
            obtain ⟨ua, uc, rfl⟩ := own_shape hrow6
            have HB := Lib.hid hb
            clear hrow6 HPB HPR HLB HLR HD hb
            go_wp2_with (at_builtin; refine wpList_app _ rfl _ _ 22 rfl W0.heap.size 3 i0 (.int .i64 0) 8 Tryd.underlying22 hi hz0 hz1 hz2 rfl _ _ _ rfl hrow5 _ (PB.map (Value.int .i64)) rfl s6 (ints_one _) ?ca ?cb ?cc ?_)
            case ca => (try rw [List.length_map]); unfold maxLen; omega
            case cb => (try rw [List.length_map]); omega
            try case cc => omega
            intro v' w3 ho hgr _
            have hb3 : Below W0.heap.size W0 w3 := (HB.out).grown hgr hbs (fun j hj => (hrow5.lt j hj).1)
            try rw [List.length_map] at ho
            have HO := Lib.hid ho
            have HB3 := Lib.hid hb3
            clear ho hgr hb3 hrow5 s6
            go_wp2_with fail
            go_ret
            exact ⟨_, rfl, by rw [List.length_append, List.map_append]; exact own_base HO.out HBW.out.size, bnext HBW.out HB3.out⟩
end Go.Proofs.YtkacbmimmnlhlaaDoor
