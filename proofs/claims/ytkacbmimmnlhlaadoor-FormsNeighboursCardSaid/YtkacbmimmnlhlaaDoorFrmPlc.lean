/- The contracts of forms.places and forms.Order. -/
import Derived.Test.YtkacbmimmnlhlaaDoorFrmMay
namespace Go.Proofs.YtkacbmimmnlhlaaDoor
set_option linter.unusedVariables false
open Go.RowKit Go.Shelf Go.Deep
/-- Whether a class is in a list, or is not. -/
def FP.isIn (Cs : List Int) (hv : Bool) (c : Int) : Bool := (Cs.any fun d => c == d) == hv
theorem FP.isIn_B : FP.isIn [12] true = FP.isB := by
  funext c
  unfold FP.isIn FP.isB
  by_cases h : c = 12
  · subst h; rfl
  · simp [h]
theorem FP.isIn_R : FP.isIn [12, 13, 14] false = FP.isR := by
  funext c
  unfold FP.isIn FP.isR
  by_cases h : c = 12
  · subst h; rfl
  · by_cases h2 : c = 13
    · subst h2; rfl
    · by_cases h3 : c = 14
      · subst h3; rfl
      · simp [h, h2, h3]
set_option maxRecDepth 100000 in
set_option maxHeartbeats 4000000 in
theorem places_any (s : ByteArray) (f t : Nat) (hv : Bool) (Cs : List Int) (vC : Value) (g : Nat × Nat) (w : World) (hl : Laid w g) (hs : s.size ≤ 1000000000) (hft : f < t) (hts : t ≤ s.size) (hC : RowAt w vC (Cs.map (Value.int .i64))) (hCl : Cs.length ≤ 1000) :
    Calls Tryd.prog 36 #[.string s, .agg #[.int .i64 (f : Int), .int .i64 (t : Int)], .bool hv, vC] w fun e W' => ∃ v', e = .returned v' ∧ W'.ownsRow w.heap.size 3 1 v' (FP.plc s (FP.isIn Cs hv) (t - f) f).length ((FP.plc s (FP.isIn Cs hv) (t - f) f).map (Value.int .i64)) ∧ Below w.heap.size w W' := by
  obtain ⟨i0, hi, hz0, hz1, hz2⟩ := info_parts info_int
  obtain ⟨ca, cc, rfl, hcl⟩ := hC
  rw [List.length_map] at hcl ⊢
  have HL : Hid (∀ B, Below w.heap.size w B → Laid B g) := Lib.hid fun B hb => hl.mono hb
  obtain ⟨W0, hW⟩ : ∃ W, w.alloc (.cells #[.int .i64 (f : Int), .int .i64 (t : Int)] 29) = W := ⟨_, rfl⟩
  have q0 : W0.cell? ⟨w.heap.size, 0, none⟩ = some (.int .i64 (f : Int)) := by rw [← hW]; exact (two_cells (World.alloc_heap_new w _)).1
  have q1 : W0.cell? ⟨w.heap.size, 1, none⟩ = some (.int .i64 (t : Int)) := by rw [← hW]; exact (two_cells (World.alloc_heap_new w _)).2
  have hbW : Below w.heap.size w W0 := by rw [← hW]; exact balloc (Below.refl _ _) _
  have HCL := Lib.hid hcl
  have HBW := Lib.hid hbW
  have HP : Hid (∀ i, i < t → FP.plc s (FP.isIn Cs hv) (i + 1 - f) f = FP.plc s (FP.isIn Cs hv) (i - f) f ++ (if f ≤ i ∧ FP.isIn Cs hv (CP.cl s i) then [(i : Int)] else []) ∨ i < f) := Lib.hid fun i hi => by
    by_cases h : f ≤ i
    · left
      rw [show i + 1 - f = (i - f) + 1 by omega, FP.plc_snoc, show f + (i - f) = i by omega]
      simp only [h, true_and]
    · right; omega
  have HLEN : Hid (∀ i, (FP.plc s (FP.isIn Cs hv) (i - f) f).length ≤ i - f) := Lib.hid fun i => FP.plc_length s _ _ _
  clear hl hcl hbW
  go_enter Tryd.func36, Tryd.ntmps36
  go_wp2_with fail
  try rw [hW]
  clear hW
  go_wp2_with fail
  go_loopw [9, 10] (fun v9 v10 wr => ∃ i : Nat, v10 = .int .i64 i ∧ f ≤ i ∧ i ≤ t ∧ wr.ownsRow W0.heap.size 3 1 v9 (FP.plc s (FP.isIn Cs hv) (i - f) f).length ((FP.plc s (FP.isIn Cs hv) (i - f) f).map (Value.int .i64)) ∧ Below W0.heap.size W0 wr) (fun _ v _ => t - (intOf v).toNat)
  case atStart => exact ⟨f, rfl, Nat.le_refl _, by omega, by rw [Nat.sub_self]; exact World.ownsRow_nil _ _ _ _, Below.refl _ _⟩
  case round =>
    obtain ⟨i, rfl, hfi, hit, hrow, hb⟩ := hrel
    have d0 := (hb.cell (World.block_lt_of_cell? _ _ q0)).trans q0
    have d1 := (hb.cell (World.block_lt_of_cell? _ _ q1)).trans q1
    by_cases h1 : i < t
    · have h1i : (i : Int) < (t : Int) := by omega
      have his : i < s.size := by omega
      have hisi : (i : Int) < (s.size : Int) := by omega
      have hby : (s[i].toNat : Int) ≤ 255 := by have := s[i].toNat_lt; omega
      have hhi := (HP.out i h1).resolve_right (by omega)
      rw [CP.cl, CP.ch_at his] at hhi
      have hll := HLEN.out i
      generalize FP.plc s (FP.isIn Cs hv) (i - f) f = Q at hrow hhi hll
      have HCA := Lib.hid fun V (hV : Below w.heap.size w V) => class_any ((s[i].toNat : Nat) : Int) g V (HL.out V hV)
      generalize FC.cls ((s[i].toNat : Nat) : Int) = c at HCA hhi
      have HH := Lib.hid hhi
      have HB := Lib.hid hb
      have HBB := Lib.hid (bnext HBW.out hb)
      have HROW := Lib.hid hrow
      obtain ⟨va, vc, rfl⟩ := own_shape hrow
      obtain ⟨wo, hwo⟩ : ∃ wo : World, wo = wr := ⟨_, rfl⟩
      subst hwo
      clear hhi hb hrow HP HLEN
      go_wp2_with fail
      go_loopw [11, 24] (fun v11 v24 wi => ∃ j : Nat, v24 = .int .i64 j ∧ j ≤ Cs.length ∧ v11 = .bool ((Cs.take j).any fun d => c == d) ∧ Below wo.heap.size wo wi) (fun _ v _ => Cs.length - (intOf v).toNat)
      case atStart => exact ⟨0, rfl, Nat.zero_le _, rfl, Below.refl _ _⟩
      case round =>
        obtain ⟨j, rfl, hj, rfl, hbi⟩ := hrel
        by_cases h2 : j < Cs.length
        · have h2i : (j : Int) < (Cs.length : Int) := by omega
          obtain ⟨gc, oc, rfl, hg, hcc⟩ := HCL.out.resolve_left (by intro e; simp at e; subst e; simp at h2)
          have e1 := hcc j (by simpa using h2)
          rw [show ((Cs.map (Value.int .i64)).getD j (.bool false)) = .int .i64 Cs[j] by simp [List.getD, h2]] at e1
          replace e1 := ((bnext HBB.out hbi).cell (p := ⟨gc, oc + j, none⟩) hg).trans e1
          have hh : ((Cs.take (j + 1)).any fun d => c == d) = (((Cs.take j).any fun d => c == d) || (c == Cs[j])) := by
            rw [List.take_succ_eq_append_getElem h2, List.any_append]; simp
          generalize Cs[j] = d at e1 hh
          generalize ((Cs.take j).any fun d => c == d) = h at hh
          have HH2 := Lib.hid hh
          have HC2 := Lib.hid (HCA.out wr (bnext HBB.out hbi))
          clear hh hcc HCA HCL HL HROW
          cases h with
          | true =>
            go_wp2_with fail
            go_roundw
            case rel => exact ⟨j + 1, by go_num, h2, by rw [HH2.out]; rfl, hbi⟩
            case measure => simp [intOf]; omega
          | false =>
            go_wp2_with fail
            refine HC2.out.mono ?_
            rintro e w5 ⟨rfl, hb5⟩
            go_wp2_with fail
            go_roundw
            case rel => exact ⟨j + 1, by go_num, h2, by rw [HH2.out]; rfl, bnext hbi hb5⟩
            case measure => simp [intOf]; omega
        · obtain rfl : j = Cs.length := by omega
          have hh2 : FP.isIn Cs hv c = (((Cs.take Cs.length).any fun d => c == d) == hv) := by rw [List.take_length]; rfl
          generalize ((Cs.take Cs.length).any fun d => c == d) = h at hh2
          have HH2 := Lib.hid hh2
          have d2 := HROW.out
          have hrow2 := Lib.hid (own_below d2 hbi)
          have HBI := Lib.hid (bnext HB.out hbi)
          have hbis := HBI.out.size
          clear hh2 hbi HCA HCL HL HROW d2
          by_cases hhv : h = hv
          · subst hhv
            have hp : FP.isIn Cs h c = true := by rw [HH2.out]; simp
            have HH3 := HH.out
            rw [if_pos ⟨hfi, hp⟩] at HH3
            have HH4 := Lib.hid HH3
            clear HH3 HH HH2 hp
            go_wp2_with (at_builtin; refine wpList_append_own _ rfl _ _ 22 rfl W0.heap.size 3 i0 (.int .i64 0) 1 8 Tryd.underlying22 hi hz0 hz1 hz2 rfl (by decide) _ _ _ rfl (hrow2.out.alloc _) ⟨wr.heap.size, 0, none⟩ 1 1 [.int .i64 (i : Int)] rfl rfl (cell_one_new wr _ _) (by simp [Value.oneCell']) (by unfold maxLen; omega) (by omega) (by simp; omega) ?_; intro v' w3 hown' hgrow _; obtain ⟨g3, cap', rfl⟩ := ownsRow_succ hown')
            go_roundw
            case rel => exact ⟨i + 1, by go_num, by omega, h1, by rw [HH4.out]; simpa using hown', span_app hrow2.out HBI.out hgrow⟩
            case measure => simp [intOf]; omega
          · have hp : FP.isIn Cs hv c = false := by rw [HH2.out]; simpa using hhv
            have hq : (h == hv) = false := by simpa using hhv
            have HH3 := HH.out
            rw [if_neg (by rw [hp]; simp), List.append_nil] at HH3
            have HH4 := Lib.hid HH3
            clear HH3 HH HH2 hp hhv
            go_wp2_with fail
            go_roundw
            case rel => exact ⟨i + 1, by go_num, by omega, h1, by rw [HH4.out]; exact hrow2.out, HBI.out⟩
            case measure => simp [intOf]; omega
    · obtain rfl : i = t := by omega
      have h1i : ¬ (i : Int) < (i : Int) := by omega
      have HROW := Lib.hid hrow
      clear hrow HP HLEN HCL HL
      go_wp2_with fail
      go_ret
      exact ⟨_, rfl, own_base HROW.out HBW.out.size, bnext HBW.out hb⟩
end Go.Proofs.YtkacbmimmnlhlaaDoor
