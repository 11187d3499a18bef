/- The contracts of forms.May, of the reference's May, and of Same. -/
import Derived.Test.YtkacbmimmnlhlaaDoorFrmForms
import Derived.Test.YtkacbmimmnlhlaaDoorFrmSame
namespace Go.Proofs.YtkacbmimmnlhlaaDoor
set_option linter.unusedVariables false
open Go.RowKit Go.Shelf Go.Deep
/-- Whether a lookup may act on a cluster of this form. -/
def FP.may1 (ft wt x : Int) : Bool := if ft = 0 then true else if 1 ≤ ft ∧ ft ≤ 4 then (x == ft) else if 5 ≤ ft ∧ ft < 10 then (bits BinOp.and IntKind.i64 (wt / 2 ^ ft.toNat) 1 == 1) else false
theorem info_bool : (Tryd.prog.info? 4).map (fun i => (i.zero, i.size, i.bytes)) = some (some (.bool false), 1, 1) := by kernel_rfl
theorem make_bools (w : World) (n B : Nat) (hB : B ≤ w.heap.size) (hn : n ≤ 1000000000) :
    ∃ w', (Instr.makeSlice 35 (.int .i64 (n : Int)) (.int .i64 (n : Int))).run Tryd.prog w = .ok (.slice (some ⟨w.heap.size, 0, none⟩) n n) w' ∧
      w'.ownsRow B 4 1 (.slice (some ⟨w.heap.size, 0, none⟩) n n) n ((List.replicate n false).map Value.bool) ∧ Below w.heap.size w w' := by
  obtain ⟨i0, hi, hz0, hz1, hz2⟩ := info_parts info_bool
  have h := run_make (P := Tryd.prog) w 35 4 i0 (.bool false) Tryd.underlying35 hi hz0 .i64 .i64 n n (by omega) (by omega) (by rw [hz2]; omega) (by omega)
  simp only [Int.toNat_natCast] at h
  refine ⟨_, h, ?_, balloc (Below.refl _ _) _⟩
  have := World.ownsRow_lit (base := B) (e := 4) (size := 1) w (madeCells #[.bool false] (n * i0.size)) n hB (by unfold maxLen; omega) (by rw [size_madeCells, hz1])
  rw [toList_madeCells_one, hz1, Nat.mul_one] at this
  rw [show (Value.bool false).cells = #[.bool false] from rfl, hz1, Nat.mul_one, List.map_replicate]
  exact this
theorem set_midb (a b : List Bool) (x y : Bool) : ((a ++ x :: b).map Value.bool).set a.length (.bool y) = ((a ++ [y]) ++ b).map Value.bool := by
  simp
set_option maxRecDepth 100000 in
set_option maxHeartbeats 4000000 in
theorem may_any (vf : Value) (F : List Int) (ft wt : Int) (w : World) (hv : RowAt w vf (F.map (Value.int .i64))) (hF : F.length ≤ 1000000000) :
    Calls Tryd.prog 18 #[vf, .int .i64 ft, .int .i64 wt] w fun e W' => ∃ v', e = .returned v' ∧ W'.ownsRow w.heap.size 4 1 v' F.length ((F.map (FP.may1 ft wt)).map Value.bool) ∧ Below w.heap.size w W' := by
  by_cases c0 : ft = 0
  · obtain rfl := c0
    have HP : Hid (∀ x, FP.may1 0 wt x = true) := Lib.hid fun x => by unfold FP.may1; simp
    obtain ⟨a, c, rfl, hcl⟩ := hv
    rw [List.length_map] at hcl ⊢
    obtain ⟨w2, hmk, hown, hb2⟩ := make_bools w F.length w.heap.size (Nat.le_refl _) hF
    go_enter Tryd.func18, Tryd.ntmps18
    go_wp2_with fail
    have HCL := Lib.hid hcl
    clear hcl hmk
    go_loopw [15] (fun v22 wr => ∃ k : Nat, v22 = .int .i64 k ∧ k ≤ F.length ∧ wr.ownsRow w.heap.size 4 1 (.slice (some ⟨w.heap.size, 0, none⟩) F.length F.length) F.length (((F.take k).map (FP.may1 0 wt) ++ List.replicate (F.length - k) false).map Value.bool) ∧ Below w.heap.size w wr) (fun v _ => F.length - (intOf v).toNat)
    case atStart => exact ⟨0, rfl, Nat.zero_le _, by simpa using hown, hb2⟩
    case round =>
      obtain ⟨k, rfl, hk, hrow, hb⟩ := hrel
      have hbs := hb.size
      by_cases h1 : k < F.length
      · have h1i : (k : Int) < (F.length : Int) := by omega
        obtain ⟨g, o, rfl, hg, hc⟩ := HCL.out.resolve_left (by intro e; simp at e; subst e; simp at h1)
        have c1 := hc k (by simpa using h1)
        rw [show ((F.map (Value.int .i64)).getD k (.bool false)) = .int .i64 F[k] by simp [List.getD, h1]] at c1
        replace c1 := (hb.cell (p := ⟨g, o + k, none⟩) hg).trans c1
        have hh : (F.take (k + 1)).map (FP.may1 0 wt) = (F.take k).map (FP.may1 0 wt) ++ [FP.may1 0 wt F[k]] := by
          rw [List.take_succ_eq_append_getElem h1, List.map_append]; rfl
        rw [HP.out F[k]] at hh
        generalize F[k] = x at c1 hh
        have hlk : ((F.take k).map (FP.may1 0 wt)).length = k := by simp; omega
        have hrep : List.replicate (F.length - k) false = false :: List.replicate (F.length - (k + 1)) false := by rw [← List.replicate_succ]; congr 1; omega
        rw [hrep] at hrow
        generalize (F.take k).map (FP.may1 0 wt) = A at hrow hh hlk
        obtain ⟨R, hR⟩ : ∃ R, List.replicate (F.length - (k + 1)) false = R := ⟨_, rfl⟩
        rw [hR] at hrow
        have HR := Lib.hid hR
        clear hR
        have HROW : Hid (wr.ownsRow w.heap.size 4 1 (.slice (some ⟨w.heap.size, 0, none⟩) F.length F.length) F.length ((A ++ false :: R).map Value.bool)) := Lib.hid hrow
        have hcell := hrow.cellAt k (by omega)
        have hfr := hrow.frozenAt k
        have hst := (hrow.stored k (.bool true)).1
        have h3 := set_midb A R false true
        rw [hlk] at h3
        rw [h3] at hst
        rw [show ((A ++ false :: R).map Value.bool)[k]? = some (.bool false) by rw [← hlk]; simp] at hcell
        have HST := Lib.hid hst
        have HH := Lib.hid hh
        have HB := Lib.hid hb
        clear hst hh hlk hrep hc hrow h3 hb HCL HP
        go_wp2_with fail
        go_roundw
        case rel =>
          first
            | (refine ⟨k + 1, by go_num, h1, ?_, bset HB.out (Nat.le_refl _) _⟩; rw [HH.out, HR.out]; exact HST.out)
            | (refine ⟨k + 1, by go_num, h1, ?_, HB.out⟩; rw [HH.out, HR.out, List.append_assoc]; exact HROW.out)
        case measure => simp [intOf]; omega
      · obtain rfl : k = F.length := by omega
        rw [Nat.sub_self, List.replicate_zero, List.append_nil, List.take_length] at hrow
        clear HCL HP
        go_wp2
        go_ret
        exact ⟨_, rfl, hrow, hb⟩
  · by_cases c1 : 1 ≤ ft ∧ ft ≤ 4
    · have b0 : (ft == 0) = false := by simp; omega
      have b1 : (1 : Int) ≤ ft := c1.1
      have b2 : ft ≤ (4 : Int) := c1.2
      have HP : Hid (∀ x, FP.may1 ft wt x = (x == ft)) := Lib.hid fun x => by unfold FP.may1; rw [if_neg c0, if_pos c1]
      clear c0 c1
      obtain ⟨a, c, rfl, hcl⟩ := hv
      rw [List.length_map] at hcl ⊢
      obtain ⟨w2, hmk, hown, hb2⟩ := make_bools w F.length w.heap.size (Nat.le_refl _) hF
      go_enter Tryd.func18, Tryd.ntmps18
      go_wp2_with fail
      have HCL := Lib.hid hcl
      clear hcl hmk
      go_loopw [15] (fun v22 wr => ∃ k : Nat, v22 = .int .i64 k ∧ k ≤ F.length ∧ wr.ownsRow w.heap.size 4 1 (.slice (some ⟨w.heap.size, 0, none⟩) F.length F.length) F.length (((F.take k).map (FP.may1 ft wt) ++ List.replicate (F.length - k) false).map Value.bool) ∧ Below w.heap.size w wr) (fun v _ => F.length - (intOf v).toNat)
      case atStart => exact ⟨0, rfl, Nat.zero_le _, by simpa using hown, hb2⟩
      case round =>
        obtain ⟨k, rfl, hk, hrow, hb⟩ := hrel
        have hbs := hb.size
        by_cases h1 : k < F.length
        · have h1i : (k : Int) < (F.length : Int) := by omega
          obtain ⟨g, o, rfl, hg, hc⟩ := HCL.out.resolve_left (by intro e; simp at e; subst e; simp at h1)
          have c1 := hc k (by simpa using h1)
          rw [show ((F.map (Value.int .i64)).getD k (.bool false)) = .int .i64 F[k] by simp [List.getD, h1]] at c1
          replace c1 := (hb.cell (p := ⟨g, o + k, none⟩) hg).trans c1
          have hh : (F.take (k + 1)).map (FP.may1 ft wt) = (F.take k).map (FP.may1 ft wt) ++ [FP.may1 ft wt F[k]] := by
            rw [List.take_succ_eq_append_getElem h1, List.map_append]; rfl
          rw [HP.out F[k]] at hh
          generalize F[k] = x at c1 hh
          have hlk : ((F.take k).map (FP.may1 ft wt)).length = k := by simp; omega
          have hrep : List.replicate (F.length - k) false = false :: List.replicate (F.length - (k + 1)) false := by rw [← List.replicate_succ]; congr 1; omega
          rw [hrep] at hrow
          generalize (F.take k).map (FP.may1 ft wt) = A at hrow hh hlk
          obtain ⟨R, hR⟩ : ∃ R, List.replicate (F.length - (k + 1)) false = R := ⟨_, rfl⟩
          rw [hR] at hrow
          have HR := Lib.hid hR
          clear hR
          have HROW : Hid (wr.ownsRow w.heap.size 4 1 (.slice (some ⟨w.heap.size, 0, none⟩) F.length F.length) F.length ((A ++ false :: R).map Value.bool)) := Lib.hid hrow
          have hcell := hrow.cellAt k (by omega)
          have hfr := hrow.frozenAt k
          have hst := (hrow.stored k (.bool (x == ft))).1
          have h3 := set_midb A R false (x == ft)
          rw [hlk] at h3
          rw [h3] at hst
          rw [show ((A ++ false :: R).map Value.bool)[k]? = some (.bool false) by rw [← hlk]; simp] at hcell
          have HST := Lib.hid hst
          have HH := Lib.hid hh
          have HB := Lib.hid hb
          clear hst hh hlk hrep hc hrow h3 hb HCL HP
          go_wp2_with fail
          go_roundw
          case rel =>
            first
              | (refine ⟨k + 1, by go_num, h1, ?_, bset HB.out (Nat.le_refl _) _⟩; rw [HH.out, HR.out]; exact HST.out)
              | (refine ⟨k + 1, by go_num, h1, ?_, HB.out⟩; rw [HH.out, HR.out, List.append_assoc]; exact HROW.out)
          case measure => simp [intOf]; omega
        · obtain rfl : k = F.length := by omega
          rw [Nat.sub_self, List.replicate_zero, List.append_nil, List.take_length] at hrow
          clear HCL HP
          go_wp2
          go_ret
          exact ⟨_, rfl, hrow, hb⟩
    · by_cases c2 : 5 ≤ ft ∧ ft < 10
      · have b0 : (ft == 0) = false := by simp; omega
        have b1 : (1 : Int) ≤ ft := by omega
        have b2 : ¬ ft ≤ (4 : Int) := by omega
        have b3 : (5 : Int) ≤ ft := c2.1
        have b4 : ft < (10 : Int) := c2.2
        obtain ⟨q, hq⟩ : ∃ q, (bits BinOp.and IntKind.i64 (wt / 2 ^ ft.toNat) 1 == 1) = q := ⟨_, rfl⟩
        have HP : Hid (∀ x, FP.may1 ft wt x = q) := Lib.hid fun x => by unfold FP.may1; rw [if_neg c0, if_neg c1, if_pos c2]; exact hq
        clear c0 c1 c2
        obtain ⟨a, c, rfl, hcl⟩ := hv
        rw [List.length_map] at hcl ⊢
        obtain ⟨w2, hmk, hown, hb2⟩ := make_bools w F.length w.heap.size (Nat.le_refl _) hF
        go_enter Tryd.func18, Tryd.ntmps18
        go_wp2_with fail
        have HCL := Lib.hid hcl
        clear hcl hmk
        go_loopw [15] (fun v22 wr => ∃ k : Nat, v22 = .int .i64 k ∧ k ≤ F.length ∧ wr.ownsRow w.heap.size 4 1 (.slice (some ⟨w.heap.size, 0, none⟩) F.length F.length) F.length (((F.take k).map (FP.may1 ft wt) ++ List.replicate (F.length - k) false).map Value.bool) ∧ Below w.heap.size w wr) (fun v _ => F.length - (intOf v).toNat)
        case atStart => exact ⟨0, rfl, Nat.zero_le _, by simpa using hown, hb2⟩
        case round =>
          obtain ⟨k, rfl, hk, hrow, hb⟩ := hrel
          have hbs := hb.size
          by_cases h1 : k < F.length
          · have h1i : (k : Int) < (F.length : Int) := by omega
            obtain ⟨g, o, rfl, hg, hc⟩ := HCL.out.resolve_left (by intro e; simp at e; subst e; simp at h1)
            have c1 := hc k (by simpa using h1)
            rw [show ((F.map (Value.int .i64)).getD k (.bool false)) = .int .i64 F[k] by simp [List.getD, h1]] at c1
            replace c1 := (hb.cell (p := ⟨g, o + k, none⟩) hg).trans c1
            have hh : (F.take (k + 1)).map (FP.may1 ft wt) = (F.take k).map (FP.may1 ft wt) ++ [FP.may1 ft wt F[k]] := by
              rw [List.take_succ_eq_append_getElem h1, List.map_append]; rfl
            rw [HP.out F[k]] at hh
            generalize F[k] = x at c1 hh
            have hlk : ((F.take k).map (FP.may1 ft wt)).length = k := by simp; omega
            have hrep : List.replicate (F.length - k) false = false :: List.replicate (F.length - (k + 1)) false := by rw [← List.replicate_succ]; congr 1; omega
            rw [hrep] at hrow
            generalize (F.take k).map (FP.may1 ft wt) = A at hrow hh hlk
            obtain ⟨R, hR⟩ : ∃ R, List.replicate (F.length - (k + 1)) false = R := ⟨_, rfl⟩
            rw [hR] at hrow
            have HR := Lib.hid hR
            clear hR
            have HROW : Hid (wr.ownsRow w.heap.size 4 1 (.slice (some ⟨w.heap.size, 0, none⟩) F.length F.length) F.length ((A ++ false :: R).map Value.bool)) := Lib.hid hrow
            have hcell := hrow.cellAt k (by omega)
            have hfr := hrow.frozenAt k
            have hst := (hrow.stored k (.bool q)).1
            have h3 := set_midb A R false q
            rw [hlk] at h3
            rw [h3] at hst
            rw [show ((A ++ false :: R).map Value.bool)[k]? = some (.bool false) by rw [← hlk]; simp] at hcell
            have HST := Lib.hid hst
            have HH := Lib.hid hh
            have HB := Lib.hid hb
            clear hst hh hlk hrep hc hrow h3 hb HCL HP
            go_wp2_with fail
            go_roundw
            case rel =>
              first
                | (refine ⟨k + 1, by go_num, h1, ?_, bset HB.out (Nat.le_refl _) _⟩; rw [HH.out, HR.out]; exact HST.out)
                | (refine ⟨k + 1, by go_num, h1, ?_, HB.out⟩; rw [HH.out, HR.out, List.append_assoc]; exact HROW.out)
            case measure => simp [intOf]; omega
          · obtain rfl : k = F.length := by omega
            rw [Nat.sub_self, List.replicate_zero, List.append_nil, List.take_length] at hrow
            clear HCL HP
            go_wp2
            go_ret
            exact ⟨_, rfl, hrow, hb⟩
      · rcases (show ft < 1 ∨ 10 ≤ ft by omega) with c3 | c3
        · have b0 : (ft == 0) = false := by simp; omega
          have b1 : ¬ (1 : Int) ≤ ft := by omega
          have b3 : ¬ (5 : Int) ≤ ft := by omega
          have HP : Hid (∀ x, FP.may1 ft wt x = false) := Lib.hid fun x => by unfold FP.may1; rw [if_neg c0, if_neg c1, if_neg c2]
          clear c0 c1 c2 c3
          obtain ⟨a, c, rfl, hcl⟩ := hv
          rw [List.length_map] at hcl ⊢
          obtain ⟨w2, hmk, hown, hb2⟩ := make_bools w F.length w.heap.size (Nat.le_refl _) hF
          go_enter Tryd.func18, Tryd.ntmps18
          go_wp2_with fail
          have HCL := Lib.hid hcl
          clear hcl hmk
          go_loopw [15] (fun v22 wr => ∃ k : Nat, v22 = .int .i64 k ∧ k ≤ F.length ∧ wr.ownsRow w.heap.size 4 1 (.slice (some ⟨w.heap.size, 0, none⟩) F.length F.length) F.length (((F.take k).map (FP.may1 ft wt) ++ List.replicate (F.length - k) false).map Value.bool) ∧ Below w.heap.size w wr) (fun v _ => F.length - (intOf v).toNat)
          case atStart => exact ⟨0, rfl, Nat.zero_le _, by simpa using hown, hb2⟩
          case round =>
            obtain ⟨k, rfl, hk, hrow, hb⟩ := hrel
            have hbs := hb.size
            by_cases h1 : k < F.length
            · have h1i : (k : Int) < (F.length : Int) := by omega
              obtain ⟨g, o, rfl, hg, hc⟩ := HCL.out.resolve_left (by intro e; simp at e; subst e; simp at h1)
              have c1 := hc k (by simpa using h1)
              rw [show ((F.map (Value.int .i64)).getD k (.bool false)) = .int .i64 F[k] by simp [List.getD, h1]] at c1
              replace c1 := (hb.cell (p := ⟨g, o + k, none⟩) hg).trans c1
              have hh : (F.take (k + 1)).map (FP.may1 ft wt) = (F.take k).map (FP.may1 ft wt) ++ [FP.may1 ft wt F[k]] := by
                rw [List.take_succ_eq_append_getElem h1, List.map_append]; rfl
              rw [HP.out F[k]] at hh
              generalize F[k] = x at c1 hh
              have hlk : ((F.take k).map (FP.may1 ft wt)).length = k := by simp; omega
              have hrep : List.replicate (F.length - k) false = false :: List.replicate (F.length - (k + 1)) false := by rw [← List.replicate_succ]; congr 1; omega
              rw [hrep] at hrow
              generalize (F.take k).map (FP.may1 ft wt) = A at hrow hh hlk
              obtain ⟨R, hR⟩ : ∃ R, List.replicate (F.length - (k + 1)) false = R := ⟨_, rfl⟩
              rw [hR] at hrow
              have HR := Lib.hid hR
              clear hR
              have HROW : Hid (wr.ownsRow w.heap.size 4 1 (.slice (some ⟨w.heap.size, 0, none⟩) F.length F.length) F.length ((A ++ false :: R).map Value.bool)) := Lib.hid hrow
              have hcell := hrow.cellAt k (by omega)
              have hfr := hrow.frozenAt k
              have hst := (hrow.stored k (.bool false)).1
              have h3 := set_midb A R false false
              rw [hlk] at h3
              rw [h3] at hst
              rw [show ((A ++ false :: R).map Value.bool)[k]? = some (.bool false) by rw [← hlk]; simp] at hcell
              have HST := Lib.hid hst
              have HH := Lib.hid hh
              have HB := Lib.hid hb
              clear hst hh hlk hrep hc hrow h3 hb HCL HP
              go_wp2_with fail
              go_roundw
              case rel =>
                first
                  | (refine ⟨k + 1, by go_num, h1, ?_, bset HB.out (Nat.le_refl _) _⟩; rw [HH.out, HR.out]; exact HST.out)
                  | (refine ⟨k + 1, by go_num, h1, ?_, HB.out⟩; rw [HH.out, HR.out, List.append_assoc]; exact HROW.out)
              case measure => simp [intOf]; omega
            · obtain rfl : k = F.length := by omega
              rw [Nat.sub_self, List.replicate_zero, List.append_nil, List.take_length] at hrow
              clear HCL HP
              go_wp2
              go_ret
              exact ⟨_, rfl, hrow, hb⟩
        · have b0 : (ft == 0) = false := by simp; omega
          have b1 : (1 : Int) ≤ ft := by omega
          have b2 : ¬ ft ≤ (4 : Int) := by omega
          have b3 : (5 : Int) ≤ ft := by omega
          have b4 : ¬ ft < (10 : Int) := by omega
          have HP : Hid (∀ x, FP.may1 ft wt x = false) := Lib.hid fun x => by unfold FP.may1; rw [if_neg c0, if_neg c1, if_neg c2]
          clear c0 c1 c2 c3
          obtain ⟨a, c, rfl, hcl⟩ := hv
          rw [List.length_map] at hcl ⊢
          obtain ⟨w2, hmk, hown, hb2⟩ := make_bools w F.length w.heap.size (Nat.le_refl _) hF
          go_enter Tryd.func18, Tryd.ntmps18
          go_wp2_with fail
          have HCL := Lib.hid hcl
          clear hcl hmk
          go_loopw [15] (fun v22 wr => ∃ k : Nat, v22 = .int .i64 k ∧ k ≤ F.length ∧ wr.ownsRow w.heap.size 4 1 (.slice (some ⟨w.heap.size, 0, none⟩) F.length F.length) F.length (((F.take k).map (FP.may1 ft wt) ++ List.replicate (F.length - k) false).map Value.bool) ∧ Below w.heap.size w wr) (fun v _ => F.length - (intOf v).toNat)
          case atStart => exact ⟨0, rfl, Nat.zero_le _, by simpa using hown, hb2⟩
          case round =>
            obtain ⟨k, rfl, hk, hrow, hb⟩ := hrel
            have hbs := hb.size
            by_cases h1 : k < F.length
            · have h1i : (k : Int) < (F.length : Int) := by omega
              obtain ⟨g, o, rfl, hg, hc⟩ := HCL.out.resolve_left (by intro e; simp at e; subst e; simp at h1)
              have c1 := hc k (by simpa using h1)
              rw [show ((F.map (Value.int .i64)).getD k (.bool false)) = .int .i64 F[k] by simp [List.getD, h1]] at c1
              replace c1 := (hb.cell (p := ⟨g, o + k, none⟩) hg).trans c1
              have hh : (F.take (k + 1)).map (FP.may1 ft wt) = (F.take k).map (FP.may1 ft wt) ++ [FP.may1 ft wt F[k]] := by
                rw [List.take_succ_eq_append_getElem h1, List.map_append]; rfl
              rw [HP.out F[k]] at hh
              generalize F[k] = x at c1 hh
              have hlk : ((F.take k).map (FP.may1 ft wt)).length = k := by simp; omega
              have hrep : List.replicate (F.length - k) false = false :: List.replicate (F.length - (k + 1)) false := by rw [← List.replicate_succ]; congr 1; omega
              rw [hrep] at hrow
              generalize (F.take k).map (FP.may1 ft wt) = A at hrow hh hlk
              obtain ⟨R, hR⟩ : ∃ R, List.replicate (F.length - (k + 1)) false = R := ⟨_, rfl⟩
              rw [hR] at hrow
              have HR := Lib.hid hR
              clear hR
              have HROW : Hid (wr.ownsRow w.heap.size 4 1 (.slice (some ⟨w.heap.size, 0, none⟩) F.length F.length) F.length ((A ++ false :: R).map Value.bool)) := Lib.hid hrow
              have hcell := hrow.cellAt k (by omega)
              have hfr := hrow.frozenAt k
              have hst := (hrow.stored k (.bool false)).1
              have h3 := set_midb A R false false
              rw [hlk] at h3
              rw [h3] at hst
              rw [show ((A ++ false :: R).map Value.bool)[k]? = some (.bool false) by rw [← hlk]; simp] at hcell
              have HST := Lib.hid hst
              have HH := Lib.hid hh
              have HB := Lib.hid hb
              clear hst hh hlk hrep hc hrow h3 hb HCL HP
              go_wp2_with fail
              go_roundw
              case rel =>
                first
                  | (refine ⟨k + 1, by go_num, h1, ?_, bset HB.out (Nat.le_refl _) _⟩; rw [HH.out, HR.out]; exact HST.out)
                  | (refine ⟨k + 1, by go_num, h1, ?_, HB.out⟩; rw [HH.out, HR.out, List.append_assoc]; exact HROW.out)
              case measure => simp [intOf]; omega
            · obtain rfl : k = F.length := by omega
              rw [Nat.sub_self, List.replicate_zero, List.append_nil, List.take_length] at hrow
              clear HCL HP
              go_wp2
              go_ret
              exact ⟨_, rfl, hrow, hb⟩
set_option maxRecDepth 100000 in
set_option maxHeartbeats 4000000 in
theorem rmay_any (vf : Value) (F : List Int) (ft wt : Int) (w : World) (hv : RowAt w vf (F.map (Value.int .i64))) (hF : F.length ≤ 1000000000) :
    Calls Tryd.prog 19 #[vf, .int .i64 ft, .int .i64 wt] w fun e W' => ∃ v', e = .returned v' ∧ W'.ownsRow w.heap.size 4 1 v' F.length ((F.map (FP.may1 ft wt)).map Value.bool) ∧ Below w.heap.size w W' := by
  by_cases c0 : ft = 0
  · obtain rfl := c0
    have HP : Hid (∀ x, FP.may1 0 wt x = true) := Lib.hid fun x => by unfold FP.may1; simp
    obtain ⟨i0, hi, hz0, hz1, hz2⟩ := info_parts info_bool
    obtain ⟨a, c, rfl, hcl⟩ := hv
    rw [List.length_map] at hcl ⊢
    go_enter Tryd.func19, Tryd.ntmps19
    go_wp2_with fail
    have HCL := Lib.hid hcl
    clear hcl
    go_loopw [7, 8, 9] (fun v7 v8 v9 wr => ∃ k : Nat, v8 = .int .i64 k ∧ k ≤ F.length ∧ wr.ownsRow w.heap.size 4 1 v7 k (((F.take k).map (FP.may1 0 wt)).map Value.bool) ∧ Below w.heap.size w wr) (fun _ v _ _ => F.length - (intOf v).toNat)
    case atStart => exact ⟨0, rfl, Nat.zero_le _, World.ownsRow_nil _ _ _ _, Below.refl _ _⟩
    case round =>
      obtain ⟨k, rfl, hk, hrow, hb⟩ := hrel
      have hbs := hb.size
      by_cases h1 : k < F.length
      · have h1i : (k : Int) < (F.length : Int) := by omega
        obtain ⟨g, o, rfl, hg, hc⟩ := HCL.out.resolve_left (by intro e; simp at e; subst e; simp at h1)
        have c1 := hc k (by simpa using h1)
        rw [show ((F.map (Value.int .i64)).getD k (.bool false)) = .int .i64 F[k] by simp [List.getD, h1]] at c1
        replace c1 := (hb.cell (p := ⟨g, o + k, none⟩) hg).trans c1
        have hh : (F.take (k + 1)).map (FP.may1 0 wt) = (F.take k).map (FP.may1 0 wt) ++ [FP.may1 0 wt F[k]] := by
          rw [List.take_succ_eq_append_getElem h1, List.map_append]; rfl
        rw [HP.out F[k]] at hh
        generalize F[k] = x at c1 hh
        generalize (F.take k).map (FP.may1 0 wt) = A at hrow hh
        have HH := Lib.hid hh
        have HB := Lib.hid hb
        have HROW := Lib.hid hrow
        obtain ⟨va, vc, rfl⟩ := own_shape hrow
        clear hh hc hb HCL HP hrow
        go_wp2_with (at_builtin; refine wpList_append_own _ rfl _ _ 35 rfl w.heap.size 4 i0 (.bool false) 1 1 Tryd.underlying35 hi hz0 hz1 hz2 rfl (by decide) _ _ _ rfl (HROW.out.alloc _) ⟨wr.heap.size, 0, none⟩ 1 1 [.bool true] rfl rfl (cell_one_new wr _ _) (by simp [Value.oneCell']) (by unfold maxLen; omega) (by omega) (by simp; omega) ?_; intro v' w3 hown' hgrow _; obtain ⟨g3, cap', rfl⟩ := ownsRow_succ hown')
        go_roundw
        case rel => exact ⟨k + 1, by go_num, h1, by rw [HH.out]; simpa using hown', span_app HROW.out HB.out hgrow⟩
        case measure => simp [intOf]; omega
      · obtain rfl : k = F.length := by omega
        rw [List.take_length] at hrow
        clear HCL HP
        go_wp2
        go_ret
        exact ⟨_, rfl, hrow, hb⟩
  · by_cases c1 : 1 ≤ ft ∧ ft ≤ 4
    · have b0 : (ft == 0) = false := by simp; omega
      have b1 : (1 : Int) ≤ ft := c1.1
      have b2 : ft ≤ (4 : Int) := c1.2
      have HP : Hid (∀ x, FP.may1 ft wt x = (x == ft)) := Lib.hid fun x => by unfold FP.may1; rw [if_neg c0, if_pos c1]
      clear c0 c1
      obtain ⟨i0, hi, hz0, hz1, hz2⟩ := info_parts info_bool
      obtain ⟨a, c, rfl, hcl⟩ := hv
      rw [List.length_map] at hcl ⊢
      go_enter Tryd.func19, Tryd.ntmps19
      go_wp2_with fail
      have HCL := Lib.hid hcl
      clear hcl
      go_loopw [7, 8, 9] (fun v7 v8 v9 wr => ∃ k : Nat, v8 = .int .i64 k ∧ k ≤ F.length ∧ wr.ownsRow w.heap.size 4 1 v7 k (((F.take k).map (FP.may1 ft wt)).map Value.bool) ∧ Below w.heap.size w wr) (fun _ v _ _ => F.length - (intOf v).toNat)
      case atStart => exact ⟨0, rfl, Nat.zero_le _, World.ownsRow_nil _ _ _ _, Below.refl _ _⟩
      case round =>
        obtain ⟨k, rfl, hk, hrow, hb⟩ := hrel
        have hbs := hb.size
        by_cases h1 : k < F.length
        · have h1i : (k : Int) < (F.length : Int) := by omega
          obtain ⟨g, o, rfl, hg, hc⟩ := HCL.out.resolve_left (by intro e; simp at e; subst e; simp at h1)
          have c1 := hc k (by simpa using h1)
          rw [show ((F.map (Value.int .i64)).getD k (.bool false)) = .int .i64 F[k] by simp [List.getD, h1]] at c1
          replace c1 := (hb.cell (p := ⟨g, o + k, none⟩) hg).trans c1
          have hh : (F.take (k + 1)).map (FP.may1 ft wt) = (F.take k).map (FP.may1 ft wt) ++ [FP.may1 ft wt F[k]] := by
            rw [List.take_succ_eq_append_getElem h1, List.map_append]; rfl
          rw [HP.out F[k]] at hh
          generalize F[k] = x at c1 hh
          generalize (F.take k).map (FP.may1 ft wt) = A at hrow hh
          have HH := Lib.hid hh
          have HB := Lib.hid hb
          have HROW := Lib.hid hrow
          obtain ⟨va, vc, rfl⟩ := own_shape hrow
          clear hh hc hb HCL HP hrow
          go_wp2_with (at_builtin; refine wpList_append_own _ rfl _ _ 35 rfl w.heap.size 4 i0 (.bool false) 1 1 Tryd.underlying35 hi hz0 hz1 hz2 rfl (by decide) _ _ _ rfl (HROW.out.alloc _) ⟨wr.heap.size, 0, none⟩ 1 1 [.bool (x == ft)] rfl rfl (cell_one_new wr _ _) (by simp [Value.oneCell']) (by unfold maxLen; omega) (by omega) (by simp; omega) ?_; intro v' w3 hown' hgrow _; obtain ⟨g3, cap', rfl⟩ := ownsRow_succ hown')
          go_roundw
          case rel => exact ⟨k + 1, by go_num, h1, by rw [HH.out]; simpa using hown', span_app HROW.out HB.out hgrow⟩
          case measure => simp [intOf]; omega
        · obtain rfl : k = F.length := by omega
          rw [List.take_length] at hrow
          clear HCL HP
          go_wp2
          go_ret
          exact ⟨_, rfl, hrow, hb⟩
    · by_cases c2 : 5 ≤ ft ∧ ft < 10
      · have b0 : (ft == 0) = false := by simp; omega
        have b1 : (1 : Int) ≤ ft := by omega
        have b2 : ¬ ft ≤ (4 : Int) := by omega
        have b3 : (5 : Int) ≤ ft := c2.1
        have b4 : ft < (10 : Int) := c2.2
        obtain ⟨q, hq⟩ : ∃ q, (bits BinOp.and IntKind.i64 (wt / 2 ^ ft.toNat) 1 == 1) = q := ⟨_, rfl⟩
        have HP : Hid (∀ x, FP.may1 ft wt x = q) := Lib.hid fun x => by unfold FP.may1; rw [if_neg c0, if_neg c1, if_pos c2]; exact hq
        clear c0 c1 c2
        obtain ⟨i0, hi, hz0, hz1, hz2⟩ := info_parts info_bool
        obtain ⟨a, c, rfl, hcl⟩ := hv
        rw [List.length_map] at hcl ⊢
        go_enter Tryd.func19, Tryd.ntmps19
        go_wp2_with fail
        have HCL := Lib.hid hcl
        clear hcl
        go_loopw [7, 8, 9] (fun v7 v8 v9 wr => ∃ k : Nat, v8 = .int .i64 k ∧ k ≤ F.length ∧ wr.ownsRow w.heap.size 4 1 v7 k (((F.take k).map (FP.may1 ft wt)).map Value.bool) ∧ Below w.heap.size w wr) (fun _ v _ _ => F.length - (intOf v).toNat)
        case atStart => exact ⟨0, rfl, Nat.zero_le _, World.ownsRow_nil _ _ _ _, Below.refl _ _⟩
        case round =>
          obtain ⟨k, rfl, hk, hrow, hb⟩ := hrel
          have hbs := hb.size
          by_cases h1 : k < F.length
          · have h1i : (k : Int) < (F.length : Int) := by omega
            obtain ⟨g, o, rfl, hg, hc⟩ := HCL.out.resolve_left (by intro e; simp at e; subst e; simp at h1)
            have c1 := hc k (by simpa using h1)
            rw [show ((F.map (Value.int .i64)).getD k (.bool false)) = .int .i64 F[k] by simp [List.getD, h1]] at c1
            replace c1 := (hb.cell (p := ⟨g, o + k, none⟩) hg).trans c1
            have hh : (F.take (k + 1)).map (FP.may1 ft wt) = (F.take k).map (FP.may1 ft wt) ++ [FP.may1 ft wt F[k]] := by
              rw [List.take_succ_eq_append_getElem h1, List.map_append]; rfl
            rw [HP.out F[k]] at hh
            generalize F[k] = x at c1 hh
            generalize (F.take k).map (FP.may1 ft wt) = A at hrow hh
            have HH := Lib.hid hh
            have HB := Lib.hid hb
            have HROW := Lib.hid hrow
            obtain ⟨va, vc, rfl⟩ := own_shape hrow
            clear hh hc hb HCL HP hrow
            go_wp2_with (at_builtin; refine wpList_append_own _ rfl _ _ 35 rfl w.heap.size 4 i0 (.bool false) 1 1 Tryd.underlying35 hi hz0 hz1 hz2 rfl (by decide) _ _ _ rfl (HROW.out.alloc _) ⟨wr.heap.size, 0, none⟩ 1 1 [.bool q] rfl rfl (cell_one_new wr _ _) (by simp [Value.oneCell']) (by unfold maxLen; omega) (by omega) (by simp; omega) ?_; intro v' w3 hown' hgrow _; obtain ⟨g3, cap', rfl⟩ := ownsRow_succ hown')
            go_roundw
            case rel => exact ⟨k + 1, by go_num, h1, by rw [HH.out]; simpa using hown', span_app HROW.out HB.out hgrow⟩
            case measure => simp [intOf]; omega
          · obtain rfl : k = F.length := by omega
            rw [List.take_length] at hrow
            clear HCL HP
            go_wp2
            go_ret
            exact ⟨_, rfl, hrow, hb⟩
      · rcases (show ft < 1 ∨ 10 ≤ ft by omega) with c3 | c3
        · have b0 : (ft == 0) = false := by simp; omega
          have b1 : ¬ (1 : Int) ≤ ft := by omega
          have b3 : ¬ (5 : Int) ≤ ft := by omega
          have HP : Hid (∀ x, FP.may1 ft wt x = false) := Lib.hid fun x => by unfold FP.may1; rw [if_neg c0, if_neg c1, if_neg c2]
          clear c0 c1 c2 c3
          obtain ⟨i0, hi, hz0, hz1, hz2⟩ := info_parts info_bool
          obtain ⟨a, c, rfl, hcl⟩ := hv
          rw [List.length_map] at hcl ⊢
          go_enter Tryd.func19, Tryd.ntmps19
          go_wp2_with fail
          have HCL := Lib.hid hcl
          clear hcl
          go_loopw [7, 8, 9] (fun v7 v8 v9 wr => ∃ k : Nat, v8 = .int .i64 k ∧ k ≤ F.length ∧ wr.ownsRow w.heap.size 4 1 v7 k (((F.take k).map (FP.may1 ft wt)).map Value.bool) ∧ Below w.heap.size w wr) (fun _ v _ _ => F.length - (intOf v).toNat)
          case atStart => exact ⟨0, rfl, Nat.zero_le _, World.ownsRow_nil _ _ _ _, Below.refl _ _⟩
          case round =>
            obtain ⟨k, rfl, hk, hrow, hb⟩ := hrel
            have hbs := hb.size
            by_cases h1 : k < F.length
            · have h1i : (k : Int) < (F.length : Int) := by omega
              obtain ⟨g, o, rfl, hg, hc⟩ := HCL.out.resolve_left (by intro e; simp at e; subst e; simp at h1)
              have c1 := hc k (by simpa using h1)
              rw [show ((F.map (Value.int .i64)).getD k (.bool false)) = .int .i64 F[k] by simp [List.getD, h1]] at c1
              replace c1 := (hb.cell (p := ⟨g, o + k, none⟩) hg).trans c1
              have hh : (F.take (k + 1)).map (FP.may1 ft wt) = (F.take k).map (FP.may1 ft wt) ++ [FP.may1 ft wt F[k]] := by
                rw [List.take_succ_eq_append_getElem h1, List.map_append]; rfl
              rw [HP.out F[k]] at hh
              generalize F[k] = x at c1 hh
              generalize (F.take k).map (FP.may1 ft wt) = A at hrow hh
              have HH := Lib.hid hh
              have HB := Lib.hid hb
              have HROW := Lib.hid hrow
              obtain ⟨va, vc, rfl⟩ := own_shape hrow
              clear hh hc hb HCL HP hrow
              go_wp2_with (at_builtin; refine wpList_append_own _ rfl _ _ 35 rfl w.heap.size 4 i0 (.bool false) 1 1 Tryd.underlying35 hi hz0 hz1 hz2 rfl (by decide) _ _ _ rfl (HROW.out.alloc _) ⟨wr.heap.size, 0, none⟩ 1 1 [.bool false] rfl rfl (cell_one_new wr _ _) (by simp [Value.oneCell']) (by unfold maxLen; omega) (by omega) (by simp; omega) ?_; intro v' w3 hown' hgrow _; obtain ⟨g3, cap', rfl⟩ := ownsRow_succ hown')
              go_roundw
              case rel => exact ⟨k + 1, by go_num, h1, by rw [HH.out]; simpa using hown', span_app HROW.out HB.out hgrow⟩
              case measure => simp [intOf]; omega
            · obtain rfl : k = F.length := by omega
              rw [List.take_length] at hrow
              clear HCL HP
              go_wp2
              go_ret
              exact ⟨_, rfl, hrow, hb⟩
        · have b0 : (ft == 0) = false := by simp; omega
          have b1 : (1 : Int) ≤ ft := by omega
          have b2 : ¬ ft ≤ (4 : Int) := by omega
          have b3 : (5 : Int) ≤ ft := by omega
          have b4 : ¬ ft < (10 : Int) := by omega
          have HP : Hid (∀ x, FP.may1 ft wt x = false) := Lib.hid fun x => by unfold FP.may1; rw [if_neg c0, if_neg c1, if_neg c2]
          clear c0 c1 c2 c3
          obtain ⟨i0, hi, hz0, hz1, hz2⟩ := info_parts info_bool
          obtain ⟨a, c, rfl, hcl⟩ := hv
          rw [List.length_map] at hcl ⊢
          go_enter Tryd.func19, Tryd.ntmps19
          go_wp2_with fail
          have HCL := Lib.hid hcl
          clear hcl
          go_loopw [7, 8, 9] (fun v7 v8 v9 wr => ∃ k : Nat, v8 = .int .i64 k ∧ k ≤ F.length ∧ wr.ownsRow w.heap.size 4 1 v7 k (((F.take k).map (FP.may1 ft wt)).map Value.bool) ∧ Below w.heap.size w wr) (fun _ v _ _ => F.length - (intOf v).toNat)
          case atStart => exact ⟨0, rfl, Nat.zero_le _, World.ownsRow_nil _ _ _ _, Below.refl _ _⟩
          case round =>
            obtain ⟨k, rfl, hk, hrow, hb⟩ := hrel
            have hbs := hb.size
            by_cases h1 : k < F.length
            · have h1i : (k : Int) < (F.length : Int) := by omega
              obtain ⟨g, o, rfl, hg, hc⟩ := HCL.out.resolve_left (by intro e; simp at e; subst e; simp at h1)
              have c1 := hc k (by simpa using h1)
              rw [show ((F.map (Value.int .i64)).getD k (.bool false)) = .int .i64 F[k] by simp [List.getD, h1]] at c1
              replace c1 := (hb.cell (p := ⟨g, o + k, none⟩) hg).trans c1
              have hh : (F.take (k + 1)).map (FP.may1 ft wt) = (F.take k).map (FP.may1 ft wt) ++ [FP.may1 ft wt F[k]] := by
                rw [List.take_succ_eq_append_getElem h1, List.map_append]; rfl
              rw [HP.out F[k]] at hh
              generalize F[k] = x at c1 hh
              generalize (F.take k).map (FP.may1 ft wt) = A at hrow hh
              have HH := Lib.hid hh
              have HB := Lib.hid hb
              have HROW := Lib.hid hrow
              obtain ⟨va, vc, rfl⟩ := own_shape hrow
              clear hh hc hb HCL HP hrow
              go_wp2_with (at_builtin; refine wpList_append_own _ rfl _ _ 35 rfl w.heap.size 4 i0 (.bool false) 1 1 Tryd.underlying35 hi hz0 hz1 hz2 rfl (by decide) _ _ _ rfl (HROW.out.alloc _) ⟨wr.heap.size, 0, none⟩ 1 1 [.bool false] rfl rfl (cell_one_new wr _ _) (by simp [Value.oneCell']) (by unfold maxLen; omega) (by omega) (by simp; omega) ?_; intro v' w3 hown' hgrow _; obtain ⟨g3, cap', rfl⟩ := ownsRow_succ hown')
              go_roundw
              case rel => exact ⟨k + 1, by go_num, h1, by rw [HH.out]; simpa using hown', span_app HROW.out HB.out hgrow⟩
              case measure => simp [intOf]; omega
            · obtain rfl : k = F.length := by omega
              rw [List.take_length] at hrow
              clear HCL HP
              go_wp2
              go_ret
              exact ⟨_, rfl, hrow, hb⟩
set_option maxRecDepth 100000 in
set_option maxHeartbeats 1000000 in
theorem same_bools (u v : Value) (L : List Bool) (w : World) (hu : RowAt w u (L.map Value.bool)) (hv : RowAt w v (L.map Value.bool)) (hL : L.length ≤ 9223372036854775807) :
    Calls Tryd.prog 17 #[u, v] w fun e w' => e = .returned (.bool true) ∧ Below w.heap.size w w' := by
  obtain ⟨a1, c1, rfl, h1⟩ := hu.out
  obtain ⟨a2, c2, rfl, h2⟩ := hv.out
  have hml : (L.map Value.bool).length = L.length := by simp
  rw [hml] at hu hv ⊢
  have HU := Lib.hid hu
  have HV := Lib.hid hv
  clear h1 h2 hu hv
  go_enter Tryd.func17, Tryd.ntmps17
  go_wp2
  go_loopw [5] (fun i wr => ∃ k : Nat, k ≤ L.length ∧ i = .int .i64 k ∧ Below w.heap.size w wr) (fun i _ => L.length - (intOf i).toNat)
  case atStart => exact ⟨0, Nat.zero_le _, rfl, Below.refl _ _⟩
  case round =>
    obtain ⟨k, hk, rfl, hb⟩ := hrel
    by_cases hkl : k < L.length
    · obtain ⟨g1, o1, rfl, hg1, hc1⟩ := (HU.out.keep hb).cell (k := k) (by simpa using hkl)
      obtain ⟨g2, o2, rfl, hg2, hc2⟩ := (HV.out.keep hb).cell (k := k) (by simpa using hkl)
      simp only [List.getElem_map] at hc1 hc2
      have hki : (k : Int) < (L.length : Int) := by omega
      go_wp2
      go_quiet (fail)
      go_wp2
      go_roundw
      case rel => exact ⟨k + 1, by omega, by go_num, below_drewN hb _⟩
      case measure => simp [intOf]; omega
    · go_wp2
      go_ret
      exact ⟨rfl, hb⟩
end Go.Proofs.YtkacbmimmnlhlaaDoor
