/- The contracts of the reference's Forms and Order. -/
import Derived.Test.YtkacbmimmnlhlaaDoorFrmRef
import Derived.Maps.AppendAt
import Derived.Deep.Cut
namespace Go.Proofs.YtkacbmimmnlhlaaDoor
set_option linter.unusedVariables false
open Go.RowKit Go.Shelf Go.Deep
theorem own_of_grown {w w' : World} {B e n size : Nat} {v : Value} {xs : List Value} {row : Option Nat} (h : w.ownsRow B e size v n xs) (hg : w.grownBy w' row) (hr : ∀ q, v.ownBlock = some q → row ≠ some q) : w'.ownsRow B e size v n xs :=
  h.kept (row := row) hg (by cases hw : v.ownBlock with | none => exact Or.inl rfl | some q => exact Or.inr (fun e => hr q hw e.symm))
set_option maxRecDepth 100000 in
set_option maxHeartbeats 4000000 in
theorem rforms_any (s : ByteArray) (w : World) (hs : s.size ≤ 1000000000) :
    Calls Tryd.prog 13 #[.string s] w fun e W' => ∃ v', e = .returned v' ∧ W'.ownsRow w.heap.size 3 1 v' (CP.split s).length ((FP.forms s).map (Value.int .i64)) ∧ Below w.heap.size w W' := by
  obtain ⟨i0, hi, hz0, hz1, hz2⟩ := info_parts info_int
  have hlen : (CP.split s).length ≤ 1000000000 := Nat.le_trans (CP.split_length s) hs
  have HF : Hid (∀ k, k < (CP.split s).length → (FP.forms s).take (k + 1) = (FP.forms s).take k ++ [FP.frm s (CP.split s) k]) := Lib.hid fun k hk => by
    rw [List.take_add_one, FP.forms_get hk]; rfl
  have hfl := FP.forms_length s
  go_enter Tryd.func13, Tryd.ntmps13
  go_wp2_with fail
  refine (rsplit_any s _ hs).mono ?_
  rintro e w1 ⟨vs, rfl, os, hb1⟩
  have hsp := own_srcP os
  obtain ⟨ao, ac, rfl, hr⟩ := id hsp
  have HSP := Lib.hid hsp
  have HB1 := Lib.hid hb1
  have HR := Lib.hid hr
  obtain ⟨n, hn⟩ : ∃ n, (CP.split s).length = n := ⟨_, rfl⟩
  have HN := Lib.hid hn
  rw [hn] at hlen hfl ⊢
  clear os hb1 hr hsp hn
  go_wp2_with fail
  go_loopw [4, 5] (fun v4 v5 wr => ∃ k : Nat, v5 = .int .i64 k ∧ k ≤ n ∧ wr.ownsRow w1.heap.size 3 1 v4 k (((FP.forms s).take k).map (Value.int .i64)) ∧ Below w1.heap.size w1 wr) (fun _ v _ => n - (intOf v).toNat)
  case atStart => exact ⟨0, rfl, Nat.zero_le _, World.ownsRow_nil _ _ _ _, Below.refl _ _⟩
  case round =>
    obtain ⟨k, rfl, hk, hrow, hb⟩ := hrel
    have hbs := hb.size
    by_cases h1 : k < n
    · have h1i : (k : Int) < (n : Int) := by omega
      have h1n : k < (CP.split s).length := by rw [HN.out]; exact h1
      obtain ⟨x, hx⟩ : ∃ x, (CP.split s)[k]? = some x := ⟨_, List.getElem?_eq_getElem h1n⟩
      have hp := CP.sp_mem (CP.sp_split s) x (List.mem_of_getElem? hx)
      obtain ⟨g2, rfl, hg2, hcell⟩ := HR.out.resolve_left (by intro e; rw [e] at h1n; simp at h1n)
      obtain ⟨e0, e1⟩ := hcell k x hx
      replace e0 := (hb.cell (World.block_lt_of_cell? _ _ e0)).trans e0
      replace e1 := (hb.cell (World.block_lt_of_cell? _ _ e1)).trans e1
      have hff := HF.out k h1n
      generalize (FP.forms s).take k = Q at hrow hff
      have hfol : FP.fol s (CP.split s) k = FP.lt (FP.hd s x) := FP.fol_at hx
      have hjo : FP.fol s (CP.split s) k = true → FP.tox s (CP.split s) k = FP.ron s ((k : Int) - 1) := fun h => by
        unfold FP.tox FP.ron
        rw [h, Bool.true_and]
        by_cases h0 : 0 < k
        · rw [decide_eq_true h0, if_neg (by omega), show ((k : Int) - 1).toNat = k - 1 by omega]; rfl
        · rw [decide_eq_false h0, if_pos (by omega)]; rfl
      have hon : FP.ron s (k : Int) = FP.onx s (CP.split s) k := by unfold FP.ron; rw [if_neg (by omega), Int.toNat_natCast]
      have hv : FP.frm s (CP.split s) k = if FP.lt (FP.hd s x) then (if FP.ron s ((k : Int) - 1) then (if FP.ron s (k : Int) then 3 else 4) else (if FP.ron s (k : Int) then 2 else 1)) else 0 := by
        unfold FP.frm
        rw [hon, ← hfol]
        cases h : FP.fol s (CP.split s) k with
        | true => rw [hjo h]
        | false => rfl
      rw [hv] at hff
      have HH := Lib.hid fun V => rhead_any s x V hs hp.1 hp.2
      have HJ := Lib.hid fun V (hV : Below w1.heap.size w1 V) => ron_any s (.slice (some ⟨g2, 0, none⟩) (CP.split s).length ac) ((k : Int) - 1) V hs (HSP.out.keep hV) (by omega) (by omega)
      have HO := Lib.hid fun V (hV : Below w1.heap.size w1 V) => ron_any s (.slice (some ⟨g2, 0, none⟩) (CP.split s).length ac) (k : Int) V hs (HSP.out.keep hV) (by omega) (by omega)
      rw [HN.out] at HJ HO
      generalize FP.hd s x = c at HH hff
      have HL := Lib.hid fun V => rletter_any c V
      generalize FP.lt c = F at HL hff
      generalize FP.ron s ((k : Int) - 1) = J at HJ hff
      generalize FP.ron s (k : Int) = O at HO hff
      have hk1 : IntKind.i64.wrap ((k : Int) - 1) = (k : Int) - 1 := by rw [IntKind.wrap_i64]; omega
      obtain ⟨x1, x2⟩ := x
      simp only at e0 e1 HH
      have HFF := Lib.hid hff
      have HB := Lib.hid hb
      have HROW := Lib.hid hrow
      obtain ⟨va, vc, rfl⟩ := own_shape hrow
      clear hcell hx hp hfol hjo hon hv hff hb hrow h1n HF HR hk1
      go_wp2_with fail
      refine (HH.out _).mono ?_
      rintro e w2 ⟨rfl, hb2⟩
      have HB2 := Lib.hid (bnext HB.out hb2)
      have HW2 := Lib.hid hb2
      clear hb2 e0 e1
      go_wp2_with fail
      refine (HJ.out _ HB2.out).mono ?_
      rintro e w3 ⟨rfl, hb3⟩
      have HB3 := Lib.hid (bnext HB2.out hb3)
      have HW3 := Lib.hid (bnext HW2.out hb3)
      clear hb3
      go_wp2_with fail
      refine (HO.out _ HB3.out).mono ?_
      rintro e w4 ⟨rfl, hb4⟩
      have HB4 := Lib.hid (bnext HB3.out hb4)
      have HROW4 := Lib.hid (own_below HROW.out (bnext HW3.out hb4))
      have hb4s := HB4.out.size
      clear hb4 HB2 HB3 HW2 HW3 HJ HO HH HROW
      cases F with
      | false =>
        go_wp2_with fail
        refine (HL.out _).mono ?_
        rintro e _ ⟨rfl, rfl⟩
        go_wp2_with (at_builtin; refine wpList_append_own _ rfl _ _ 22 rfl w1.heap.size 3 i0 (.int .i64 0) 1 8 Tryd.underlying22 hi hz0 hz1 hz2 rfl (by decide) _ _ _ rfl (HROW4.out.alloc _) ⟨w4.heap.size, 0, none⟩ 1 1 [.int .i64 0] rfl rfl (cell_one_new w4 _ _) (by simp [Value.oneCell']) (by unfold maxLen; omega) (by omega) (by simp; omega) ?_; intro v' w5 hown hgrow _; obtain ⟨g5, capg5, rfl⟩ := ownsRow_succ hown)
        go_roundw
        case rel => exact ⟨k + 1, by go_num, h1, by rw [HFF.out, List.map_append]; exact hown, span_app HROW4.out HB4.out hgrow⟩
        case measure => simp [intOf]; omega
      | true =>
        cases J with
        | true =>
          cases O with
          | true =>
            go_wp2_with fail
            refine (HL.out _).mono ?_
            rintro e _ ⟨rfl, rfl⟩
            go_wp2_with (at_builtin; refine wpList_append_own _ rfl _ _ 22 rfl w1.heap.size 3 i0 (.int .i64 0) 1 8 Tryd.underlying22 hi hz0 hz1 hz2 rfl (by decide) _ _ _ rfl (HROW4.out.alloc _) ⟨w4.heap.size, 0, none⟩ 1 1 [.int .i64 3] rfl rfl (cell_one_new w4 _ _) (by simp [Value.oneCell']) (by unfold maxLen; omega) (by omega) (by simp; omega) ?_; intro v' w5 hown hgrow _; obtain ⟨g5, capg5, rfl⟩ := ownsRow_succ hown)
            go_roundw
            case rel => exact ⟨k + 1, by go_num, h1, by rw [HFF.out, List.map_append]; exact hown, span_app HROW4.out HB4.out hgrow⟩
            case measure => simp [intOf]; omega
          | false =>
            go_wp2_with fail
            refine (HL.out _).mono ?_
            rintro e _ ⟨rfl, rfl⟩
            go_wp2_with (at_builtin; refine wpList_append_own _ rfl _ _ 22 rfl w1.heap.size 3 i0 (.int .i64 0) 1 8 Tryd.underlying22 hi hz0 hz1 hz2 rfl (by decide) _ _ _ rfl (HROW4.out.alloc _) ⟨w4.heap.size, 0, none⟩ 1 1 [.int .i64 4] rfl rfl (cell_one_new w4 _ _) (by simp [Value.oneCell']) (by unfold maxLen; omega) (by omega) (by simp; omega) ?_; intro v' w5 hown hgrow _; obtain ⟨g5, capg5, rfl⟩ := ownsRow_succ hown)
            go_roundw
            case rel => exact ⟨k + 1, by go_num, h1, by rw [HFF.out, List.map_append]; exact hown, span_app HROW4.out HB4.out hgrow⟩
            case measure => simp [intOf]; omega
        | false =>
          cases O with
          | true =>
            go_wp2_with fail
            refine (HL.out _).mono ?_
            rintro e _ ⟨rfl, rfl⟩
            go_wp2_with (at_builtin; refine wpList_append_own _ rfl _ _ 22 rfl w1.heap.size 3 i0 (.int .i64 0) 1 8 Tryd.underlying22 hi hz0 hz1 hz2 rfl (by decide) _ _ _ rfl (HROW4.out.alloc _) ⟨w4.heap.size, 0, none⟩ 1 1 [.int .i64 2] rfl rfl (cell_one_new w4 _ _) (by simp [Value.oneCell']) (by unfold maxLen; omega) (by omega) (by simp; omega) ?_; intro v' w5 hown hgrow _; obtain ⟨g5, capg5, rfl⟩ := ownsRow_succ hown)
            go_roundw
            case rel => exact ⟨k + 1, by go_num, h1, by rw [HFF.out, List.map_append]; exact hown, span_app HROW4.out HB4.out hgrow⟩
            case measure => simp [intOf]; omega
          | false =>
            go_wp2_with fail
            refine (HL.out _).mono ?_
            rintro e _ ⟨rfl, rfl⟩
            go_wp2_with (at_builtin; refine wpList_append_own _ rfl _ _ 22 rfl w1.heap.size 3 i0 (.int .i64 0) 1 8 Tryd.underlying22 hi hz0 hz1 hz2 rfl (by decide) _ _ _ rfl (HROW4.out.alloc _) ⟨w4.heap.size, 0, none⟩ 1 1 [.int .i64 1] rfl rfl (cell_one_new w4 _ _) (by simp [Value.oneCell']) (by unfold maxLen; omega) (by omega) (by simp; omega) ?_; intro v' w5 hown hgrow _; obtain ⟨g5, capg5, rfl⟩ := ownsRow_succ hown)
            go_roundw
            case rel => exact ⟨k + 1, by go_num, h1, by rw [HFF.out, List.map_append]; exact hown, span_app HROW4.out HB4.out hgrow⟩
            case measure => simp [intOf]; omega
    · obtain rfl : k = n := by omega
      rw [List.take_of_length_le (Nat.le_of_eq hfl)] at hrow
      have HROW := Lib.hid (own_base hrow HB1.out.size)
      clear hrow HF HR
      go_wp2
      go_ret
      exact ⟨_, rfl, by rw [HN.out]; exact HROW.out, bnext HB1.out hb⟩
end Go.Proofs.YtkacbmimmnlhlaaDoor
