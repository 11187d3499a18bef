/- For every line BreaksFills returns true: lines are those of the reference. No conditions. -/
import Derived.Test.YtcocnmpnbolpmaaDoorBrkRFill
import Derived.Test.YtcocnmpnbolpmaaDoorClsLaid
import Derived.Deep.RegionHeld3
import Derived.Deep.RegionWith
namespace Go.Proofs.YtcocnmpnbolpmaaDoor.breaksFills
open Go.ChangeShapes Go.WideShapes Go.ChangeAt Go.RowKit Go.Joins Go.Deep
set_option linter.unusedVariables false

theorem row_cut {w : World} {a : Option Addr} {c : Nat} {X W : List Int} (h : RowAt w (.slice a X.length c) (X.map (Value.int .i64))) (hl : W.length = min 40 X.length) (hW : X.take 40 = W) : RowAt w (.slice a W.length c) (W.map (Value.int .i64)) := by
  have := row_first h (m := W.length) (by rw [List.length_map]; omega)
  rwa [show (X.map (Value.int .i64)).take W.length = W.map (Value.int .i64) by rw [← List.map_take, hl, ← List.take_take, List.take_length, hW]] at this
theorem row_cutb {w : World} {a : Option Addr} {c : Nat} {X W : List Bool} (h : RowAt w (.slice a X.length c) (X.map Value.bool)) (hl : W.length = min 40 X.length) (hW : X.take 40 = W) : RowAt w (.slice a W.length c) (W.map Value.bool) := by
  have := row_first h (m := W.length) (by rw [List.length_map]; omega)
  rwa [show (X.map Value.bool).take W.length = W.map Value.bool by rw [← List.map_take, hl, ← List.take_take, List.take_length, hW]] at this
set_option maxRecDepth 100000 in
set_option maxHeartbeats 4000000 in
theorem walk (x0 : Value) (y0 : Value) (z0 : Value) (a0 : Int) (X0 : List Int) (Y0 : List Int) (Z0 : List Bool) (g : Nat × Nat) (wa0 : (Lit.int .i64 a0).wf = true) (w : World) (hl : Laid w g) (R0a : RowAt w x0 (X0.map (Value.int .i64)) ∧ X0.length ≤ maxLen ∧ ∀ a n c, x0 = .slice a n c → n ≤ c ∧ c ≤ maxLen) (R0b : RowAt w y0 (Y0.map (Value.int .i64)) ∧ Y0.length ≤ maxLen ∧ ∀ a n c, y0 = .slice a n c → n ≤ c ∧ c ≤ maxLen) (R0c : RowAt w z0 (Z0.map Value.bool) ∧ Z0.length ≤ maxLen ∧ ∀ a n c, z0 = .slice a n c → n ≤ c ∧ c ≤ maxLen) :
    Calls Tryd.prog 5 #[.agg #[x0, y0, z0, .int .i64 a0]] w fun e w' => e = .returned (.bool true) ∧ Below w.heap.size w w' := by
  have HL : Hid (∀ B, Below w.heap.size w B → Laid B g) := Lib.hid fun B hb => hl.mono hb
  have acc0 : Below w.heap.size w w := Below.refl _ _
  obtain ⟨k0, c0, hx, _⟩ := id R0a.1
  obtain ⟨k1, c1, hy, _⟩ := id R0b.1
  obtain ⟨k2, c2, hz, _⟩ := id R0c.1
  rw [List.length_map] at hx hy hz
  subst hx hy hz
  obtain ⟨r0, _, i0⟩ := R0a
  obtain ⟨r1, _, i1⟩ := R0b
  obtain ⟨r2, _, i2⟩ := R0c
  have j0 := i0 _ _ _ rfl
  have j1 := i1 _ _ _ rfl
  have j2 := i2 _ _ _ rfl
  obtain ⟨W, hWd⟩ : ∃ W, X0.take 40 = W := ⟨_, rfl⟩
  obtain ⟨M, hMd⟩ : ∃ M, Y0.take 40 = M := ⟨_, rfl⟩
  obtain ⟨S, hSd⟩ : ∃ S, Z0.take 40 = S := ⟨_, rfl⟩
  have lW : W.length = min 40 X0.length := by rw [← hWd, List.length_take]
  have lM : M.length = min 40 Y0.length := by rw [← hMd, List.length_take]
  have lS : S.length = min 40 Z0.length := by rw [← hSd, List.length_take]
  have Q0 := Lib.hid (row_cut r0 lW hWd)
  have Q1 := Lib.hid (row_cut r1 lM hMd)
  have Q2 := Lib.hid (row_cutb r2 lS hSd)
  have HCUT := Lib.hid (fun (V : World) => cut_way k0 k1 k2 X0.length Y0.length Z0.length c0 c1 c2 W.length M.length S.length a0 V j0.1 j1.1 j2.1 j0.2 j1.2 j2.2 (by omega) (by omega) (by omega))
  replace lW : W.length ≤ 40 := by omega
  replace lM : M.length ≤ 40 := by omega
  replace lS : S.length ≤ 40 := by omega
  clear r0 r1 r2 i0 i1 i2 j0 j1 j2 hWd hMd hSd wa0
  go_enter Tryd.func5, Tryd.ntmps5
  go_wp2_with fail
  obtain ⟨w1, hW1⟩ : ∃ W, w.alloc (.cells #[.slice k0 X0.length c0, .slice k1 Y0.length c1, .slice k2 Z0.length c2, .int .i64 a0] 37) = W := ⟨_, rfl⟩
  have hA1 : w1.heap[w.heap.size]? = some (.cells #[.slice k0 X0.length c0, .slice k1 Y0.length c1, .slice k2 Z0.length c2, .int .i64 a0] 37 (0, 0)) := by rw [← hW1]; exact World.alloc_heap_new w _
  have acc1 : Below w.heap.size w w1 := by rw [← hW1]; exact balloc (Below.refl _ _) _
  have hB1 : w.heap.size < w1.heap.size := by rw [← hW1]; simp
  rw [hW1]
  clear hW1
  refine (sane_any g _ (HL.out _ acc1)).mono ?_
  rintro e w2 ⟨rfl, hb2⟩
  have acc2 := bnext acc1 hb2
  have hA2 := (hb2.block w.heap.size hB1).trans hA1
  have hB2 := Nat.lt_of_lt_of_le hB1 hb2.size
  have e02 : w2.cell? ⟨w.heap.size, 0, none⟩ = some (.slice k0 X0.length c0) := by simp [World.cell?, hA2]
  have e12 : w2.cell? ⟨w.heap.size, 1, none⟩ = some (.slice k1 Y0.length c1) := by simp [World.cell?, hA2]
  have e22 : w2.cell? ⟨w.heap.size, 2, none⟩ = some (.slice k2 Z0.length c2) := by simp [World.cell?, hA2]
  have e32 : w2.cell? ⟨w.heap.size, 3, none⟩ = some (.int .i64 a0) := by simp [World.cell?, hA2]
  clear hA1 hB1 hb2 acc1
  go_wp2_with fail
  refine (HCUT.out w2).mono ?_
  rintro e w3 ⟨rfl, hb3⟩
  have acc3 := bnext acc2 hb3
  have hA3 := (hb3.block w.heap.size hB2).trans hA2
  have hB3 := Nat.lt_of_lt_of_le hB2 hb3.size
  have e03 : w3.cell? ⟨w.heap.size, 0, none⟩ = some (.slice k0 X0.length c0) := by simp [World.cell?, hA3]
  have e13 : w3.cell? ⟨w.heap.size, 1, none⟩ = some (.slice k1 Y0.length c1) := by simp [World.cell?, hA3]
  have e23 : w3.cell? ⟨w.heap.size, 2, none⟩ = some (.slice k2 Z0.length c2) := by simp [World.cell?, hA3]
  have e33 : w3.cell? ⟨w.heap.size, 3, none⟩ = some (.int .i64 a0) := by simp [World.cell?, hA3]
  have f03 : w3.frozen? ⟨w.heap.size, 0, none⟩ = false := by simp [World.frozen?, hA3]
  have f13 : w3.frozen? ⟨w.heap.size, 1, none⟩ = false := by simp [World.frozen?, hA3]
  have f23 : w3.frozen? ⟨w.heap.size, 2, none⟩ = false := by simp [World.frozen?, hA3]
  have f33 : w3.frozen? ⟨w.heap.size, 3, none⟩ = false := by simp [World.frozen?, hA3]
  clear e02 e12 e22 e32 hb3 acc2 hA2 hB2 HCUT
  have hZ := heap_setCell_same _ w.heap.size 3 _ 37 (.int .i64 a0) (heap_setCell_same _ w.heap.size 2 _ 37 (.slice k2 S.length c2) (heap_setCell_same _ w.heap.size 1 _ 37 (.slice k1 M.length c1) (heap_setCell_same w3 w.heap.size 0 _ 37 (.slice k0 W.length c0) hA3)))
  have HZ := Lib.hid hZ
  have acc4 : Below w.heap.size w ((((w3.setCell ⟨w.heap.size, 0, none⟩ (.slice k0 W.length c0)).setCell ⟨w.heap.size, 1, none⟩ (.slice k1 M.length c1)).setCell ⟨w.heap.size, 2, none⟩ (.slice k2 S.length c2)).setCell ⟨w.heap.size, 3, none⟩ (.int .i64 a0)) := bset (bset (bset (bset acc3 (Nat.le_refl _) _) (Nat.le_refl _) _) (Nat.le_refl _) _) (Nat.le_refl _) _
  have ACC4 := Lib.hid acc4
  clear hZ acc4 acc3 hA3 hB3
  go_wp2_with fail
  obtain ⟨w4, hW4⟩ : ∃ V, (((w3.setCell ⟨w.heap.size, 0, none⟩ (.slice k0 W.length c0)).setCell ⟨w.heap.size, 1, none⟩ (.slice k1 M.length c1)).setCell ⟨w.heap.size, 2, none⟩ (.slice k2 S.length c2)).setCell ⟨w.heap.size, 3, none⟩ (.int .i64 a0) = V := ⟨_, rfl⟩
  have hA4 : w4.heap[w.heap.size]? = some (.cells #[.slice k0 W.length c0, .slice k1 M.length c1, .slice k2 S.length c2, .int .i64 a0] 37 (0, 0)) := by rw [← hW4]; exact HZ.out
  have acc4 : Below w.heap.size w w4 := by rw [← hW4]; exact ACC4.out
  have hB4 : w.heap.size < w4.heap.size := (Array.getElem?_eq_some_iff.1 hA4).1
  rw [hW4]
  clear hW4 HZ ACC4 e03 e13 e23 e33 f03 f13 f23 f33
  have hn40 : BP.nOf W M S ≤ 40 := by unfold BP.nOf; omega
  have hL1 : (BP.Fill W M S a0).length = BP.nOf W M S := BP.Fl.length
  have KEEPS : Hid (∀ w', Below w4.heap.size w4 w' → w'.cell? ⟨w.heap.size, 0, none⟩ = some (.slice k0 W.length c0) ∧ w'.cell? ⟨w.heap.size, 1, none⟩ = some (.slice k1 M.length c1) ∧ w'.cell? ⟨w.heap.size, 2, none⟩ = some (.slice k2 S.length c2) ∧ w'.cell? ⟨w.heap.size, 3, none⟩ = some (.int .i64 a0)) := Lib.hid fun w' h => by
    have hA5 := (h.block w.heap.size hB4).trans hA4
    refine ⟨?_, ?_, ?_, ?_⟩ <;> simp [World.cell?, hA5]
  have HFA := Lib.hid fun (V : World) (hV : Below w4.heap.size w4 V) => fill_any W M S a0 (.slice k0 W.length c0) (.slice k1 M.length c1) (.slice k2 S.length c2) V (Q0.out.keep (bnext acc4 hV)) (Q1.out.keep (bnext acc4 hV)) (Q2.out.keep (bnext acc4 hV)) (by omega) (by omega) (by omega)
  have HFB := Lib.hid fun (V : World) (hV : Below w4.heap.size w4 V) => rfill_any W M S a0 (.slice k0 W.length c0) (.slice k1 M.length c1) (.slice k2 S.length c2) V (Q0.out.keep (bnext acc4 hV)) (Q1.out.keep (bnext acc4 hV)) (Q2.out.keep (bnext acc4 hV)) (by omega) (by omega) (by omega)
  have HIS := Lib.hid fun (u v : Value) (V : World) (hu : RowAt V u ((BP.Fill W M S a0).map (Value.int .i64))) (hv : RowAt V v ((BP.Fill W M S a0).map (Value.int .i64))) => is_any u v (BP.Fill W M S a0) V hu hv (by omega)
  obtain ⟨g0, g1, g2, g3⟩ := KEEPS.out w4 (Below.refl _ _)
  have ACC := Lib.hid acc4
  generalize BP.Fill W M S a0 = L at HFA HFB HIS
  clear hA4 hB4 acc4 Q0 Q1 Q2 hl hL1 hn40 lW lM lS 
  go_region_held3 (fun w' => w'.cell? ⟨w.heap.size, 0, none⟩ = some (.slice k0 W.length c0) ∧ w'.cell? ⟨w.heap.size, 1, none⟩ = some (.slice k1 M.length c1) ∧ w'.cell? ⟨w.heap.size, 2, none⟩ = some (.slice k2 S.length c2) ∧ w'.cell? ⟨w.heap.size, 3, none⟩ = some (.int .i64 a0)) ((refine KEEPS.out _ ?_; (repeat' (first | exact Below.refl _ _ | (with_reducible assumption) | (refine bnext ?_ (by with_reducible assumption)) | (refine balloc ?_ _) | (refine below_drewN ?_ _) | (refine Below.drew ?_))))) (first | (go_at_call 18; refine (HFA.out _ (by (repeat' (first | exact Below.refl _ _ | (with_reducible assumption) | (refine bnext ?_ (by with_reducible assumption)) | (refine balloc ?_ _) | (refine below_drewN ?_ _) | (refine Below.drew ?_))))).mono ?_; rintro e w5 ⟨va, rfl, sa, hb5⟩) | (go_at_call 19; refine (HFB.out _ (by (repeat' (first | exact Below.refl _ _ | (with_reducible assumption) | (refine bnext ?_ (by with_reducible assumption)) | (refine balloc ?_ _) | (refine below_drewN ?_ _) | (refine Below.drew ?_))))).mono ?_; rintro e w6 ⟨vb, rfl, sb, hb6⟩) | (go_at_call 11; refine (HIS.out _ _ _ (sa.keep (by (repeat' (first | exact Below.refl _ _ | (with_reducible assumption) | (refine bnext ?_ (by with_reducible assumption)) | (refine balloc ?_ _) | (refine below_drewN ?_ _) | (refine Below.drew ?_))))).row (sb.keep (by (repeat' (first | exact Below.refl _ _ | (with_reducible assumption) | (refine bnext ?_ (by with_reducible assumption)) | (refine balloc ?_ _) | (refine below_drewN ?_ _) | (refine Below.drew ?_))))).row).mono ?_; rintro e w7 ⟨rfl, hb7⟩))
  have hfin : Below w4.heap.size w4 w7 := (by (repeat' (first | exact Below.refl _ _ | (with_reducible assumption) | (refine bnext ?_ (by with_reducible assumption)) | (refine balloc ?_ _) | (refine below_drewN ?_ _) | (refine Below.drew ?_))))
  have HFIN := Lib.hid hfin
  clear hfin hb5 hb6 hb7 sa sb
  go_wp2
  go_ret
  exact ⟨rfl, by first | exact bnext ACC.out HFIN.out | exact below_drewN (bnext ACC.out HFIN.out) _⟩

set_option maxRecDepth 100000 in
theorem lifted (os : Os) (started : os.Started) (H : Type) (enc : TypeId × Value → H) :
    ReturnsInHanded {} Tryd.checked os 5 .any (fun w args => (Rows.breaksFillsSpec.pre enc Tryd.prog Tryd.f5 [] false w args ∧ laidMetH Tryd.prog laidL w) ∧ sizedMet enc Tryd.prog Tryd.f5 (OpenSpec.ofChange Rows.breaksFillsSpec) false w args)
      (Rows.breaksFillsSpec.post enc Tryd.prog Tryd.f5 false true false false) := by
  refine returnsInHanded_of_change_and (C := Tryd.checked) (X := fun w _ => laidMetH Tryd.prog laidL w) (fun _ _ _ hh h => h.of_heap hh) own started (by kernel_rfl) Tryd.func5
    (ChangeSpec.witness_shaped (enc := enc) (C := Tryd.checked) (os := os) (X := fun w _ => laidMetH Tryd.prog laidL w) false (World.doorLaid Tryd.prog 46 os) #[.agg #[.slice none 0 0, .slice none 0 0, .slice none 0 0, .int .i64 0]] 8 rfl (World.shaped_of_RefB (by kernel_rfl) (by kernel_rfl)) (by kernel_rfl) (by kernel_rfl) (by kernel_rfl) (door_met os _)) ?_
  intro W base args ds gs before hval0 hW _ _ hL _
  have hval : ∀ (j : Nat) t v, Tryd.f5.params[j]? = some t → args[j]? = some v → Value.okWide Tryd.prog W .any base t v := hval0
  have hW' := hW
  obtain ⟨p, q, hA0, hV, rfl, hfz, hnd⟩ := hW
  have hA : DataW.TrodAll enc Tryd.prog W 0 (fun _ => true) true Tryd.f5.params.toList args.toList ds p := hA0
  rw [Tryd.params5] at hA hval
  obtain ⟨v0, vs0, d0, ds0, p0, q0, hargs, rfl, rfl, h0, r0⟩ := trodAll_cons hA
  obtain ⟨rfl, rfl, rfl⟩ := trodAll_nil r0
  obtain rfl : args = #[v0] := by cases args; simp_all
  obtain ⟨rfl, rfl⟩ := trodVars_none hV
  obtain ⟨g, hlaid⟩ := of_laid hL
  have k0 := h0
  have lt0 : ∀ x ∈ p0, x.block < W.heap.size := by obtain ⟨m, hm⟩ := k0; exact DataW.trod_lt m _ _ _ hm
  obtain ⟨x0, y0, z0, a0, X0, Y0, Z0, rfl, wa0, R0a, R0b, R0c⟩ := open_line (hval 0 37 v0 rfl rfl) h0
  clear hA0 hval0
  refine (walk x0 y0 z0 a0 X0 Y0 Z0 g wa0 W hlaid R0a R0b R0c).mono fun e W' ⟨he, bel⟩ => ?_
  subst he
  exact ⟨_, rfl, _, _, _, [], _, [], hW', trodAll_mk1 (shut_bool Tryd.underlying4 _), (trodAll_cons_mk (Below.trod laidOut (by kernel_rfl) (of_decide_eq_true (by kernel_rfl)) k0 bel lt0) trodAll_mk0), rfl, bel.frame _, fun h => by cases h⟩

theorem over : Rows.breaksFillsRow.holds Tryd.pinned (OpenSpec.ofChange Rows.breaksFillsSpec) :=
  OpenClaim.holds_of_wide 5 Tryd.f5 rfl rfl rfl rfl rfl rfl rfl ⟨rfl, rfl, rfl, rfl, rfl⟩ rfl rfl rfl rfl rfl (by kernel_rfl) Tryd.func5 (by kernel_rfl)
    (of_decide_eq_true (by kernel_rfl)) (by unfold Func.isWrapper; first | (rw [if_pos (by decide +kernel)]; kernel_rfl) | (rw [if_neg (by decide +kernel)]; exact ⟨rfl, rfl⟩))
    (fun os started H enc _ => lifted os started H enc)

/-- The row's card, tied to the program's text. -/
theorem card : Rows.BreaksFillsCardSaid :=
  Claim7.holds_tied_plain_at .later [] [.data] true Rows.breaksFillsCard.stood.harness false
    over (fun _ h => by cases h) (by kernel_rfl) (fun _ h => by cases h) breaksFills_row_tie rfl ⟨rfl, rfl⟩ (by kernel_rfl) rfl
    (fun f fn hf hfn => by
      obtain rfl : f = 5 := Option.some.inj ((show Tryd.prog.funcNamed "abugida/abugidalaw08.BreaksFills" = some 5 by kernel_rfl).symm.trans hf) |>.symm
      obtain rfl : fn = Tryd.f5 := (Option.some.inj (Tryd.func5.symm.trans hfn)).symm
      exact ⟨by kernel_rfl, fun j t ht => by
        rw [Tryd.params5] at ht
        have hm : t ∈ [37] := by simpa using Array.mem_of_getElem? ht
        have hall : ([37].all fun u => !Tryd.prog.wantsStandIn u) = true := by kernel_rfl
        exact (show Tryd.prog.wantsStandIn t = false by simpa using List.all_eq_true.1 hall t hm)⟩)
    (by kernel_rfl)

end Go.Proofs.YtcocnmpnbolpmaaDoor.breaksFills
namespace Go.Proofs.YtcocnmpnbolpmaaDoor
theorem breaksFills_proved : Rows.BreaksFillsCardSaid := breaksFills.card
#print axioms breaksFills_proved
end Go.Proofs.YtcocnmpnbolpmaaDoor
