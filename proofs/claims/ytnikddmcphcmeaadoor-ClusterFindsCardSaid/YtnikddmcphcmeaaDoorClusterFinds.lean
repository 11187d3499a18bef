/- For every list of numbers, every place and every piece ClusterFinds returns true: At and Base are those of the reference. No conditions. -/
import Derived.Test.YtnikddmcphcmeaaDoorCluSane
import Derived.Test.YtnikddmcphcmeaaDoorClsLaid
import Derived.ChangeMaps5
import Derived.Deep.RegionHeld3
import Derived.Deep.RegionWith
namespace Go.Proofs.YtnikddmcphcmeaaDoor.clusterFinds
open Go.ChangeShapes Go.WideShapes Go.ChangeAt Go.RowKit Go.Joins Go.Deep Go.ChangeMaps
set_option linter.unusedVariables false

theorem made_of {v : Value} {a : List Int} {w W : World} (n : Nat) (hn : n ≤ 1000) (hv : RowAt w v (a.map (Value.int .i64))) (hL : a.length ≤ maxLen) (hb : Below w.heap.size w W) :
    Calls Tryd.prog 11 #[v, .int .i64 n] W fun e W' => ∃ t : ByteArray, e = .returned (.string t) ∧ t.size ≤ n ∧ Below W.heap.size W W' :=
  made_any v (a.map (Value.int .i64)) n W (hv.keep hb) (fun k hk => ⟨a.getD k 0, by simp at hk; simp [List.getD, hk]⟩) (by simpa using hL) hn
theorem kp {W w' : World} {b : Nat} {x y : Value} (q0 : W.cell? ⟨b, 0, none⟩ = some x) (q1 : W.cell? ⟨b, 1, none⟩ = some y) (h : Below W.heap.size W w') : Below W.heap.size W w' ∧ w'.cell? ⟨b, 0, none⟩ = some x ∧ w'.cell? ⟨b, 1, none⟩ = some y :=
  ⟨h, (h.cell (World.block_lt_of_cell? W _ q0)).trans q0, (h.cell (World.block_lt_of_cell? W _ q1)).trans q1⟩
set_option maxRecDepth 100000 in
set_option maxHeartbeats 2000000 in
theorem walk (v0 : Value) (a0 : List Int) (a1 : Int) (a2 : Int) (b2 : Int) (g : Nat × Nat) (wa1 : (Lit.int .i64 a1).wf = true) (wa2 : (Lit.int .i64 a2).wf = true) (wb2 : (Lit.int .i64 b2).wf = true) (w : World) (hl : Laid w g) (H0 : RowAt w v0 (a0.map (Value.int .i64))) (L0 : a0.length ≤ maxLen ∧ ∀ a n c, v0 = .slice a n c → n ≤ c) (E0 : ∀ x, x ∈ a0 → -9223372036854775808 ≤ x ∧ x ≤ 9223372036854775807) :
    Calls Tryd.prog 4 #[v0, .int .i64 a1, .agg #[.int .i64 a2, .int .i64 b2]] w fun e w' => e = .returned (.bool true) ∧ Below w.heap.size w w' := by
  have HL : Hid (∀ B, Below w.heap.size w B → Laid B g) := Lib.hid fun B hb => hl.mono hb
  have acc0 : Below w.heap.size w w := Below.refl _ _
  have HM := Lib.hid (fun W (hb : Below w.heap.size w W) => made_of 40 (by omega) H0 L0.1 hb)
  clear H0 E0
  go_enter Tryd.func4, Tryd.ntmps4
  go_wp2_with fail
  refine (sane_any g _ (HL.out _ (balloc acc0 _))).mono ?_
  rintro e w1 ⟨rfl, hb1⟩
  have acc1 := bnext (balloc acc0 _) hb1
  have c0 := (hb1.cell (p := ⟨w.heap.size, 0, none⟩) (by simp)).trans (two_cells (World.alloc_heap_new w _)).1
  have c1 := (hb1.cell (p := ⟨w.heap.size, 1, none⟩) (by simp)).trans (two_cells (World.alloc_heap_new w _)).2
  have hw1 : w.heap.size < w1.heap.size := by have := hb1.size; simp at this; omega
  go_wp2_with fail
  refine (HM.out _ acc1).mono ?_
  rintro e w2 ⟨t, rfl, ht, hb2⟩
  have acc2 := bnext acc1 hb2
  replace c0 := (hb2.cell (p := ⟨w.heap.size, 0, none⟩) hw1).trans c0
  replace c1 := (hb2.cell (p := ⟨w.heap.size, 1, none⟩) hw1).trans c1
  have hw2 : w.heap.size < w2.heap.size := Nat.lt_of_lt_of_le hw1 hb2.size
  have ht1 : t.size ≤ 1000000000 := by omega
  clear hb1 hb2 acc0 acc1 hw1
  go_wp2_with fail
  go_loopw [9] (fun v wr => ∃ k : Int, v = .int .i64 k ∧ -1 ≤ k ∧ k ≤ (t.size : Int) + 1 ∧ Below w2.heap.size w2 wr) (fun v _ => (t.size + 1 - intOf v).toNat)
  case atStart => exact ⟨-1, rfl, by omega, by omega, Below.refl _ _⟩
  case round =>
    obtain ⟨k, rfl, hk0, hk1, hb⟩ := hrel
    have d1 := (hb.cell (p := ⟨w.heap.size, 1, none⟩) hw2).trans c1
    by_cases hk : k ≤ (t.size : Int)
    · obtain ⟨y, hy⟩ : ∃ y, wrap64 (k + bits BinOp.and IntKind.i64 b2 7) = y := ⟨_, rfl⟩
      go_wp2_with fail
      try rw [hy]
      obtain ⟨W, hW⟩ : ∃ W, wr.alloc (.cells #[.int .i64 k, .int .i64 y] 30) = W := ⟨_, rfl⟩
      have q0 : W.cell? ⟨wr.heap.size, 0, none⟩ = some (.int .i64 k) := by rw [← hW]; exact (two_cells (World.alloc_heap_new wr _)).1
      have q1 : W.cell? ⟨wr.heap.size, 1, none⟩ = some (.int .i64 y) := by rw [← hW]; exact (two_cells (World.alloc_heap_new wr _)).2
      have hbW : Below wr.heap.size wr W := by rw [← hW]; exact balloc (Below.refl _ _) _
      have HLW : Hid (∀ B, Below W.heap.size W B → Laid B g) := Lib.hid fun B hB => HL.out _ (acc2.trans (((bnext hb hbW).trans (hB.mono (bnext hb hbW).size)).mono (Nat.le_of_lt (by have := acc2.size; omega))))
      rw [hW]
      obtain ⟨X, hX⟩ : ∃ X, CP.at' t k = X := ⟨_, rfl⟩
      obtain ⟨Y, hY⟩ : ∃ Y, CP.base t k y = Y := ⟨_, rfl⟩
      have hXX : (X != X) = false := by simp
      have hYY : (Y != Y) = false := by simp
      have HA1 := Lib.hid fun V (hV : Laid V g) => at_any t k g V hV ht1
      have HA2 := Lib.hid fun V => rat_any t k V ht1
      have HB1 := Lib.hid fun V (hV : Laid V g) => base_any t k y g V hV ht1
      have HB2 := Lib.hid fun V => rbase_any t k y V ht1
      rw [hX] at HA1 HA2
      rw [hY] at HB1 HB2
      clear hW hX hY hy c0 c1 d1
      go_region_held3 (fun w' => Below W.heap.size W w' ∧ w'.cell? ⟨wr.heap.size, 0, none⟩ = some (.int .i64 k) ∧ w'.cell? ⟨wr.heap.size, 1, none⟩ = some (.int .i64 y)) ((refine kp q0 q1 ?_; (repeat' (first | exact Below.refl _ _ | (with_reducible assumption) | (refine bnext ?_ (by with_reducible assumption)) | (refine balloc ?_ _) | (refine below_drewN ?_ _) | (refine Below.drew ?_))))) (first | (go_at_call 15; refine (HA1.out _ (HLW.out _ (by (repeat' (first | exact Below.refl _ _ | (with_reducible assumption) | (refine bnext ?_ (by with_reducible assumption)) | (refine balloc ?_ _) | (refine below_drewN ?_ _) | (refine Below.drew ?_)))))).mono ?_; rintro e w5 ⟨rfl, hb5⟩) | (go_at_call 16; refine (HA2.out _).mono ?_; rintro e w6 ⟨rfl, hb6⟩) | (go_at_call 17; refine (HB1.out _ (HLW.out _ (by (repeat' (first | exact Below.refl _ _ | (with_reducible assumption) | (refine bnext ?_ (by with_reducible assumption)) | (refine balloc ?_ _) | (refine below_drewN ?_ _) | (refine Below.drew ?_)))))).mono ?_; rintro e w7 ⟨rfl, hb7⟩) | (go_at_call 18; refine (HB2.out _).mono ?_; rintro e w8 ⟨rfl, hb8⟩))
      have hS : Below wr.heap.size wr w8 := bnext hbW (‹Below W.heap.size W w8 ∧ w8.cell? ⟨wr.heap.size, 0, none⟩ = some (.int .i64 k) ∧ w8.cell? ⟨wr.heap.size, 1, none⟩ = some (.int .i64 y)›).1
      have HBS := Lib.hid hS
      clear hb5 hb6 hb7 hb8 q0 q1 hbW hS HA1 HA2 HB1 HB2 HLW hXX hYY
      go_wp2
      go_roundw
      case rel => exact ⟨k + 1, by go_num, by omega, by omega, bnext hb HBS.out⟩
      case measure => simp [intOf]; omega
    · have d0 := (hb.cell (p := ⟨w.heap.size, 0, none⟩) hw2).trans c0
      have HLW : Hid (∀ B, Below wr.heap.size wr B → Laid B g) := Lib.hid fun B hB => HL.out _ (bnext acc2 (bnext hb hB))
      obtain ⟨X, hX⟩ : ∃ X, CP.at' t a1 = X := ⟨_, rfl⟩
      obtain ⟨Y, hY⟩ : ∃ Y, CP.base t a2 b2 = Y := ⟨_, rfl⟩
      have hXX : (X == X) = true := by simp
      have hYY : (Y == Y) = true := by simp
      have HA1 := Lib.hid fun V (hV : Laid V g) => at_any t a1 g V hV ht1
      have HA2 := Lib.hid fun V => rat_any t a1 V ht1
      have HB1 := Lib.hid fun V (hV : Laid V g) => base_any t a2 b2 g V hV ht1
      have HB2 := Lib.hid fun V => rbase_any t a2 b2 V ht1
      rw [hX] at HA1 HA2
      rw [hY] at HB1 HB2
      clear hX hY c0 c1
      go_wp2_with fail
      go_region_held3 (fun w' => Below wr.heap.size wr w' ∧ w'.cell? ⟨w.heap.size, 0, none⟩ = some (.int .i64 a2) ∧ w'.cell? ⟨w.heap.size, 1, none⟩ = some (.int .i64 b2)) ((refine kp d0 d1 ?_; (repeat' (first | exact Below.refl _ _ | (with_reducible assumption) | (refine bnext ?_ (by with_reducible assumption)) | (refine balloc ?_ _) | (refine below_drewN ?_ _) | (refine Below.drew ?_))))) (first | (go_at_call 15; refine (HA1.out _ (HLW.out _ (by (repeat' (first | exact Below.refl _ _ | (with_reducible assumption) | (refine bnext ?_ (by with_reducible assumption)) | (refine balloc ?_ _) | (refine below_drewN ?_ _) | (refine Below.drew ?_)))))).mono ?_; rintro e w5 ⟨rfl, hb5⟩) | (go_at_call 16; refine (HA2.out _).mono ?_; rintro e w6 ⟨rfl, hb6⟩) | (go_at_call 17; refine (HB1.out _ (HLW.out _ (by (repeat' (first | exact Below.refl _ _ | (with_reducible assumption) | (refine bnext ?_ (by with_reducible assumption)) | (refine balloc ?_ _) | (refine below_drewN ?_ _) | (refine Below.drew ?_)))))).mono ?_; rintro e w7 ⟨rfl, hb7⟩) | (go_at_call 18; refine (HB2.out _).mono ?_; rintro e w8 ⟨rfl, hb8⟩))
      have hS : Below wr.heap.size wr w8 := (‹Below wr.heap.size wr w8 ∧ w8.cell? ⟨w.heap.size, 0, none⟩ = some (.int .i64 a2) ∧ w8.cell? ⟨w.heap.size, 1, none⟩ = some (.int .i64 b2)›).1
      have HBS := Lib.hid hS
      clear hb5 hb6 hb7 hb8 hS
      go_wp2
      go_ret
      exact ⟨rfl, bnext acc2 (bnext hb HBS.out)⟩

set_option maxRecDepth 100000 in
theorem lifted (os : Os) (started : os.Started) (H : Type) (enc : TypeId × Value → H) :
    ReturnsInHanded {} Tryd.checked os 4 .any (fun w args => (Rows.clusterFindsSpec.pre enc Tryd.prog Tryd.f4 [] false w args ∧ laidMetH Tryd.prog laidL w) ∧ sizedMet enc Tryd.prog Tryd.f4 (OpenSpec.ofChange Rows.clusterFindsSpec) false w args)
      (Rows.clusterFindsSpec.post enc Tryd.prog Tryd.f4 false true false false) := by
  refine returnsInHanded_of_change_and (C := Tryd.checked) (X := fun w _ => laidMetH Tryd.prog laidL w) (fun _ _ _ hh h => h.of_heap hh) own started (by kernel_rfl) Tryd.func4
    (ChangeSpec.witness_shaped (enc := enc) (C := Tryd.checked) (os := os) (X := fun w _ => laidMetH Tryd.prog laidL w) false (World.doorLaid Tryd.prog 46 os) #[.slice none 0 0, .int .i64 0, .agg #[.int .i64 0, .int .i64 0]] 8 rfl (World.shaped_of_RefB (by kernel_rfl) (by kernel_rfl)) (by kernel_rfl) (by kernel_rfl) (by kernel_rfl) (door_met os _)) ?_
  intro W base args ds gs before hval0 hW _ _ hL _
  have hval : ∀ (j : Nat) t v, Tryd.f4.params[j]? = some t → args[j]? = some v → Value.okWide Tryd.prog W .any base t v := hval0
  have hW' := hW
  obtain ⟨p, q, hA0, hV, rfl, hfz, hnd⟩ := hW
  have hA : DataW.TrodAll enc Tryd.prog W 0 (fun _ => true) true Tryd.f4.params.toList args.toList ds p := hA0
  rw [Tryd.params4] at hA hval
  obtain ⟨v0, vs0, d0, ds0, p0, q0, hargs, rfl, rfl, h0, r0⟩ := trodAll_cons hA
  obtain ⟨v1, vs1, d1, ds1, p1, q1, rfl, rfl, rfl, h1, r1⟩ := trodAll_cons r0
  obtain ⟨v2, vs2, d2, ds2, p2, q2, rfl, rfl, rfl, h2, r2⟩ := trodAll_cons r1
  obtain ⟨rfl, rfl, rfl⟩ := trodAll_nil r2
  obtain rfl : args = #[v0, v1, v2] := by cases args; simp_all
  obtain ⟨rfl, rfl⟩ := trodVars_none hV
  obtain ⟨g, hlaid⟩ := of_laid hL
  have k0 := h0
  have lt0 : ∀ x ∈ p0, x.block < W.heap.size := by obtain ⟨m, hm⟩ := k0; exact DataW.trod_lt m _ _ _ hm
  have k1 := h1
  have lt1 : ∀ x ∈ p1, x.block < W.heap.size := by obtain ⟨m, hm⟩ := k1; exact DataW.trod_lt m _ _ _ hm
  have k2 := h2
  have lt2 : ∀ x ∈ p2, x.block < W.heap.size := by obtain ⟨m, hm⟩ := k2; exact DataW.trod_lt m _ _ _ hm
  obtain ⟨a0, H0, L0, E0⟩ := open_l (hval 0 22 v0 rfl rfl) h0
  obtain ⟨a1, rfl, rfl, rfl, wa1⟩ := open_int Tryd.underlying3 (hval 1 3 v1 rfl rfl) h1
  obtain ⟨a2, b2, rfl, wa2, wb2⟩ := open_pair Tryd.underlying30 (by kernel_rfl) (by kernel_rfl) rfl rfl Tryd.underlying3 (hval 2 30 v2 rfl rfl) h2
  clear hA0 hval0
  refine (walk v0 a0 a1 a2 b2 g wa1 wa2 wb2 W hlaid H0 L0 E0).mono fun e W' ⟨he, bel⟩ => ?_
  subst he
  exact ⟨_, rfl, _, _, _, [], _, [], hW', trodAll_mk1 (shut_bool Tryd.underlying4 _), (trodAll_cons_mk (Below.trod laidOut (by kernel_rfl) (of_decide_eq_true (by kernel_rfl)) k0 bel lt0) (trodAll_cons_mk (Below.trod laidOut (by kernel_rfl) (of_decide_eq_true (by kernel_rfl)) k1 bel lt1) (trodAll_cons_mk (Below.trod laidOut (by kernel_rfl) (of_decide_eq_true (by kernel_rfl)) k2 bel lt2) trodAll_mk0))), rfl, bel.frame _, fun h => by cases h⟩

theorem over : Rows.clusterFindsRow.holds Tryd.pinned (OpenSpec.ofChange Rows.clusterFindsSpec) :=
  OpenClaim.holds_of_wide 4 Tryd.f4 rfl rfl rfl rfl rfl rfl rfl ⟨rfl, rfl, rfl, rfl, rfl⟩ rfl rfl rfl rfl rfl (by kernel_rfl) Tryd.func4 (by kernel_rfl)
    (of_decide_eq_true (by kernel_rfl)) (by unfold Func.isWrapper; first | (rw [if_pos (by decide +kernel)]; kernel_rfl) | (rw [if_neg (by decide +kernel)]; exact ⟨rfl, rfl⟩))
    (fun os started H enc _ => lifted os started H enc)

/-- The row's card, tied to the program's text. -/
theorem card : Rows.ClusterFindsCardSaid :=
  Claim7.holds_tied_plain_at .later [] [.data] true Rows.clusterFindsCard.stood.harness false
    over (fun _ h => by cases h) (by kernel_rfl) (fun _ h => by cases h) clusterFinds_row_tie rfl ⟨rfl, rfl⟩ (by kernel_rfl) rfl
    (fun f fn hf hfn => by
      obtain rfl : f = 4 := Option.some.inj ((show Tryd.prog.funcNamed "abugida/abugidalaw06.ClusterFinds" = some 4 by kernel_rfl).symm.trans hf) |>.symm
      obtain rfl : fn = Tryd.f4 := (Option.some.inj (Tryd.func4.symm.trans hfn)).symm
      exact ⟨by kernel_rfl, fun j t ht => by
        rw [Tryd.params4] at ht
        have hm : t ∈ [22, 3, 30] := by simpa using Array.mem_of_getElem? ht
        have hall : ([22, 3, 30].all fun u => !Tryd.prog.wantsStandIn u) = true := by kernel_rfl
        exact (show Tryd.prog.wantsStandIn t = false by simpa using List.all_eq_true.1 hall t hm)⟩)
    (by kernel_rfl)

end Go.Proofs.YtnikddmcphcmeaaDoor.clusterFinds
namespace Go.Proofs.YtnikddmcphcmeaaDoor
theorem clusterFinds_proved : Rows.ClusterFindsCardSaid := clusterFinds.card
#print axioms clusterFinds_proved
end Go.Proofs.YtnikddmcphcmeaaDoor
