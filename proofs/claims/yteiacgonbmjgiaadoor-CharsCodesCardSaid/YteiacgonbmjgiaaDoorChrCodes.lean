/- For every script CharsCodes returns true: the characters of a script are those of the reference. No conditions. -/
import Derived.Test.YteiacgonbmjgiaaDoorChrLaid
namespace Go.Proofs.YteiacgonbmjgiaaDoor.charsCodes
open Go.ChangeShapes Go.WideShapes Go.ChangeAt Go.RowKit Go.Joins Go.Deep
set_option linter.unusedVariables false

theorem own_at {w : World} {B e n : Nat} {v : Value} {xs : List Value} (h : w.ownsRow B e 1 v n xs) (hn : 0 < n) : ∃ g cap, v = .slice (some ⟨g, 0, none⟩) n cap ∧ g < w.heap.size ∧ ∀ j u, xs[j]? = some u → w.cell? ⟨g, j, none⟩ = some u := by
  rcases h.2 with ⟨rfl, rfl⟩ | ⟨g, cap, cur, rfl, hb, hg, _⟩
  · omega
  · refine ⟨g, cap, rfl, (Array.getElem?_eq_some_iff.1 hg).1, fun j u hu => ?_⟩
    have := h.cells (g := g) rfl j u hu
    rw [add_plain] at this
    simpa using this
theorem ints_at' {w : World} {g : Nat} {l : List Int} (h : ∀ (j : Nat) u, (l.map (Value.int .i64))[j]? = some u → w.cell? ⟨g, j, none⟩ = some u) : ∀ j, j < l.length → w.cell? ⟨g, j, none⟩ = some (.int .i64 (l.getD j 0)) := fun j hj => h j _ (by simp [hj])

set_option maxRecDepth 100000 in
set_option maxHeartbeats 1000000 in
theorem walk (a0 : Int) (g : Nat × Nat) (wa0 : (Lit.int .i64 a0).wf = true) (w : World) (hl : Laid w g) :
    Calls Tryd.prog 4 #[.int .i64 a0] w fun e w' => e = .returned (.bool true) ∧ Below w.heap.size w w' := by
  have HL := Lib.hid hl
  clear hl
  have acc : Below w.heap.size w w := Below.refl _ _
  go_enter Tryd.func4, Tryd.ntmps4
  go_wp2_with (first | (go_at_call 8; refine (sanity_any g _ (HL.out.mono acc)).mono ?_; rintro e w1 ⟨rfl, hb1⟩; replace acc := bnext acc hb1; clear hb1))
  go_loopw [5] (fun i wr => ∃ k : Nat, k ≤ 2 ∧ i = .int .i64 k ∧ w1.heap.size < wr.heap.size ∧ Hid (∀ j, j < 2 → wr.cell? ⟨w1.heap.size, j, none⟩ = some (.int .i64 ([a0, bits BinOp.and IntKind.i64 a0 3].getD j 0))) ∧ Below w.heap.size w wr) (fun i _ => 2 - (intOf i).toNat)
  case atStart => exact ⟨0, Nat.zero_le _, rfl, by simp, Lib.hid fun j hj => by
      match j, hj with
      | 0, _ => rw [World.cell?_alloc_at _ _ _ _ (by simp)]; rfl
      | 1, _ => rw [World.cell?_alloc_at _ _ _ _ (by simp)]; rfl, by (repeat' (first | exact Below.refl _ _ | (with_reducible assumption) | (refine bnext ?_ (by with_reducible assumption)) | (refine balloc ?_ _) | (refine below_drewN ?_ _) | (refine Below.drew ?_) | (refine bset ?_ (by simp; try omega) _)))⟩
  case round =>
    obtain ⟨k, hk, rfl, hlt, HC, hbr⟩ := hrel
    by_cases hk2 : k < 2
    · obtain ⟨X, hX⟩ : ∃ X, wr.cell? ⟨w1.heap.size, k, none⟩ = some (.int .i64 X) := ⟨_, HC.out k hk2⟩
      clear wa0
      go_wp2_with fail
      refine (codes_any _ g _ (HL.out.mono hbr)).mono ?_
      rintro e w2 ⟨v, rfl, hown, hb2⟩
      have hX2 := (hb2.cell (p := ⟨w1.heap.size, k, none⟩) hlt).trans hX
      clear hX
      go_wp2_with fail
      refine (rcodes_any _ _).mono ?_
      rintro e w3 ⟨v', rfl, hown', hb3⟩
      have hown2 := own_below hown hb3
      have hS : Below wr.heap.size wr w3 := bnext hb2 hb3
      clear hown hX2 hb2 hb3
      by_cases hn : 0 < (FC.codes X).length
      · obtain ⟨ga, ca, rfl, hga, hA⟩ := own_at hown2 hn
        obtain ⟨gb, cb, rfl, hgb, hB⟩ := own_at hown' hn
        have HA := Lib.hid (ints_at' hA)
        have HB := Lib.hid (ints_at' hB)
        clear hA hB hown2 hown'
        have hle : (FC.codes X).length ≤ 256 := FC.upto_le X 256
        generalize FC.codes X = l at *
        obtain ⟨wo, rfl⟩ : ∃ wo : World, wo = wr := ⟨_, rfl⟩
        go_wp2
        go_loopw [8] (fun i wr => ∃ j : Nat, j ≤ l.length ∧ i = .int .i64 j ∧ Below w3.heap.size w3 wr) (fun i _ => l.length - (intOf i).toNat)
        case atStart => exact ⟨0, Nat.zero_le _, rfl, Below.refl _ _⟩
        case round =>
          obtain ⟨j, hj, rfl, hbj⟩ := hrel
          by_cases hjl : j < l.length
          · have hAj := (hbj.cell (p := ⟨ga, j, none⟩) hga).trans (HA.out j hjl)
            have hBj := (hbj.cell (p := ⟨gb, j, none⟩) hgb).trans (HB.out j hjl)
            have hji : (j : Int) < (l.length : Int) := by omega
            go_wp2
            go_quiet (fail)
            go_wp2
            go_roundw
            case rel => exact ⟨j + 1, by omega, by go_num, below_drewN hbj _⟩
            case measure => simp [intOf]; omega
          · obtain rfl : j = l.length := by omega
            have hT := bnext hS hbj
            go_wp2
            go_roundw
            case rel => exact ⟨k + 1, by omega, by go_num, Nat.lt_of_lt_of_le hlt hT.size, Lib.hid fun j hj => (hT.cell (p := ⟨w1.heap.size, j, none⟩) hlt).trans (HC.out j hj), bnext hbr hT⟩
            case measure => simp [intOf]; omega
      · obtain ⟨ga, ca, rfl⟩ := own_shape hown2
        obtain ⟨gb, cb, rfl⟩ := own_shape hown'
        have hn0 : (FC.codes X).length = 0 := by omega
        rw [hn0]
        clear hn hn0 hown2 hown'
        go_wp2
        refine wp_loop_rounds 1 ?_
        rw [rounds_succ]
        go_wp2
        go_roundw
        case rel => exact ⟨k + 1, by omega, by go_num, Nat.lt_of_lt_of_le hlt hS.size, Lib.hid fun j hj => (hS.cell (p := ⟨w1.heap.size, j, none⟩) hlt).trans (HC.out j hj), bnext hbr hS⟩
        case measure => simp [intOf]; omega
    · go_wp2
      go_ret
      exact ⟨rfl, hbr⟩

set_option maxRecDepth 100000 in
theorem lifted (os : Os) (started : os.Started) (H : Type) (enc : TypeId × Value → H) :
    ReturnsInHanded {} Tryd.checked os 4 .any (fun w args => (Rows.charsCodesSpec.pre enc Tryd.prog Tryd.f4 [] false w args ∧ laidMetH Tryd.prog laidL w) ∧ sizedMet enc Tryd.prog Tryd.f4 (OpenSpec.ofChange Rows.charsCodesSpec) false w args)
      (Rows.charsCodesSpec.post enc Tryd.prog Tryd.f4 false true false false) := by
  refine returnsInHanded_of_change_and (C := Tryd.checked) (X := fun w _ => laidMetH Tryd.prog laidL w) (fun _ _ _ hh h => h.of_heap hh) own started (by kernel_rfl) Tryd.func4
    (ChangeSpec.witness_shaped (enc := enc) (C := Tryd.checked) (os := os) (X := fun w _ => laidMetH Tryd.prog laidL w) false (World.doorLaid Tryd.prog 46 os) #[.int .i64 0] 8 rfl (World.shaped_of_RefB (by kernel_rfl) (by kernel_rfl)) (by kernel_rfl) (by kernel_rfl) (by kernel_rfl) (door_met os _)) ?_
  intro W base args ds gs before hval0 hW _ _ hL _
  have hval : ∀ (j : Nat) t v, Tryd.f4.params[j]? = some t → args[j]? = some v → Value.okWide Tryd.prog W .any base t v := hval0
  have hW' := hW
  obtain ⟨p, q, hA0, hV, rfl, hfz, hnd⟩ := hW
  have hA : DataW.TrodAll enc Tryd.prog W 0 (fun _ => true) true Tryd.f4.params.toList args.toList ds p := hA0
  rw [Tryd.params4] at hA hval
  obtain ⟨v0, vs0, d0, ds0, p0, q0, hargs, rfl, rfl, h0, r0⟩ := trodAll_cons hA
  obtain ⟨rfl, rfl, rfl⟩ := trodAll_nil r0
  obtain rfl : args = #[v0] := by cases args; simp_all
  obtain ⟨rfl, rfl⟩ := trodVars_none hV
  obtain ⟨g, hlaid⟩ := of_laid hL
  have k0 := h0
  have lt0 : ∀ x ∈ p0, x.block < W.heap.size := by obtain ⟨m, hm⟩ := k0; exact DataW.trod_lt m _ _ _ hm
  obtain ⟨a0, rfl, rfl, rfl, wa0⟩ := open_int Tryd.underlying3 (hval 0 3 v0 rfl rfl) h0
  clear hA0 hval0
  refine (walk a0 g wa0 W hlaid).mono fun e W' ⟨he, bel⟩ => ?_
  subst he
  exact ⟨_, rfl, _, _, _, [], _, [], hW', trodAll_mk1 (shut_bool Tryd.underlying4 _), (trodAll_cons_mk (Below.trod laidOut (by kernel_rfl) (of_decide_eq_true (by kernel_rfl)) k0 bel lt0) trodAll_mk0), rfl, bel.frame _, fun h => by cases h⟩

theorem over : Rows.charsCodesRow.holds Tryd.pinned (OpenSpec.ofChange Rows.charsCodesSpec) :=
  OpenClaim.holds_of_wide 4 Tryd.f4 rfl rfl rfl rfl rfl rfl rfl ⟨rfl, rfl, rfl, rfl, rfl⟩ rfl rfl rfl rfl rfl (by kernel_rfl) Tryd.func4 (by kernel_rfl)
    (of_decide_eq_true (by kernel_rfl)) (by unfold Func.isWrapper; first | (rw [if_pos (by decide +kernel)]; kernel_rfl) | (rw [if_neg (by decide +kernel)]; exact ⟨rfl, rfl⟩))
    (fun os started H enc _ => lifted os started H enc)

/-- The row's card, tied to the program's text. -/
theorem card : Rows.CharsCodesCardSaid :=
  Claim7.holds_tied_plain_at .later [] [.data] true Rows.charsCodesCard.stood.harness false
    over (fun _ h => by cases h) (by kernel_rfl) (fun _ h => by cases h) charsCodes_row_tie rfl ⟨rfl, rfl⟩ (by kernel_rfl) rfl
    (fun f fn hf hfn => by
      obtain rfl : f = 4 := Option.some.inj ((show Tryd.prog.funcNamed "abugida/abugidalaw05.CharsCodes" = some 4 by kernel_rfl).symm.trans hf) |>.symm
      obtain rfl : fn = Tryd.f4 := (Option.some.inj (Tryd.func4.symm.trans hfn)).symm
      exact ⟨by kernel_rfl, fun j t ht => by
        rw [Tryd.params4] at ht
        have hm : t ∈ [3] := by simpa using Array.mem_of_getElem? ht
        have hall : ([3].all fun u => !Tryd.prog.wantsStandIn u) = true := by kernel_rfl
        exact (show Tryd.prog.wantsStandIn t = false by simpa using List.all_eq_true.1 hall t hm)⟩)
    (by kernel_rfl)

end Go.Proofs.YteiacgonbmjgiaaDoor.charsCodes
namespace Go.Proofs.YteiacgonbmjgiaaDoor
theorem charsCodes_proved : Rows.CharsCodesCardSaid := charsCodes.card
#print axioms charsCodes_proved
end Go.Proofs.YteiacgonbmjgiaaDoor
