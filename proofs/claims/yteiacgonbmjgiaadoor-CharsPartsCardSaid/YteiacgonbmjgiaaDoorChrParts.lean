/- For every number CharsParts returns true: each character is in exactly one list of a script, and no other number is in one. No conditions. -/
import Derived.Test.YteiacgonbmjgiaaDoorChrLaid
import Derived.Test.YteiacgonbmjgiaaDoorChrCount
import Derived.Test.YteiacgonbmjgiaaDoorLater
import Derived.Deep.RegionHeld3
import Derived.Deep.RegionWith
namespace Go.Proofs.YteiacgonbmjgiaaDoor.charsParts
open Go.ChangeShapes Go.WideShapes Go.ChangeAt Go.RowKit Go.Joins Go.Deep
set_option linter.unusedVariables false

theorem own_at {w : World} {B e n : Nat} {v : Value} {xs : List Value} (h : w.ownsRow B e 1 v n xs) (hn : 0 < n) : ∃ g cap, v = .slice (some ⟨g, 0, none⟩) n cap ∧ g < w.heap.size ∧ ∀ j u, xs[j]? = some u → w.cell? ⟨g, j, none⟩ = some u := by
  rcases h.2 with ⟨rfl, rfl⟩ | ⟨g, cap, cur, rfl, hb, hg, _⟩
  · omega
  · refine ⟨g, cap, rfl, (Array.getElem?_eq_some_iff.1 hg).1, fun j u hu => ?_⟩
    have := h.cells (g := g) rfl j u hu
    rw [add_plain] at this
    simpa using this
theorem ints_at' {w : World} {g : Nat} {l : List Int} (h : ∀ (j : Nat) u, (l.map (Value.int .i64))[j]? = some u → w.cell? ⟨g, j, none⟩ = some u) : ∀ j, j < l.length → w.cell? ⟨g, j, none⟩ = some (.int .i64 (l.getD j 0)) := fun j hj => h j _ (by simp [hj])

/-- What holds at the head of the loop over the scripts: how often the number was met so far. -/
def Mid (wo : World) (X : Int) (t s : Value) (wr : World) : Prop := ∃ s0 : Int, -1 ≤ s0 ∧ s0 ≤ 5 ∧ s = .int .i64 s0 ∧ t = .int .i64 (FC.tot X s0) ∧ Below wo.heap.size wo wr
theorem Mid.mk {wo : World} {X s0 : Int} {t s : Value} {wr : World} (h0 : -1 ≤ s0) (h1 : s0 ≤ 5) (h2 : s = .int .i64 s0) (h3 : t = .int .i64 (FC.tot X s0)) (h4 : Below wo.heap.size wo wr) : Mid wo X t s wr := ⟨s0, h0, h1, h2, h3, h4⟩
theorem Mid.out {wo : World} {X : Int} {t s : Value} {wr : World} (h : Mid wo X t s wr) : ∃ s0 : Int, -1 ≤ s0 ∧ s0 ≤ 5 ∧ s = .int .i64 s0 ∧ t = .int .i64 (FC.tot X s0) ∧ Below wo.heap.size wo wr := h
theorem kp1 {w wr wx : World} {g j : Nat} {x : Int} (hX : wr.cell? ⟨g, j, none⟩ = some (.int .i64 x)) (hlt : g < wr.heap.size) (h : Below wr.heap.size wr wx) : Below wr.heap.size wr wx ∧ wx.cell? ⟨g, j, none⟩ = some (.int .i64 x) :=
  ⟨h, (h.cell (p := ⟨g, j, none⟩) hlt).trans hX⟩
theorem kp2 {w wr wx : World} {g j : Nat} {x y : Int} (hX : wr.cell? ⟨g, j, none⟩ = some (.int .i64 x)) (hY : wr.cell? ⟨g, j + 1, none⟩ = some (.int .i64 y)) (hlt : g < wr.heap.size) (h : Below wr.heap.size wr wx) : Below wr.heap.size wr wx ∧ wx.cell? ⟨g, j, none⟩ = some (.int .i64 x) ∧ wx.cell? ⟨g, j + 1, none⟩ = some (.int .i64 y) :=
  ⟨h, (h.cell (p := ⟨g, j, none⟩) hlt).trans hX, (h.cell (p := ⟨g, j + 1, none⟩) hlt).trans hY⟩

set_option maxRecDepth 100000 in
set_option maxHeartbeats 2000000 in
theorem walk (a0 : Int) (g : Nat × Nat) (wa0 : (Lit.int .i64 a0).wf = true) (w : World) (hl : Laid w g) :
    Calls Tryd.prog 5 #[.int .i64 a0] w fun e w' => e = .returned (.bool true) ∧ Below w.heap.size w w' := by
  have HL := Lib.hid hl
  clear hl
  have acc : Below w.heap.size w w := Below.refl _ _
  go_enter Tryd.func5, Tryd.ntmps5
  go_wp2_with (first | (go_at_call 8; refine (sanity_any g _ (HL.out.mono acc)).mono ?_; rintro e w1 ⟨rfl, hb1⟩; replace acc := bnext acc hb1; clear hb1))
  go_loopw [5] (fun i wr => ∃ k : Nat, k ≤ 2 ∧ i = .int .i64 k ∧ w1.heap.size < wr.heap.size ∧ Hid (∀ j, j < 2 → wr.cell? ⟨w1.heap.size, j, none⟩ = some (.int .i64 ([a0, bits BinOp.and IntKind.i64 a0 255].getD j 0))) ∧ Below w.heap.size w wr) (fun i _ => 2 - (intOf i).toNat)
  case atStart => exact ⟨0, Nat.zero_le _, rfl, by simp, Lib.hid fun j hj => by
      match j, hj with
      | 0, _ => rw [World.cell?_alloc_at _ _ _ _ (by simp)]; rfl
      | 1, _ => rw [World.cell?_alloc_at _ _ _ _ (by simp)]; rfl, by (repeat' (first | exact Below.refl _ _ | (with_reducible assumption) | (refine bnext ?_ (by with_reducible assumption)) | (refine balloc ?_ _) | (refine below_drewN ?_ _) | (refine Below.drew ?_) | (refine bset ?_ (by simp; try omega) _)))⟩
  case round =>
    obtain ⟨k, hk, rfl, hlt, HC, hbr⟩ := hrel
    by_cases hk2 : k < 2
    · obtain ⟨X, hX⟩ : ∃ X, wr.cell? ⟨w1.heap.size, k, none⟩ = some (.int .i64 X) := ⟨_, HC.out k hk2⟩
      have HX := Lib.hid hX
      clear wa0 hX
      obtain ⟨wo, hwo⟩ : ∃ wo : World, wo = wr := ⟨_, rfl⟩
      subst hwo
      have hd2 : decide ((k : Int) < 2) = true := decide_eq_true (by omega)
      go_wp2
      go_loopw [6, 7] (fun t s wr => Mid wo X t s wr) (fun _ s _ => (5 - intOf s).toNat)
      case atStart => exact Mid.mk (s0 := -1) (by omega) (by omega) rfl (by rw [FC.tot_low]) (Below.refl _ _)
      case round =>
        obtain ⟨s0, hs0, hs5, rfl, rfl, hbm⟩ := hrel.out
        have htb := FC.tot_bd X s0
        by_cases hs : s0 ≤ 4
        · go_wp2_with fail
          refine (codes_any _ g _ (HL.out.mono (bnext hbr hbm))).mono ?_
          rintro e w2 ⟨v, rfl, hown, hb2⟩
          have hle : (FC.codes s0).length ≤ 256 := FC.upto_le s0 256
          have HT := Lib.hid (FC.tot_succ X s0)
          by_cases hn : 0 < (FC.codes s0).length
          · obtain ⟨ga, ca, rfl, hga, hA⟩ := own_at hown hn
            have HA := Lib.hid (ints_at' hA)
            have HS : Hid (∀ j, j + 1 < (FC.codes s0).length → (FC.codes s0).getD j 0 < (FC.codes s0).getD (j + 1) 0) := Lib.hid (fun j h => FC.codes_lt h)
            have HR : Hid (∀ j, j < (FC.codes s0).length → FC.scr ((FC.codes s0).getD j 0) = s0) := Lib.hid (fun j h => FC.codes_at h)
            clear hA hown
            generalize FC.codes s0 = l at *
            have hbw : Below wo.heap.size wo w2 := bnext hbm hb2
            clear hbm hb2
            go_wp2
            go_loopw [6, 9] (fun t i wr => ∃ j : Nat, j ≤ l.length ∧ i = .int .i64 j ∧ t = .int .i64 (FC.tot X s0 + FC.met l X j) ∧ Below w2.heap.size w2 wr) (fun _ i _ => l.length - (intOf i).toNat)
            case atStart => exact ⟨0, Nat.zero_le _, rfl, by rw [FC.met_0]; simp, Below.refl _ _⟩
            case round =>
              obtain ⟨j, hj, rfl, rfl, hbj⟩ := hrel
              have hmb := FC.met_bd l X j
              by_cases hjl : j < l.length
              · have hbx0 : Below w.heap.size w wr := bnext (bnext hbr hbw) hbj
                have hga' : ga < wr.heap.size := Nat.lt_of_lt_of_le hga hbj.size
                have hji : (j : Int) < (l.length : Int) := by omega
                have hXr : wr.cell? ⟨w1.heap.size, k, none⟩ = some (.int .i64 X) := ((bnext hbw hbj).cell (p := ⟨w1.heap.size, k, none⟩) hlt).trans HX.out
                have hltr : w1.heap.size < wr.heap.size := Nat.lt_of_lt_of_le hlt (bnext hbw hbj).size
                rcases j with _ | m
                · obtain ⟨y, hy, hA0, hs'⟩ : ∃ y : Int, Hid (l.getD 0 0 = y) ∧ wr.cell? ⟨ga, 0, none⟩ = some (.int .i64 y) ∧ (FC.scr y != s0) = false := ⟨_, Lib.hid rfl, (hbj.cell (p := ⟨ga, 0, none⟩) hga).trans (HA.out 0 hjl), by rw [HR.out 0 hjl]; simp⟩
                  have hAL := Later.cell hA0
                  have hm1 : Hid (¬ y = X → FC.met l X (0 + 1) = FC.met l X 0) := Lib.hid fun h => FC.met_no hjl (by rw [hy.out]; exact h)
                  have hm2 : Hid (y = X → FC.met l X (0 + 1) = FC.met l X 0 + 1) := Lib.hid fun h => FC.met_yes hjl (by rw [hy.out]; exact h)
                  go_wp2
                  refine wp_region_later (by kernel_rfl) (by kernel_rfl) ?_
                  repeat (go_big_quiet_step ((go_at_call 18; exact calls_later _ (script_any _ g _ (HL.out.mono (bnext hbx0 (Later.le _)))))))
                  refine wpQuiet_nil ?_
                  intro w5 hw'
                  obtain ⟨s5, hs5⟩ := hw'
                  have hb5 : Below wr.heap.size wr w5 := by rw [hs5]; exact s5.le
                  clear hs5 s5
                  have hy5 : w5.cell? ⟨ga, 0, none⟩ = some (.int .i64 y) := (hb5.cell (p := ⟨ga, 0, none⟩) hga').trans hA0
                  have hX5 : w5.cell? ⟨w1.heap.size, k, none⟩ = some (.int .i64 X) := (hb5.cell (p := ⟨w1.heap.size, k, none⟩) hltr).trans hXr
                  have hbj5 := bnext hbj hb5
                  clear hAL hA0 hXr hbx0
                  by_cases hq : y = X
                  · have hq1 : (y == X) = true := by simp [hq]
                    have hm := Lib.hid (hm2.out hq)
                    clear hq
                    go_wp2
                    go_quiet (fail)
                    go_wp2
                    go_roundw
                    case rel => exact ⟨0 + 1, by omega, by go_num, by rw [hm.out]; go_num, below_drewN hbj5 _⟩
                    case measure => simp [intOf]; omega
                  · have hq1 : (y == X) = false := by simp [hq]
                    have hm := Lib.hid (hm1.out hq)
                    clear hq
                    go_wp2
                    go_quiet (fail)
                    go_wp2
                    go_roundw
                    case rel => exact ⟨0 + 1, by omega, by go_num, by rw [hm.out], below_drewN hbj5 _⟩
                    case measure => simp [intOf]; omega
                · obtain ⟨x, y, hy, hA0, hA1, hs', hge⟩ : ∃ x y : Int, Hid (l.getD (m + 1) 0 = y) ∧ wr.cell? ⟨ga, m, none⟩ = some (.int .i64 x) ∧ wr.cell? ⟨ga, m + 1, none⟩ = some (.int .i64 y) ∧ (FC.scr y != s0) = false ∧ decide (y ≤ x) = false := ⟨_, _, Lib.hid rfl, (hbj.cell (p := ⟨ga, m, none⟩) hga).trans (HA.out m (by omega)), (hbj.cell (p := ⟨ga, m + 1, none⟩) hga).trans (HA.out (m + 1) hjl), by rw [HR.out (m + 1) hjl]; simp, decide_eq_false (by have := HS.out m hjl; omega)⟩
                  have hAL := Later.cell hA0
                  have hAL1 := Later.cell hA1
                  have hm1 : Hid (¬ y = X → FC.met l X (m + 1 + 1) = FC.met l X (m + 1)) := Lib.hid fun h => FC.met_no hjl (by rw [hy.out]; exact h)
                  have hm2 : Hid (y = X → FC.met l X (m + 1 + 1) = FC.met l X (m + 1) + 1) := Lib.hid fun h => FC.met_yes hjl (by rw [hy.out]; exact h)
                  go_wp2
                  refine wp_region_later (by kernel_rfl) (by kernel_rfl) ?_
                  repeat (go_big_quiet_step ((go_at_call 18; exact calls_later _ (script_any _ g _ (HL.out.mono (bnext hbx0 (Later.le _)))))))
                  refine wpQuiet_nil ?_
                  intro w5 hw'
                  obtain ⟨s5, hs5⟩ := hw'
                  have hb5 : Below wr.heap.size wr w5 := by rw [hs5]; exact s5.le
                  clear hs5 s5
                  have hy5 : w5.cell? ⟨ga, m + 1, none⟩ = some (.int .i64 y) := (hb5.cell (p := ⟨ga, m + 1, none⟩) hga').trans hA1
                  have hX5 : w5.cell? ⟨w1.heap.size, k, none⟩ = some (.int .i64 X) := (hb5.cell (p := ⟨w1.heap.size, k, none⟩) hltr).trans hXr
                  have hbj5 := bnext hbj hb5
                  clear hAL hAL1 hA1 hge hA0 hXr hbx0
                  by_cases hq : y = X
                  · have hq1 : (y == X) = true := by simp [hq]
                    have hm := Lib.hid (hm2.out hq)
                    clear hq
                    go_wp2
                    go_quiet (fail)
                    go_wp2
                    go_roundw
                    case rel => exact ⟨m + 1 + 1, by omega, by go_num, by rw [hm.out]; go_num, below_drewN hbj5 _⟩
                    case measure => simp [intOf]; omega
                  · have hq1 : (y == X) = false := by simp [hq]
                    have hm := Lib.hid (hm1.out hq)
                    clear hq
                    go_wp2
                    go_quiet (fail)
                    go_wp2
                    go_roundw
                    case rel => exact ⟨m + 1 + 1, by omega, by go_num, by rw [hm.out], below_drewN hbj5 _⟩
                    case measure => simp [intOf]; omega
              · obtain rfl : j = l.length := by omega
                have hE : Hid (FC.tot X s0 + FC.met l X l.length = FC.tot X (s0 + 1)) := Lib.hid (by rw [FC.met_all, HT.out])
                have hbq : Below wo.heap.size wo wr := bnext hbw hbj
                go_wp2
                go_roundw
                case rel => exact Mid.mk (s0 := s0 + 1) (by omega) (by omega) rfl (by rw [hE.out]) hbq
                case measure => simp [intOf]; omega
          · obtain ⟨ga, ca, rfl⟩ := own_shape hown
            have hn0 : (FC.codes s0).length = 0 := by omega
            have hc0 : Hid (FC.tot X (s0 + 1) = FC.tot X s0) := Lib.hid (by rw [FC.tot_succ, List.eq_nil_of_length_eq_zero hn0]; simp)
            have hbw : Below wo.heap.size wo w2 := bnext hbm hb2
            rw [hn0]
            clear hn hn0 hown hbm hb2 HT hle
            go_wp2
            refine wp_loop_rounds 1 ?_
            rw [rounds_succ]
            go_wp2
            go_roundw
            case rel => exact Mid.mk (s0 := s0 + 1) (by omega) (by omega) rfl (by rw [hc0.out]) hbw
            case measure => simp [intOf]; omega
        · obtain rfl : s0 = 5 := by omega
          have hXr : wr.cell? ⟨w1.heap.size, k, none⟩ = some (.int .i64 X) := (hbm.cell (p := ⟨w1.heap.size, k, none⟩) hlt).trans HX.out
          have ht := FC.tot_high (x := X)
          by_cases hx0 : 0 ≤ X
          · by_cases hx1 : X < 256
            · rw [if_pos ⟨hx0, hx1⟩] at ht
              rw [ht]
              clear ht htb
              go_wp2
              go_roundw
              case rel => exact ⟨k + 1, by omega, by go_num, Nat.lt_of_lt_of_le hlt hbm.size, Lib.hid fun j hj => (hbm.cell (p := ⟨w1.heap.size, j, none⟩) hlt).trans (HC.out j hj), bnext hbr hbm⟩
              case measure => simp [intOf]; omega
            · rw [if_neg (fun h => hx1 h.2)] at ht
              rw [ht]
              clear ht htb
              go_wp2
              go_roundw
              case rel => exact ⟨k + 1, by omega, by go_num, Nat.lt_of_lt_of_le hlt hbm.size, Lib.hid fun j hj => (hbm.cell (p := ⟨w1.heap.size, j, none⟩) hlt).trans (HC.out j hj), bnext hbr hbm⟩
              case measure => simp [intOf]; omega
          · rw [if_neg (fun h => hx0 h.1)] at ht
            rw [ht]
            clear ht htb
            go_wp2
            go_roundw
            case rel => exact ⟨k + 1, by omega, by go_num, Nat.lt_of_lt_of_le hlt hbm.size, Lib.hid fun j hj => (hbm.cell (p := ⟨w1.heap.size, j, none⟩) hlt).trans (HC.out j hj), bnext hbr hbm⟩
            case measure => simp [intOf]; omega
    · go_wp2
      go_ret
      exact ⟨rfl, hbr⟩

set_option maxRecDepth 100000 in
theorem lifted (os : Os) (started : os.Started) (H : Type) (enc : TypeId × Value → H) :
    ReturnsInHanded {} Tryd.checked os 5 .any (fun w args => (Rows.charsPartsSpec.pre enc Tryd.prog Tryd.f5 [] false w args ∧ laidMetH Tryd.prog laidL w) ∧ sizedMet enc Tryd.prog Tryd.f5 (OpenSpec.ofChange Rows.charsPartsSpec) false w args)
      (Rows.charsPartsSpec.post enc Tryd.prog Tryd.f5 false true false false) := by
  refine returnsInHanded_of_change_and (C := Tryd.checked) (X := fun w _ => laidMetH Tryd.prog laidL w) (fun _ _ _ hh h => h.of_heap hh) own started (by kernel_rfl) Tryd.func5
    (ChangeSpec.witness_shaped (enc := enc) (C := Tryd.checked) (os := os) (X := fun w _ => laidMetH Tryd.prog laidL w) false (World.doorLaid Tryd.prog 46 os) #[.int .i64 0] 8 rfl (World.shaped_of_RefB (by kernel_rfl) (by kernel_rfl)) (by kernel_rfl) (by kernel_rfl) (by kernel_rfl) (door_met os _)) ?_
  intro W base args ds gs before hval0 hW _ _ hL _
  have hval : ∀ (j : Nat) t v, Tryd.f5.params[j]? = some t → args[j]? = some v → Value.okWide Tryd.prog W .any base t v := hval0
  have hW' := hW
  obtain ⟨p, q, hA0, hV, rfl, hfz, hnd⟩ := hW
  have hA : DataW.TrodAll enc Tryd.prog W 0 (fun _ => true) true Tryd.f5.params.toList args.toList ds p := hA0
  rw [Tryd.params5] at hA hval
  obtain ⟨v0, vs0, d0, ds0, p0, q0, hargs, rfl, rfl, h0, r0⟩ := trodAll_cons hA
  obtain ⟨rfl, rfl, rfl⟩ := trodAll_nil r0
  obtain rfl : args = #[v0] := by cases args; simp_all
  obtain ⟨rfl, rfl⟩ := trodVars_none hV
  obtain ⟨g, hlaid⟩ := of_laid hL
  have k0 := h0
  have lt0 : ∀ x ∈ p0, x.block < W.heap.size := by obtain ⟨m, hm⟩ := k0; exact DataW.trod_lt m _ _ _ hm
  obtain ⟨a0, rfl, rfl, rfl, wa0⟩ := open_int Tryd.underlying3 (hval 0 3 v0 rfl rfl) h0
  clear hA0 hval0
  refine (walk a0 g wa0 W hlaid).mono fun e W' ⟨he, bel⟩ => ?_
  subst he
  exact ⟨_, rfl, _, _, _, [], _, [], hW', trodAll_mk1 (shut_bool Tryd.underlying4 _), (trodAll_cons_mk (Below.trod laidOut (by kernel_rfl) (of_decide_eq_true (by kernel_rfl)) k0 bel lt0) trodAll_mk0), rfl, bel.frame _, fun h => by cases h⟩

theorem over : Rows.charsPartsRow.holds Tryd.pinned (OpenSpec.ofChange Rows.charsPartsSpec) :=
  OpenClaim.holds_of_wide 5 Tryd.f5 rfl rfl rfl rfl rfl rfl rfl ⟨rfl, rfl, rfl, rfl, rfl⟩ rfl rfl rfl rfl rfl (by kernel_rfl) Tryd.func5 (by kernel_rfl)
    (of_decide_eq_true (by kernel_rfl)) (by unfold Func.isWrapper; first | (rw [if_pos (by decide +kernel)]; kernel_rfl) | (rw [if_neg (by decide +kernel)]; exact ⟨rfl, rfl⟩))
    (fun os started H enc _ => lifted os started H enc)

/-- The row's card, tied to the program's text. -/
theorem card : Rows.CharsPartsCardSaid :=
  Claim7.holds_tied_plain_at .later [] [.data] true Rows.charsPartsCard.stood.harness false
    over (fun _ h => by cases h) (by kernel_rfl) (fun _ h => by cases h) charsParts_row_tie rfl ⟨rfl, rfl⟩ (by kernel_rfl) rfl
    (fun f fn hf hfn => by
      obtain rfl : f = 5 := Option.some.inj ((show Tryd.prog.funcNamed "abugida/abugidalaw05.CharsParts" = some 5 by kernel_rfl).symm.trans hf) |>.symm
      obtain rfl : fn = Tryd.f5 := (Option.some.inj (Tryd.func5.symm.trans hfn)).symm
      exact ⟨by kernel_rfl, fun j t ht => by
        rw [Tryd.params5] at ht
        have hm : t ∈ [3] := by simpa using Array.mem_of_getElem? ht
        have hall : ([3].all fun u => !Tryd.prog.wantsStandIn u) = true := by kernel_rfl
        exact (show Tryd.prog.wantsStandIn t = false by simpa using List.all_eq_true.1 hall t hm)⟩)
    (by kernel_rfl)

end Go.Proofs.YteiacgonbmjgiaaDoor.charsParts
namespace Go.Proofs.YteiacgonbmjgiaaDoor
theorem charsParts_proved : Rows.CharsPartsCardSaid := charsParts.card
#print axioms charsParts_proved
end Go.Proofs.YteiacgonbmjgiaaDoor
