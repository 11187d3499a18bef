/- For every list of numbers ClusterBases returns true: the base of a cluster is in it; before it, all characters extend; and it does not extend, or all of them do. No conditions. -/
import Derived.Test.YtnikddmcphcmeaaDoorCluSane
import Derived.Test.YtnikddmcphcmeaaDoorClsLaid
import Derived.Test.YtnikddmcphcmeaaDoorCluFacts
namespace Go.Proofs.YtnikddmcphcmeaaDoor.clusterBases
open Go.ChangeShapes Go.WideShapes Go.ChangeAt Go.RowKit Go.Joins Go.Deep
set_option linter.unusedVariables false

theorem made_of {v : Value} {a : List Int} {w W : World} (n : Nat) (hn : n ≤ 1000) (hv : RowAt w v (a.map (Value.int .i64))) (hL : a.length ≤ maxLen) (hb : Below w.heap.size w W) :
    Calls Tryd.prog 11 #[v, .int .i64 n] W fun e W' => ∃ t : ByteArray, e = .returned (.string t) ∧ t.size ≤ n ∧ Below W.heap.size W W' :=
  made_any v (a.map (Value.int .i64)) n W (hv.keep hb) (fun k hk => ⟨a.getD k 0, by simp at hk; simp [List.getD, hk]⟩) (by simpa using hL) hn
set_option maxRecDepth 100000 in
set_option maxHeartbeats 2000000 in
theorem walk (v0 : Value) (a0 : List Int) (g : Nat × Nat)  (w : World) (hl : Laid w g) (H0 : RowAt w v0 (a0.map (Value.int .i64))) (L0 : a0.length ≤ maxLen ∧ ∀ a n c, v0 = .slice a n c → n ≤ c) (E0 : ∀ x, x ∈ a0 → -9223372036854775808 ≤ x ∧ x ≤ 9223372036854775807) :
    Calls Tryd.prog 7 #[v0] w fun e w' => e = .returned (.bool true) ∧ Below w.heap.size w w' := by
  have HL : Hid (∀ B, Below w.heap.size w B → Laid B g) := Lib.hid fun B hb => hl.mono hb
  have acc0 : Below w.heap.size w w := Below.refl _ _
  have HM := Lib.hid (fun W (hb : Below w.heap.size w W) => made_of 60 (by omega) H0 L0.1 hb)
  clear H0 E0
  go_enter Tryd.func7, Tryd.ntmps7
  go_wp2_with fail
  refine (sane_any g _ hl).mono ?_
  rintro e w1 ⟨rfl, hb1⟩
  have acc1 := bnext acc0 hb1
  go_wp2_with fail
  refine (HM.out _ acc1).mono ?_
  rintro e w2 ⟨t, rfl, ht, hb2⟩
  have acc2 := bnext acc1 hb2
  have ht1 : t.size ≤ 1000000000 := by omega
  clear hb1 hb2 acc0 acc1 HM
  go_wp2_with fail
  refine (split_any t g _ (HL.out _ acc2) ht1).mono ?_
  rintro e w3 ⟨vp, rfl, op, hb3⟩
  have acc3 := bnext acc2 hb3
  obtain ⟨ao, ac, rfl, hr⟩ := own_srcP op
  clear op hb3 acc2
  have hSP := Lib.hid (CP.sp_split t)
  have hLn := Lib.hid (CP.split_length t)
  have hAT := Lib.hid (show ∀ i : Int, 0 ≤ i → i < (t.size : Int) → CP.at' t i = (CP.upto (CP.split t) i : Int) from fun i a b => CP.at_good (by omega) (by omega))
  generalize CP.split t = l at hSP hLn hAT hr
  have HX := Lib.hid fun (j : Nat) (hj : j < t.size) (W : World) (hW : Below w.heap.size w W) => (show Calls Tryd.prog 20 #[.int .i64 (t[j].toNat : Int)] W fun e w' => e = .returned (.bool (CP.ex t j)) ∧ Below W.heap.size W w' from by
    have := extends_any (t[j].toNat : Int) g W (HL.out _ hW)
    rwa [show FC.extB (t[j].toNat : Int) = CP.ex t j by unfold CP.ex; rw [CP.ch_at hj]] at this)
  go_wp2_with fail
  go_loopw [17] (fun v15 wr => ∃ k e : Nat, v15 = .int .i64 k ∧ k ≤ l.length ∧ Hid (CP.Sp t e (l.drop k)) ∧ Below w3.heap.size w3 wr) (fun v _ => l.length - (intOf v).toNat)
  case atStart => exact ⟨0, 0, rfl, Nat.zero_le _, hSP, Below.refl _ _⟩
  case round =>
    obtain ⟨k, e, rfl, hk, HP, hb⟩ := hrel
    rename World => w4
    by_cases h1 : k < l.length
    · have h1i : (k : Int) < (l.length : Int) := by omega
      have hkb : k < 1000 := by have := hLn.out; omega
      obtain ⟨x, hx⟩ : ∃ x, l[k]? = some x := ⟨l[k], List.getElem?_eq_getElem h1⟩
      rcases hr with rfl | ⟨g', rfl, hg, hc⟩
      · simp at h1
      · obtain ⟨c0, c1⟩ := hc k x hx
        obtain ⟨he, hxe, hP2⟩ := CP.sp_drop HP.out hx
        have hst := CP.stop_bd he
        obtain ⟨b, hbase, b1, b2, b3, b4⟩ := CP.base_spec hst.1 hst.2
        generalize CP.stop t e = u at *
        subst hxe
        have HB := Lib.hid fun (W : World) (hW : Below w.heap.size w W) => base_any t (e : Int) (u : Int) g W (HL.out _ hW) ht1
        rw [hbase] at HB
        replace c0 := (hb.cell (p := ⟨g', k * 2, none⟩) hg).trans c0
        replace c1 := (hb.cell (p := ⟨g', k * 2 + 1, none⟩) hg).trans c1
        replace HP := Lib.hid hP2
        have HB3 := Lib.hid b3
        have HB4 := Lib.hid b4
        have q1 : ¬ (e : Int) < 0 := by omega
        have q3 : ¬ (t.size : Int) < (u : Int) := by omega
        have q4 : ¬ (b : Int) < (e : Int) := by omega
        have q5 : ¬ (u : Int) ≤ (b : Int) := by omega
        have HC := Lib.hid hc
        clear hc hx hP2 hAT b3 b4 hbase
        go_wp2_with fail
        obtain ⟨W, hW⟩ : ∃ W, w4.alloc (.cells #[.int .i64 (e : Int), .int .i64 (u : Int)] 30) = W := ⟨_, rfl⟩
        have e0 : W.cell? ⟨w4.heap.size, 0, none⟩ = some (.int .i64 (e : Int)) := by rw [← hW]; exact (two_cells (World.alloc_heap_new w4 _)).1
        have e1 : W.cell? ⟨w4.heap.size, 1, none⟩ = some (.int .i64 (u : Int)) := by rw [← hW]; exact (two_cells (World.alloc_heap_new w4 _)).2
        have hbW : Below w3.heap.size w3 W := by rw [← hW]; exact balloc hb _
        have hWs : w4.heap.size < W.heap.size := by rw [← hW]; simp
        rw [hW]
        clear hW c0 c1
        refine (HB.out _ (bnext acc3 hbW)).mono ?_
        rintro e' w5 ⟨rfl, hb5⟩
        replace e0 := (hb5.cell (p := ⟨w4.heap.size, 0, none⟩) hWs).trans e0
        replace e1 := (hb5.cell (p := ⟨w4.heap.size, 1, none⟩) hWs).trans e1
        replace hWs : w4.heap.size < w5.heap.size := Nat.lt_of_lt_of_le hWs hb5.size
        replace hbW := bnext hbW hb5
        clear hb5 HB
        go_wp2_with fail
        have z1 : decide ((e : Int) < 0) = false := decide_eq_false (by omega)
        have z2 : decide (t.size < u) = false := decide_eq_false (by omega)
        have z3 : decide (b < e) = false := decide_eq_false (by omega)
        have z4 : decide (u ≤ b) = false := decide_eq_false (by omega)
        simp only [z1, z2, z3, z4, Bool.or_false]
        clear z1 z2 z3 z4
        go_loopw [8, 9] (fun v8 v9 wi => ∃ (i : Nat) (a : Bool), v8 = .bool a ∧ v9 = .int .i64 i ∧ e ≤ i ∧ i ≤ u ∧ Hid ((∀ j, e ≤ j → j < i → CP.ex t j = true) → a = true) ∧ Below w5.heap.size w5 wi) (fun _ v _ => u - (intOf v).toNat)
        case atStart => exact ⟨e, true, rfl, rfl, Nat.le_refl _, by omega, Lib.hid fun _ => rfl, Below.refl _ _⟩
        case round =>
          obtain ⟨i, a, rfl, rfl, hi0, hi1, HA, hbi⟩ := hrel
          have d0 := (hbi.cell (p := ⟨w4.heap.size, 0, none⟩) hWs).trans e0
          have d1 := (hbi.cell (p := ⟨w4.heap.size, 1, none⟩) hWs).trans e1
          have HBI := Lib.hid hbi
          by_cases hi : i < u
          · have hii : (i : Int) < (u : Int) := by omega
            have his : i < t.size := by omega
            have hby : (t[i].toNat : Int) ≤ 255 := by have := t[i].toNat_lt; omega
            have X1 := Lib.hid (HX.out i his)
            have HN : Hid (∀ z, CP.ex t i = z → (∀ j, e ≤ j → j < i + 1 → CP.ex t j = true) → (a && z) = true) := Lib.hid fun z hz h => by
              rw [HA.out fun j h1 h2 => h j h1 (by omega), ← hz, h i hi0 (by omega)]; rfl
            have HI : Hid (i < b → CP.ex t i = true) := Lib.hid fun h => HB3.out i hi0 h
            obtain ⟨z, hz⟩ : ∃ z, CP.ex t i = z := ⟨_, rfl⟩
            rw [hz] at X1 HI
            have HN2 := Lib.hid (HN.out z hz)
            clear HN HA hz HX HB3 HB4
            by_cases hib : i < b
            · have hibi : (i : Int) < (b : Int) := by omega
              obtain rfl := HI.out hib
              clear HI
              cases a with
              | true =>
                go_wp2_with fail
                refine (X1.out _ (bnext acc3 (bnext hbW HBI.out))).mono ?_
                rintro e' w6 ⟨rfl, hb6⟩
                have HB6 := Lib.hid (bnext HBI.out hb6)
                clear hb6
                go_wp2_with fail
                go_roundw
                case rel => exact ⟨i + 1, _, rfl, by go_num, by omega, by omega, HN2, HB6.out⟩
                case measure => simp [intOf]; omega
              | false =>
                go_wp2_with fail
                refine (X1.out _ (bnext acc3 (bnext hbW HBI.out))).mono ?_
                rintro e' w6 ⟨rfl, hb6⟩
                have HB6 := Lib.hid (bnext HBI.out hb6)
                clear hb6
                go_wp2_with fail
                go_roundw
                case rel => exact ⟨i + 1, _, rfl, by go_num, by omega, by omega, HN2, HB6.out⟩
                case measure => simp [intOf]; omega
            · have hibi : ¬ (i : Int) < (b : Int) := by omega
              clear HI
              cases a with
              | true =>
                go_wp2_with fail
                refine (X1.out _ (bnext acc3 (bnext hbW HBI.out))).mono ?_
                rintro e' w6 ⟨rfl, hb6⟩
                have HB6 := Lib.hid (bnext HBI.out hb6)
                clear hb6
                go_wp2_with fail
                go_roundw
                case rel => exact ⟨i + 1, _, rfl, by go_num, by omega, by omega, HN2, HB6.out⟩
                case measure => simp [intOf]; omega
              | false =>
                go_wp2_with fail
                refine (X1.out _ (bnext acc3 (bnext hbW HBI.out))).mono ?_
                rintro e' w6 ⟨rfl, hb6⟩
                have HB6 := Lib.hid (bnext HBI.out hb6)
                clear hb6
                go_wp2_with fail
                go_roundw
                case rel => exact ⟨i + 1, _, rfl, by go_num, by omega, by omega, HN2, HB6.out⟩
                case measure => simp [intOf]; omega
          · obtain rfl : i = u := by omega
            have hbs : b < t.size := by omega
            have hbsi : (b : Int) < (t.size : Int) := by omega
            have hby : (t[b].toNat : Int) ≤ 255 := by have := t[b].toNat_lt; omega
            have X1 := Lib.hid (HX.out b hbs)
            have HI : Hid (CP.ex t b = true → b = e ∧ a = true) := Lib.hid fun h => ⟨(HB4.out h).1, HA.out (HB4.out h).2⟩
            generalize CP.ex t b = z at X1 HI
            clear HA HX HB3 HB4
            cases z with
            | true =>
              obtain ⟨rfl, rfl⟩ := HI.out rfl
              clear HI
              have qe : ((b : Int) != (b : Int)) = false := by simp
              go_wp2_with fail
              refine (X1.out _ (bnext acc3 (bnext hbW HBI.out))).mono ?_
              rintro e' w6 ⟨rfl, hb6⟩
              have HB6 := Lib.hid (bnext HBI.out hb6)
              have dd0 := (HB6.out.cell (p := ⟨w4.heap.size, 0, none⟩) hWs).trans e0
              clear hb6
              go_wp2_with fail
              go_roundw
              case rel => exact ⟨k + 1, i, by go_num, h1, HP, bnext hbW HB6.out⟩
              case measure => simp [intOf]; omega
            | false =>
              clear HI
              go_wp2_with fail
              refine (X1.out _ (bnext acc3 (bnext hbW HBI.out))).mono ?_
              rintro e' w6 ⟨rfl, hb6⟩
              have HB6 := Lib.hid (bnext HBI.out hb6)
              clear hb6
              go_wp2_with fail
              go_roundw
              case rel => exact ⟨k + 1, i, by go_num, h1, HP, bnext hbW HB6.out⟩
              case measure => simp [intOf]; omega
    · obtain rfl : k = l.length := by omega
      go_wp2_with fail
      go_ret
      exact ⟨rfl, bnext acc3 hb⟩

set_option maxRecDepth 100000 in
theorem lifted (os : Os) (started : os.Started) (H : Type) (enc : TypeId × Value → H) :
    ReturnsInHanded {} Tryd.checked os 7 .any (fun w args => (Rows.clusterBasesSpec.pre enc Tryd.prog Tryd.f7 [] false w args ∧ laidMetH Tryd.prog laidL w) ∧ sizedMet enc Tryd.prog Tryd.f7 (OpenSpec.ofChange Rows.clusterBasesSpec) false w args)
      (Rows.clusterBasesSpec.post enc Tryd.prog Tryd.f7 false true false false) := by
  refine returnsInHanded_of_change_and (C := Tryd.checked) (X := fun w _ => laidMetH Tryd.prog laidL w) (fun _ _ _ hh h => h.of_heap hh) own started (by kernel_rfl) Tryd.func7
    (ChangeSpec.witness_shaped (enc := enc) (C := Tryd.checked) (os := os) (X := fun w _ => laidMetH Tryd.prog laidL w) false (World.doorLaid Tryd.prog 46 os) #[.slice none 0 0] 8 rfl (World.shaped_of_RefB (by kernel_rfl) (by kernel_rfl)) (by kernel_rfl) (by kernel_rfl) (by kernel_rfl) (door_met os _)) ?_
  intro W base args ds gs before hval0 hW _ _ hL _
  have hval : ∀ (j : Nat) t v, Tryd.f7.params[j]? = some t → args[j]? = some v → Value.okWide Tryd.prog W .any base t v := hval0
  have hW' := hW
  obtain ⟨p, q, hA0, hV, rfl, hfz, hnd⟩ := hW
  have hA : DataW.TrodAll enc Tryd.prog W 0 (fun _ => true) true Tryd.f7.params.toList args.toList ds p := hA0
  rw [Tryd.params7] at hA hval
  obtain ⟨v0, vs0, d0, ds0, p0, q0, hargs, rfl, rfl, h0, r0⟩ := trodAll_cons hA
  obtain ⟨rfl, rfl, rfl⟩ := trodAll_nil r0
  obtain rfl : args = #[v0] := by cases args; simp_all
  obtain ⟨rfl, rfl⟩ := trodVars_none hV
  obtain ⟨g, hlaid⟩ := of_laid hL
  have k0 := h0
  have lt0 : ∀ x ∈ p0, x.block < W.heap.size := by obtain ⟨m, hm⟩ := k0; exact DataW.trod_lt m _ _ _ hm
  obtain ⟨a0, H0, L0, E0⟩ := open_l (hval 0 22 v0 rfl rfl) h0
  clear hA0 hval0
  refine (walk v0 a0 g  W hlaid H0 L0 E0).mono fun e W' ⟨he, bel⟩ => ?_
  subst he
  exact ⟨_, rfl, _, _, _, [], _, [], hW', trodAll_mk1 (shut_bool Tryd.underlying4 _), (trodAll_cons_mk (Below.trod laidOut (by kernel_rfl) (of_decide_eq_true (by kernel_rfl)) k0 bel lt0) trodAll_mk0), rfl, bel.frame _, fun h => by cases h⟩

theorem over : Rows.clusterBasesRow.holds Tryd.pinned (OpenSpec.ofChange Rows.clusterBasesSpec) :=
  OpenClaim.holds_of_wide 7 Tryd.f7 rfl rfl rfl rfl rfl rfl rfl ⟨rfl, rfl, rfl, rfl, rfl⟩ rfl rfl rfl rfl rfl (by kernel_rfl) Tryd.func7 (by kernel_rfl)
    (of_decide_eq_true (by kernel_rfl)) (by unfold Func.isWrapper; first | (rw [if_pos (by decide +kernel)]; kernel_rfl) | (rw [if_neg (by decide +kernel)]; exact ⟨rfl, rfl⟩))
    (fun os started H enc _ => lifted os started H enc)

/-- The row's card, tied to the program's text. -/
theorem card : Rows.ClusterBasesCardSaid :=
  Claim7.holds_tied_plain_at .later [] [.data] true Rows.clusterBasesCard.stood.harness false
    over (fun _ h => by cases h) (by kernel_rfl) (fun _ h => by cases h) clusterBases_row_tie rfl ⟨rfl, rfl⟩ (by kernel_rfl) rfl
    (fun f fn hf hfn => by
      obtain rfl : f = 7 := Option.some.inj ((show Tryd.prog.funcNamed "abugida/abugidalaw06.ClusterBases" = some 7 by kernel_rfl).symm.trans hf) |>.symm
      obtain rfl : fn = Tryd.f7 := (Option.some.inj (Tryd.func7.symm.trans hfn)).symm
      exact ⟨by kernel_rfl, fun j t ht => by
        rw [Tryd.params7] at ht
        have hm : t ∈ [22] := by simpa using Array.mem_of_getElem? ht
        have hall : ([22].all fun u => !Tryd.prog.wantsStandIn u) = true := by kernel_rfl
        exact (show Tryd.prog.wantsStandIn t = false by simpa using List.all_eq_true.1 hall t hm)⟩)
    (by kernel_rfl)

end Go.Proofs.YtnikddmcphcmeaaDoor.clusterBases
namespace Go.Proofs.YtnikddmcphcmeaaDoor
theorem clusterBases_proved : Rows.ClusterBasesCardSaid := clusterBases.card
#print axioms clusterBases_proved
end Go.Proofs.YtnikddmcphcmeaaDoor
