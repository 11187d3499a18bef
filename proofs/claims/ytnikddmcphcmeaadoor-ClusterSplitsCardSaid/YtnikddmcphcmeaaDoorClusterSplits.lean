/- For every text and every list of numbers ClusterSplits returns true: the clusters of texts are those of the reference. No conditions. -/
import Derived.Test.YtnikddmcphcmeaaDoorCluSane
import Derived.Test.YtnikddmcphcmeaaDoorClsLaid
import Derived.ChangeMaps5
namespace Go.Proofs.YtnikddmcphcmeaaDoor.clusterSplits
open Go.ChangeShapes Go.WideShapes Go.ChangeAt Go.RowKit Go.Joins Go.Deep Go.ChangeMaps
set_option linter.unusedVariables false

theorem made_of {v : Value} {a : List Int} {w W : World} (n : Nat) (hn : n ≤ 1000) (hv : RowAt w v (a.map (Value.int .i64))) (hL : a.length ≤ maxLen) (hb : Below w.heap.size w W) :
    Calls Tryd.prog 11 #[v, .int .i64 n] W fun e W' => ∃ t : ByteArray, e = .returned (.string t) ∧ t.size ≤ n ∧ Below W.heap.size W W' :=
  made_any v (a.map (Value.int .i64)) n W (hv.keep hb) (fun k hk => ⟨a.getD k 0, by simp at hk; simp [List.getD, hk]⟩) (by simpa using hL) hn
theorem same_self (W : World) (v v' : Value) (A : List (Nat × Nat)) (hA : SrcP W v A) (hB : SrcP W v' A) (h1 : A.length ≤ 1000000000) :
    Calls Tryd.prog 12 #[v, v'] W fun e W' => e = .returned (.bool true) ∧ Below W.heap.size W W' := by
  have := rsame_any v v' A A W hA hB h1
  rwa [decide_eq_true rfl] at this
set_option maxRecDepth 100000 in
set_option maxHeartbeats 2000000 in
theorem walk (a0 : ByteArray) (v1 : Value) (a1 : List Int) (g : Nat × Nat) (wa0 : a0.size ≤ maxLen) (w : World) (hl : Laid w g) (H1 : RowAt w v1 (a1.map (Value.int .i64))) (L1 : a1.length ≤ maxLen ∧ ∀ a n c, v1 = .slice a n c → n ≤ c) (E1 : ∀ x, x ∈ a1 → -9223372036854775808 ≤ x ∧ x ≤ 9223372036854775807) :
    Calls Tryd.prog 3 #[.string a0, v1] w fun e w' => e = .returned (.bool true) ∧ Below w.heap.size w w' := by
  have HL : Hid (∀ B, Below w.heap.size w B → Laid B g) := Lib.hid fun B hb => hl.mono hb
  have acc0 : Below w.heap.size w w := Below.refl _ _
  have HM := Lib.hid (fun W (hb : Below w.heap.size w W) => made_of 60 (by omega) H1 L1.1 hb)
  clear H1 E1
  unfold maxLen at wa0
  go_enter Tryd.func3, Tryd.ntmps3
  go_wp2_with fail
  refine (sane_any g _ hl).mono ?_
  rintro e w1 ⟨rfl, hb1⟩
  have acc1 := bnext acc0 hb1
  go_wp2_with fail
  case inl =>
    obtain ⟨S, hS, hS1⟩ : ∃ S : ByteArray, a0.extract 0 300 = S ∧ S.size ≤ 300 := ⟨_, rfl, by simp; omega⟩
    rw [hS]
    clear hS
    refine (HM.out _ acc1).mono ?_
    rintro e w2 ⟨t, rfl, ht, hb2⟩
    have acc2 := bnext acc1 hb2
    have hST : (S ++ t).size ≤ 1000000000 := by rw [ByteArray.size_append]; omega
    have hs1 : S.size ≤ 1000000000 := by omega
    have ht1 : t.size ≤ 1000000000 := by omega
    go_wp2_with fail
    refine (split_any S g _ (HL.out _ acc2) hs1).mono ?_
    rintro e w3 ⟨vp1, rfl, op1, hb3⟩
    have sp1 := Lib.hid (own_srcP op1)
    clear op1
    have acc3 := bnext acc2 hb3
    go_wp2_with fail
    refine (rsplit_any S _ hs1).mono ?_
    rintro e w4 ⟨vq1, rfl, oq1, hb4⟩
    have sq1 := Lib.hid (own_srcP oq1)
    clear oq1
    have acc4 := bnext acc3 hb4
    go_wp2_with fail
    refine (same_self _ _ _ _ (sp1.out.keep hb4) sq1.out (Nat.le_trans (CP.split_length _) hs1)).mono ?_
    rintro e w5 ⟨rfl, hb5⟩
    have acc5 := bnext acc4 hb5
    clear sp1 sq1
    go_wp2_with fail
    refine (split_any t g _ (HL.out _ acc5) ht1).mono ?_
    rintro e w6 ⟨vp2, rfl, op2, hb6⟩
    have sp2 := Lib.hid (own_srcP op2)
    clear op2
    have acc6 := bnext acc5 hb6
    go_wp2_with fail
    refine (rsplit_any t _ ht1).mono ?_
    rintro e w7 ⟨vq2, rfl, oq2, hb7⟩
    have sq2 := Lib.hid (own_srcP oq2)
    clear oq2
    have acc7 := bnext acc6 hb7
    go_wp2_with fail
    refine (same_self _ _ _ _ (sp2.out.keep hb7) sq2.out (Nat.le_trans (CP.split_length _) ht1)).mono ?_
    rintro e w8 ⟨rfl, hb8⟩
    have acc8 := bnext acc7 hb8
    clear sp2 sq2
    go_wp2_with fail
    refine (split_any (S ++ t) g _ (HL.out _ acc8) hST).mono ?_
    rintro e w9 ⟨vp3, rfl, op3, hb9⟩
    have sp3 := Lib.hid (own_srcP op3)
    clear op3
    have acc9 := bnext acc8 hb9
    go_wp2_with fail
    refine (rsplit_any (S ++ t) _ hST).mono ?_
    rintro e w10 ⟨vq3, rfl, oq3, hb10⟩
    have sq3 := Lib.hid (own_srcP oq3)
    clear oq3
    have acc10 := bnext acc9 hb10
    go_wp2_with fail
    refine (same_self _ _ _ _ (sp3.out.keep hb10) sq3.out (Nat.le_trans (CP.split_length _) hST)).mono ?_
    rintro e w11 ⟨rfl, hb11⟩
    have acc11 := bnext acc10 hb11
    clear sp3 sq3
    go_wp2
    go_ret
    exact ⟨rfl, acc11⟩
  case inr =>
    obtain ⟨S, hS, hS1⟩ : ∃ S : ByteArray, a0 = S ∧ S.size ≤ 300 := ⟨_, rfl, by omega⟩
    rw [hS]
    clear hS
    refine (HM.out _ acc1).mono ?_
    rintro e w2 ⟨t, rfl, ht, hb2⟩
    have acc2 := bnext acc1 hb2
    have hST : (S ++ t).size ≤ 1000000000 := by rw [ByteArray.size_append]; omega
    have hs1 : S.size ≤ 1000000000 := by omega
    have ht1 : t.size ≤ 1000000000 := by omega
    go_wp2_with fail
    refine (split_any S g _ (HL.out _ acc2) hs1).mono ?_
    rintro e w3 ⟨vp1, rfl, op1, hb3⟩
    have sp1 := Lib.hid (own_srcP op1)
    clear op1
    have acc3 := bnext acc2 hb3
    go_wp2_with fail
    refine (rsplit_any S _ hs1).mono ?_
    rintro e w4 ⟨vq1, rfl, oq1, hb4⟩
    have sq1 := Lib.hid (own_srcP oq1)
    clear oq1
    have acc4 := bnext acc3 hb4
    go_wp2_with fail
    refine (same_self _ _ _ _ (sp1.out.keep hb4) sq1.out (Nat.le_trans (CP.split_length _) hs1)).mono ?_
    rintro e w5 ⟨rfl, hb5⟩
    have acc5 := bnext acc4 hb5
    clear sp1 sq1
    go_wp2_with fail
    refine (split_any t g _ (HL.out _ acc5) ht1).mono ?_
    rintro e w6 ⟨vp2, rfl, op2, hb6⟩
    have sp2 := Lib.hid (own_srcP op2)
    clear op2
    have acc6 := bnext acc5 hb6
    go_wp2_with fail
    refine (rsplit_any t _ ht1).mono ?_
    rintro e w7 ⟨vq2, rfl, oq2, hb7⟩
    have sq2 := Lib.hid (own_srcP oq2)
    clear oq2
    have acc7 := bnext acc6 hb7
    go_wp2_with fail
    refine (same_self _ _ _ _ (sp2.out.keep hb7) sq2.out (Nat.le_trans (CP.split_length _) ht1)).mono ?_
    rintro e w8 ⟨rfl, hb8⟩
    have acc8 := bnext acc7 hb8
    clear sp2 sq2
    go_wp2_with fail
    refine (split_any (S ++ t) g _ (HL.out _ acc8) hST).mono ?_
    rintro e w9 ⟨vp3, rfl, op3, hb9⟩
    have sp3 := Lib.hid (own_srcP op3)
    clear op3
    have acc9 := bnext acc8 hb9
    go_wp2_with fail
    refine (rsplit_any (S ++ t) _ hST).mono ?_
    rintro e w10 ⟨vq3, rfl, oq3, hb10⟩
    have sq3 := Lib.hid (own_srcP oq3)
    clear oq3
    have acc10 := bnext acc9 hb10
    go_wp2_with fail
    refine (same_self _ _ _ _ (sp3.out.keep hb10) sq3.out (Nat.le_trans (CP.split_length _) hST)).mono ?_
    rintro e w11 ⟨rfl, hb11⟩
    have acc11 := bnext acc10 hb11
    clear sp3 sq3
    go_wp2
    go_ret
    exact ⟨rfl, acc11⟩

set_option maxRecDepth 100000 in
theorem lifted (os : Os) (started : os.Started) (H : Type) (enc : TypeId × Value → H) :
    ReturnsInHanded {} Tryd.checked os 3 .any (fun w args => (Rows.clusterSplitsSpec.pre enc Tryd.prog Tryd.f3 [] false w args ∧ laidMetH Tryd.prog laidL w) ∧ sizedMet enc Tryd.prog Tryd.f3 (OpenSpec.ofChange Rows.clusterSplitsSpec) false w args)
      (Rows.clusterSplitsSpec.post enc Tryd.prog Tryd.f3 false true false false) := by
  refine returnsInHanded_of_change_and (C := Tryd.checked) (X := fun w _ => laidMetH Tryd.prog laidL w) (fun _ _ _ hh h => h.of_heap hh) own started (by kernel_rfl) Tryd.func3
    (ChangeSpec.witness_shaped (enc := enc) (C := Tryd.checked) (os := os) (X := fun w _ => laidMetH Tryd.prog laidL w) false (World.doorLaid Tryd.prog 46 os) #[.string ByteArray.empty, .slice none 0 0] 8 rfl (World.shaped_of_RefB (by kernel_rfl) (by kernel_rfl)) (by kernel_rfl) (by kernel_rfl) (by kernel_rfl) (door_met os _)) ?_
  intro W base args ds gs before hval0 hW _ _ hL _
  have hval : ∀ (j : Nat) t v, Tryd.f3.params[j]? = some t → args[j]? = some v → Value.okWide Tryd.prog W .any base t v := hval0
  have hW' := hW
  obtain ⟨p, q, hA0, hV, rfl, hfz, hnd⟩ := hW
  have hA : DataW.TrodAll enc Tryd.prog W 0 (fun _ => true) true Tryd.f3.params.toList args.toList ds p := hA0
  rw [Tryd.params3] at hA hval
  obtain ⟨v0, vs0, d0, ds0, p0, q0, hargs, rfl, rfl, h0, r0⟩ := trodAll_cons hA
  obtain ⟨v1, vs1, d1, ds1, p1, q1, rfl, rfl, rfl, h1, r1⟩ := trodAll_cons r0
  obtain ⟨rfl, rfl, rfl⟩ := trodAll_nil r1
  obtain rfl : args = #[v0, v1] := by cases args; simp_all
  obtain ⟨rfl, rfl⟩ := trodVars_none hV
  obtain ⟨g, hlaid⟩ := of_laid hL
  have k0 := h0
  have lt0 : ∀ x ∈ p0, x.block < W.heap.size := by obtain ⟨m, hm⟩ := k0; exact DataW.trod_lt m _ _ _ hm
  have k1 := h1
  have lt1 : ∀ x ∈ p1, x.block < W.heap.size := by obtain ⟨m, hm⟩ := k1; exact DataW.trod_lt m _ _ _ hm
  obtain ⟨a0, rfl, rfl, rfl, wa0⟩ := open_string Tryd.underlying9 (hval 0 9 v0 rfl rfl) h0
  obtain ⟨a1, H1, L1, E1⟩ := open_l (hval 1 22 v1 rfl rfl) h1
  clear hA0 hval0
  refine (walk a0 v1 a1 g wa0 W hlaid H1 L1 E1).mono fun e W' ⟨he, bel⟩ => ?_
  subst he
  exact ⟨_, rfl, _, _, _, [], _, [], hW', trodAll_mk1 (shut_bool Tryd.underlying4 _), (trodAll_cons_mk (Below.trod laidOut (by kernel_rfl) (of_decide_eq_true (by kernel_rfl)) k0 bel lt0) (trodAll_cons_mk (Below.trod laidOut (by kernel_rfl) (of_decide_eq_true (by kernel_rfl)) k1 bel lt1) trodAll_mk0)), rfl, bel.frame _, fun h => by cases h⟩

theorem over : Rows.clusterSplitsRow.holds Tryd.pinned (OpenSpec.ofChange Rows.clusterSplitsSpec) :=
  OpenClaim.holds_of_wide 3 Tryd.f3 rfl rfl rfl rfl rfl rfl rfl ⟨rfl, rfl, rfl, rfl, rfl⟩ rfl rfl rfl rfl rfl (by kernel_rfl) Tryd.func3 (by kernel_rfl)
    (of_decide_eq_true (by kernel_rfl)) (by unfold Func.isWrapper; first | (rw [if_pos (by decide +kernel)]; kernel_rfl) | (rw [if_neg (by decide +kernel)]; exact ⟨rfl, rfl⟩))
    (fun os started H enc _ => lifted os started H enc)

/-- The row's card, tied to the program's text. -/
theorem card : Rows.ClusterSplitsCardSaid :=
  Claim7.holds_tied_plain_at .later [] [.data] true Rows.clusterSplitsCard.stood.harness false
    over (fun _ h => by cases h) (by kernel_rfl) (fun _ h => by cases h) clusterSplits_row_tie rfl ⟨rfl, rfl⟩ (by kernel_rfl) rfl
    (fun f fn hf hfn => by
      obtain rfl : f = 3 := Option.some.inj ((show Tryd.prog.funcNamed "abugida/abugidalaw06.ClusterSplits" = some 3 by kernel_rfl).symm.trans hf) |>.symm
      obtain rfl : fn = Tryd.f3 := (Option.some.inj (Tryd.func3.symm.trans hfn)).symm
      exact ⟨by kernel_rfl, fun j t ht => by
        rw [Tryd.params3] at ht
        have hm : t ∈ [9, 22] := by simpa using Array.mem_of_getElem? ht
        have hall : ([9, 22].all fun u => !Tryd.prog.wantsStandIn u) = true := by kernel_rfl
        exact (show Tryd.prog.wantsStandIn t = false by simpa using List.all_eq_true.1 hall t hm)⟩)
    (by kernel_rfl)

end Go.Proofs.YtnikddmcphcmeaaDoor.clusterSplits
namespace Go.Proofs.YtnikddmcphcmeaaDoor
theorem clusterSplits_proved : Rows.ClusterSplitsCardSaid := clusterSplits.card
#print axioms clusterSplits_proved
end Go.Proofs.YtnikddmcphcmeaaDoor
