/- For all lists of numbers BreaksAlone returns true: text that stands before the end of a line, and text after it, may be broken as if each stood alone. No conditions. -/
import Derived.Test.YtcocnmpnbolpmaaDoorBrkFacts
import Derived.Test.YtcocnmpnbolpmaaDoorClsLaid
import Derived.ChangeMaps5
namespace Go.Proofs.YtcocnmpnbolpmaaDoor.breaksAlone
open Go.ChangeShapes Go.WideShapes Go.ChangeAt Go.RowKit Go.Joins Go.Deep Go.ChangeMaps
set_option linter.unusedVariables false

theorem text_of {v : Value} {a : List Int} {w W : World} (n : Nat) (hn : n ≤ 1000) (hv : RowAt w v (a.map (Value.int .i64))) (hL : a.length ≤ maxLen) (hE : ∀ x, x ∈ a → -9223372036854775808 ≤ x ∧ x ≤ 9223372036854775807) (hb : Below w.heap.size w W) :
    Calls Tryd.prog 10 #[v, .int .i64 n] W fun e W' => ∃ t : ByteArray, e = .returned (.string t) ∧ t.size ≤ n ∧ Below W.heap.size W W' :=
  text_any v a n W (hv.keep hb) hE hL hn
theorem drop_mid (A : List Value) (x : Value) (B : List Value) : (A ++ x :: B).drop (A.length + 1) = B := by
  induction A with
  | nil => rfl
  | cons a A ih => simp
set_option maxRecDepth 100000 in
set_option maxHeartbeats 2000000 in
theorem walk (v0 : Value) (a0 : List Int) (v1 : Value) (a1 : List Int) (g : Nat × Nat)  (w : World) (hl : Laid w g) (H0 : RowAt w v0 (a0.map (Value.int .i64))) (L0 : a0.length ≤ maxLen ∧ ∀ a n c, v0 = .slice a n c → n ≤ c) (E0 : ∀ x, x ∈ a0 → -9223372036854775808 ≤ x ∧ x ≤ 9223372036854775807) (H1 : RowAt w v1 (a1.map (Value.int .i64))) (L1 : a1.length ≤ maxLen ∧ ∀ a n c, v1 = .slice a n c → n ≤ c) (E1 : ∀ x, x ∈ a1 → -9223372036854775808 ≤ x ∧ x ≤ 9223372036854775807) :
    Calls Tryd.prog 8 #[v0, v1] w fun e w' => e = .returned (.bool true) ∧ Below w.heap.size w w' := by
  have HL : Hid (∀ B, Below w.heap.size w B → Laid B g) := Lib.hid fun B hb => hl.mono hb
  have acc0 : Below w.heap.size w w := Below.refl _ _
  have HM0 := Lib.hid (fun W (hb : Below w.heap.size w W) => text_of 30 (by omega) H0 L0.1 E0 hb)
  clear H0 E0
  have HM1 := Lib.hid (fun W (hb : Below w.heap.size w W) => text_of 30 (by omega) H1 L1.1 E1 hb)
  clear H1 E1
  go_enter Tryd.func8, Tryd.ntmps8
  go_wp2_with fail
  refine (sane_any g _ hl).mono ?_
  rintro e w1 ⟨rfl, hb1⟩
  have acc1 := bnext acc0 hb1
  clear hb1 acc0
  go_wp2_with fail
  refine (HM0.out _ acc1).mono ?_
  rintro e w2 ⟨A, rfl, hA, hb2⟩
  have acc2 := bnext acc1 hb2
  go_wp2_with fail
  refine (HM1.out _ acc2).mono ?_
  rintro e w3 ⟨B, rfl, hB, hb3⟩
  have acc3 := bnext acc2 hb3
  clear hb2 hb3 acc1 acc2 HM0 HM1
  have hA1 : A.size ≤ 1000000000 := by omega
  have hB1 : B.size ≤ 1000000000 := by omega
  have hAB : (A ++ CP.nl ++ B).size ≤ 1000000000 := by rw [ByteArray.size_append, ByteArray.size_append, CP.nl_size]; omega
  go_wp2_with fail
  refine (may_any A g _ (HL.out _ acc3) hA1).mono ?_
  rintro e w4 ⟨v4, rfl, s4, hb4⟩
  have acc4 := bnext acc3 hb4
  clear hb4 acc3
  have P1 := Lib.hid s4
  clear s4
  go_wp2_with fail
  refine (may_any B g _ (HL.out _ acc4) hB1).mono ?_
  rintro e w5 ⟨v5, rfl, s5, hb5⟩
  replace P1 := Lib.hid (P1.out.keep hb5)
  have acc5 := bnext acc4 hb5
  clear hb5 acc4
  have P2 := Lib.hid s5
  clear s5
  go_wp2_with fail
  refine (may_cap (A ++ CP.nl ++ B) g _ (HL.out _ acc5) hAB).mono ?_
  rintro e w6 ⟨v6, rfl, s6, cap3, hb6⟩
  replace P1 := Lib.hid (P1.out.keep hb6)
  replace P2 := Lib.hid (P2.out.keep hb6)
  have acc6 := bnext acc5 hb6
  clear hb6 acc5
  have P3 := Lib.hid s6
  clear s6
  rw [BP.may_three] at P3
  have l1 := BP.may_length A
  have l2 := BP.may_length B
  have s1 := CP.split_length A
  have s2 := CP.split_length B
  have hl1 : (BP.may A).length ≤ 30 := by omega
  have hl2 : (BP.may B).length ≤ 30 := by omega
  generalize BP.may A = L1 at P1 P3 hl1
  generalize BP.may B = L2 at P2 P3 hl2
  clear l1 l2 s1 s2
  obtain ⟨n1, hn1⟩ : ∃ n, L1.length = n := ⟨_, rfl⟩
  obtain ⟨n2, hn2⟩ : ∃ n, L2.length = n := ⟨_, rfl⟩
  have S1 := P1.out
  have S2 := P2.out
  have S3 := P3.out
  obtain ⟨a1, c1, rfl, _⟩ := P1.out
  obtain ⟨a2, c2, rfl, _⟩ := P2.out
  obtain ⟨a3, c3, rfl, h3⟩ := P3.out
  have e1 : (L1.map (Value.int .i64)).length = n1 := by rw [List.length_map, hn1]
  have e2 : (L2.map (Value.int .i64)).length = n2 := by rw [List.length_map, hn2]
  have e3 : ((L1 ++ 2 :: L2).map (Value.int .i64)).length = n1 + 1 + n2 := by simp; omega
  rcases h3 with ⟨h3, _⟩ | ⟨g3, o3, rfl, hg3, hc3⟩
  · simp at h3
  have cell := hc3 n1 (by rw [e3]; omega)
  rw [show ((L1 ++ 2 :: L2).map (Value.int .i64)).getD n1 (.bool false) = .int .i64 2 by rw [← hn1]; simp [List.getD]] at cell
  have hcap := cap3 _ _ _ rfl
  rw [e3] at hcap
  have T1 := S3.take (k := n1) (by rw [e3]; omega)
  have T2 := S3.drop (k := n1 + 1) (ao := some ⟨g3, o3 + (n1 + 1), none⟩) (by rw [e3]; omega) (fun h => by cases h) (fun _ g o h => by injection h with h; injection h with h1 h2; subst h1 h2; rfl)
  rw [show ((L1 ++ 2 :: L2).map (Value.int .i64)).take n1 = L1.map (Value.int .i64) by rw [← hn1]; simp] at T1
  rw [show ((L1 ++ 2 :: L2).map (Value.int .i64)).drop (n1 + 1) = L2.map (Value.int .i64) by rw [List.map_append, List.map_cons, ← hn1, show L1.length = (L1.map (Value.int .i64)).length by simp, drop_mid]] at T2
  rw [e1] at S1
  rw [e2] at S2
  rw [e3] at T2
  rw [e1, e2, e3]
  have I1 := Lib.hid (is_any _ _ L1 _ T1.row S1.row (by omega))
  have x1 : (n1 : Int) < (n1 : Int) + 1 + (n2 : Int) := by omega
  have x2 : (((n1 + 1 + n2 : Nat) : Int) != (n1 : Int) + 1 + (n2 : Int)) = false := by simp
  clear hc3 P1 P2 P3 S3 e1 e2 e3 cap3
  go_wp2_with fail
  refine I1.out.mono ?_
  rintro e w7 ⟨rfl, hb7⟩
  rw [show n1 + 1 + n2 - (n1 + 1) = n2 by omega] at T2
  have I2 := Lib.hid (is_any _ _ L2 _ (T2.keep hb7).row (S2.keep hb7).row (by omega))
  have I3 : Hid (n2 = 0 → Calls Tryd.prog 11 #[.slice (some ⟨g3, o3, none⟩) n2 0, .slice a2 n2 c2] w7 fun e w' => e = .returned (.bool true) ∧ Below w7.heap.size w7 w') := Lib.hid fun h0 => by
    have hL2 : L2 = [] := List.eq_nil_of_length_eq_zero (by omega)
    subst hL2
    subst h0
    exact is_any _ _ [] _ ⟨_, _, rfl, .inl rfl⟩ (S2.keep hb7).row (by decide)
  have acc7 := bnext acc6 hb7
  clear hb7 S2 T2 S1 T1 I1 cell
  go_wp2_with fail
  case inl =>
    refine (I3.out (by omega)).mono ?_
    rintro e w8 ⟨rfl, hb8⟩
    have acc8 := bnext acc7 hb8
    go_wp2_with fail
    go_ret
    exact ⟨rfl, acc8⟩
  case inr =>
    refine I2.out.mono ?_
    rintro e w8 ⟨rfl, hb8⟩
    have acc8 := bnext acc7 hb8
    go_wp2_with fail
    go_ret
    exact ⟨rfl, acc8⟩

set_option maxRecDepth 100000 in
theorem lifted (os : Os) (started : os.Started) (H : Type) (enc : TypeId × Value → H) :
    ReturnsInHanded {} Tryd.checked os 8 .any (fun w args => (Rows.breaksAloneSpec.pre enc Tryd.prog Tryd.f8 [] false w args ∧ laidMetH Tryd.prog laidL w) ∧ sizedMet enc Tryd.prog Tryd.f8 (OpenSpec.ofChange Rows.breaksAloneSpec) false w args)
      (Rows.breaksAloneSpec.post enc Tryd.prog Tryd.f8 false true false false) := by
  refine returnsInHanded_of_change_and (C := Tryd.checked) (X := fun w _ => laidMetH Tryd.prog laidL w) (fun _ _ _ hh h => h.of_heap hh) own started (by kernel_rfl) Tryd.func8
    (ChangeSpec.witness_shaped (enc := enc) (C := Tryd.checked) (os := os) (X := fun w _ => laidMetH Tryd.prog laidL w) false (World.doorLaid Tryd.prog 46 os) #[.slice none 0 0, .slice none 0 0] 8 rfl (World.shaped_of_RefB (by kernel_rfl) (by kernel_rfl)) (by kernel_rfl) (by kernel_rfl) (by kernel_rfl) (door_met os _)) ?_
  intro W base args ds gs before hval0 hW _ _ hL _
  have hval : ∀ (j : Nat) t v, Tryd.f8.params[j]? = some t → args[j]? = some v → Value.okWide Tryd.prog W .any base t v := hval0
  have hW' := hW
  obtain ⟨p, q, hA0, hV, rfl, hfz, hnd⟩ := hW
  have hA : DataW.TrodAll enc Tryd.prog W 0 (fun _ => true) true Tryd.f8.params.toList args.toList ds p := hA0
  rw [Tryd.params8] at hA hval
  obtain ⟨v0, vs0, d0, ds0, p0, q0, hargs, rfl, rfl, h0, r0⟩ := trodAll_cons hA
  obtain ⟨v1, vs1, d1, ds1, p1, q1, rfl, rfl, rfl, h1, r1⟩ := trodAll_cons r0
  obtain ⟨rfl, rfl, rfl⟩ := trodAll_nil r1
  obtain rfl : args = #[v0, v1] := by cases args; simp_all
  obtain ⟨rfl, rfl⟩ := trodVars_none hV
  obtain ⟨g, hlaid⟩ := of_laid hL
  have k0 := h0
  have lt0 : ∀ x ∈ p0, x.block < W.heap.size := by obtain ⟨m, hm⟩ := k0; exact DataW.trod_lt m _ _ _ hm
  have k1 := h1
  have lt1 : ∀ x ∈ p1, x.block < W.heap.size := by obtain ⟨m, hm⟩ := k1; exact DataW.trod_lt m _ _ _ hm
  obtain ⟨a0, H0, L0, E0⟩ := open_l (hval 0 22 v0 rfl rfl) h0
  obtain ⟨a1, H1, L1, E1⟩ := open_l (hval 1 22 v1 rfl rfl) h1
  clear hA0 hval0
  refine (walk v0 a0 v1 a1 g  W hlaid H0 L0 E0 H1 L1 E1).mono fun e W' ⟨he, bel⟩ => ?_
  subst he
  exact ⟨_, rfl, _, _, _, [], _, [], hW', trodAll_mk1 (shut_bool Tryd.underlying4 _), (trodAll_cons_mk (Below.trod laidOut (by kernel_rfl) (of_decide_eq_true (by kernel_rfl)) k0 bel lt0) (trodAll_cons_mk (Below.trod laidOut (by kernel_rfl) (of_decide_eq_true (by kernel_rfl)) k1 bel lt1) trodAll_mk0)), rfl, bel.frame _, fun h => by cases h⟩

theorem over : Rows.breaksAloneRow.holds Tryd.pinned (OpenSpec.ofChange Rows.breaksAloneSpec) :=
  OpenClaim.holds_of_wide 8 Tryd.f8 rfl rfl rfl rfl rfl rfl rfl ⟨rfl, rfl, rfl, rfl, rfl⟩ rfl rfl rfl rfl rfl (by kernel_rfl) Tryd.func8 (by kernel_rfl)
    (of_decide_eq_true (by kernel_rfl)) (by unfold Func.isWrapper; first | (rw [if_pos (by decide +kernel)]; kernel_rfl) | (rw [if_neg (by decide +kernel)]; exact ⟨rfl, rfl⟩))
    (fun os started H enc _ => lifted os started H enc)

/-- The row's card, tied to the program's text. -/
theorem card : Rows.BreaksAloneCardSaid :=
  Claim7.holds_tied_plain_at .later [] [.data] true Rows.breaksAloneCard.stood.harness false
    over (fun _ h => by cases h) (by kernel_rfl) (fun _ h => by cases h) breaksAlone_row_tie rfl ⟨rfl, rfl⟩ (by kernel_rfl) rfl
    (fun f fn hf hfn => by
      obtain rfl : f = 8 := Option.some.inj ((show Tryd.prog.funcNamed "abugida/abugidalaw08.BreaksAlone" = some 8 by kernel_rfl).symm.trans hf) |>.symm
      obtain rfl : fn = Tryd.f8 := (Option.some.inj (Tryd.func8.symm.trans hfn)).symm
      exact ⟨by kernel_rfl, fun j t ht => by
        rw [Tryd.params8] at ht
        have hm : t ∈ [22, 22] := by simpa using Array.mem_of_getElem? ht
        have hall : ([22, 22].all fun u => !Tryd.prog.wantsStandIn u) = true := by kernel_rfl
        exact (show Tryd.prog.wantsStandIn t = false by simpa using List.all_eq_true.1 hall t hm)⟩)
    (by kernel_rfl)

end Go.Proofs.YtcocnmpnbolpmaaDoor.breaksAlone
namespace Go.Proofs.YtcocnmpnbolpmaaDoor
theorem breaksAlone_proved : Rows.BreaksAloneCardSaid := breaksAlone.card
#print axioms breaksAlone_proved
end Go.Proofs.YtcocnmpnbolpmaaDoor
