/- For every two lists and every number SetsMatch returns true: all results are those of the reference. No conditions. -/
import Derived.Test.YtamhhbgakaokgaaSetSane
namespace Go.Proofs.Ytamhhbgakaokgaa.setsMatch
open Go.ChangeShapes Go.WideShapes Go.ChangeAt Go.RowKit Go.Joins Go.Deep Go.Maps
set_option linter.unusedVariables false

set_option maxRecDepth 100000 in
set_option maxHeartbeats 8000000 in
theorem walk (v0 : Value) (a0 : List Int) (v1 : Value) (a1 : List Int) (a2 : Int) (wa2 : (Lit.int .i64 a2).wf = true) (w : World) (H0 : Src w v0 (a0.map (Value.int .i64))) (L0 : a0.length ≤ maxLen ∧ ∀ a n c, v0 = .slice a n c → n ≤ c) (E0 : ∀ x, x ∈ a0 → (Lit.int .i64 x).wf = true) (H1 : Src w v1 (a1.map (Value.int .i64))) (L1 : a1.length ≤ maxLen ∧ ∀ a n c, v1 = .slice a n c → n ≤ c) (E1 : ∀ x, x ∈ a1 → (Lit.int .i64 x).wf = true) :
    Calls Try.prog 3 #[v0, v1, .int .i64 a2] w fun e w' => e = .returned (.bool true) ∧ Below w.heap.size w w' := by
  obtain ⟨A, hEA⟩ : ∃ A, a0.take 40 = A := ⟨_, rfl⟩
  have IA : InN 40 A := hEA ▸ InN.take E0
  have HFA := Lib.hid hEA
  clear hEA
  obtain ⟨y0, z0, rfl, _⟩ := H0.out
  rw [iv_len] at H0 ⊢
  have S0 := Lib.hid H0
  have hl0 := L0.1
  have hc0 := Lib.hid L0.2
  rw [iv_len] at hc0
  clear H0 L0 E0
  obtain ⟨B, hEB⟩ : ∃ B, a1.take 40 = B := ⟨_, rfl⟩
  have IB : InN 40 B := hEB ▸ InN.take E1
  have HFB := Lib.hid hEB
  clear hEB
  obtain ⟨y1, z1, rfl, _⟩ := H1.out
  rw [iv_len] at H1 ⊢
  have S1 := Lib.hid H1
  have hl1 := L1.1
  have hc1 := Lib.hid L1.2
  rw [iv_len] at hc1
  clear H1 L1 E1
  have acc : Below w.heap.size w w := Below.refl _ _
  go_enter Try.func3, Try.ntmps3
  go_wp2_with fail
  refine (sanity_any _).mono ?_
  rintro e w1 ⟨rfl, hb1⟩
  replace acc := bnext (w := w) (by repeat' (first | exact acc | refine balloc ?_ _)) hb1
  clear hb1
  go_wp2_with fail
  refine (few_t _ a0 A _ (S0.out.keep (by repeat' (first | exact acc | refine balloc ?_ _))) hl0 hc0.out HFA.out).mono ?_
  rintro e w2 ⟨u2, rfl, h2, hb2⟩
  obtain ⟨p2, q2, rfl⟩ := own_shape h2
  replace acc := bnext (w := w) (by repeat' (first | exact acc | refine balloc ?_ _)) hb2
  have RA := Lib.hid (Own.lst h2)
  clear h2 hb2
  go_wp2_with fail
  refine (few_t _ a1 B _ (S1.out.keep (by repeat' (first | exact acc | refine balloc ?_ _))) hl1 hc1.out HFB.out).mono ?_
  rintro e w3 ⟨u3, rfl, h3, hb3⟩
  obtain ⟨p3, q3, rfl⟩ := own_shape h3
  replace RA := Lib.hid ((RA.out.keep (by repeat' (first | exact Below.refl _ _ | refine balloc ?_ _))).keep hb3)
  replace acc := bnext (w := w) (by repeat' (first | exact acc | refine balloc ?_ _)) hb3
  have RB := Lib.hid (Own.lst h3)
  clear h3 hb3
  go_wp2_with fail
  refine (norm_any _ A _ (RA.out.keep (by repeat' (first | exact Below.refl _ _ | refine balloc ?_ _))).row (IA.r (by decide))).mono ?_
  rintro e w4 ⟨u4, rfl, h4, hb4⟩
  obtain ⟨p4, q4, rfl⟩ := own_shape h4
  replace RA := Lib.hid ((RA.out.keep (by repeat' (first | exact Below.refl _ _ | refine balloc ?_ _))).keep hb4)
  replace RB := Lib.hid ((RB.out.keep (by repeat' (first | exact Below.refl _ _ | refine balloc ?_ _))).keep hb4)
  replace acc := bnext (w := w) (by repeat' (first | exact acc | refine balloc ?_ _)) hb4
  have N1 := Lib.hid (Own.lst h4)
  clear h4 hb4
  go_wp2_with fail
  refine (rnorm_any _ A _ (RA.out.keep (by repeat' (first | exact Below.refl _ _ | refine balloc ?_ _))).row (by have := IA.1; omega)).mono ?_
  rintro e w5 ⟨u5, rfl, h5, hb5⟩
  obtain ⟨p5, q5, rfl, _, _⟩ := h5.out
  replace RA := Lib.hid ((RA.out.keep (by repeat' (first | exact Below.refl _ _ | refine balloc ?_ _))).keep hb5)
  replace RB := Lib.hid ((RB.out.keep (by repeat' (first | exact Below.refl _ _ | refine balloc ?_ _))).keep hb5)
  replace N1 := Lib.hid ((N1.out.keep (by repeat' (first | exact Below.refl _ _ | refine balloc ?_ _))).keep hb5)
  replace acc := bnext (w := w) (by repeat' (first | exact acc | refine balloc ?_ _)) hb5
  have N2 := Lib.hid (h5)
  clear h5 hb5
  go_wp2_with fail
  refine (same_t _ _ (SP.norm A) (SP.norm A) _ (N1.out.keep (by repeat' (first | exact Below.refl _ _ | refine balloc ?_ _))).row (N2.out.keep (by repeat' (first | exact Below.refl _ _ | refine balloc ?_ _))).row rfl (by have := SP.norm_len A; have := IA.1; omega)).mono ?_
  rintro e w6 ⟨rfl, hb6⟩
  replace RA := Lib.hid ((RA.out.keep (by repeat' (first | exact Below.refl _ _ | refine balloc ?_ _))).keep hb6)
  replace RB := Lib.hid ((RB.out.keep (by repeat' (first | exact Below.refl _ _ | refine balloc ?_ _))).keep hb6)
  replace N1 := Lib.hid ((N1.out.keep (by repeat' (first | exact Below.refl _ _ | refine balloc ?_ _))).keep hb6)
  replace N2 := Lib.hid ((N2.out.keep (by repeat' (first | exact Below.refl _ _ | refine balloc ?_ _))).keep hb6)
  replace acc := bnext (w := w) (by repeat' (first | exact acc | refine balloc ?_ _)) hb6
  clear hb6
  clear N1 N2
  go_wp2_with fail
  refine (right_any _ A _ (RA.out.keep (by repeat' (first | exact Below.refl _ _ | refine balloc ?_ _))).row (by have := IA.1; omega)).mono ?_
  rintro e w7 ⟨rfl, hb7⟩
  replace RA := Lib.hid ((RA.out.keep (by repeat' (first | exact Below.refl _ _ | refine balloc ?_ _))).keep hb7)
  replace RB := Lib.hid ((RB.out.keep (by repeat' (first | exact Below.refl _ _ | refine balloc ?_ _))).keep hb7)
  replace acc := bnext (w := w) (by repeat' (first | exact acc | refine balloc ?_ _)) hb7
  clear hb7
  go_wp2_with fail
  refine (rright_any _ A _ (RA.out.keep (by repeat' (first | exact Below.refl _ _ | refine balloc ?_ _))).row (by have := IA.1; omega)).mono ?_
  rintro e w8 ⟨rfl, hb8⟩
  replace RA := Lib.hid ((RA.out.keep (by repeat' (first | exact Below.refl _ _ | refine balloc ?_ _))).keep hb8)
  replace RB := Lib.hid ((RB.out.keep (by repeat' (first | exact Below.refl _ _ | refine balloc ?_ _))).keep hb8)
  replace acc := bnext (w := w) (by repeat' (first | exact acc | refine balloc ?_ _)) hb8
  clear hb8
  go_wp2_with fail
  refine (norm_any _ B _ (RB.out.keep (by repeat' (first | exact Below.refl _ _ | refine balloc ?_ _))).row (IB.r (by decide))).mono ?_
  rintro e w9 ⟨u9, rfl, h9, hb9⟩
  obtain ⟨p9, q9, rfl⟩ := own_shape h9
  replace RA := Lib.hid ((RA.out.keep (by repeat' (first | exact Below.refl _ _ | refine balloc ?_ _))).keep hb9)
  replace RB := Lib.hid ((RB.out.keep (by repeat' (first | exact Below.refl _ _ | refine balloc ?_ _))).keep hb9)
  replace acc := bnext (w := w) (by repeat' (first | exact acc | refine balloc ?_ _)) hb9
  have N1 := Lib.hid (Own.lst h9)
  clear h9 hb9
  go_wp2_with fail
  refine (right_t _ (SP.norm B) true _ (N1.out.keep (by repeat' (first | exact Below.refl _ _ | refine balloc ?_ _))).row (by have := SP.norm_len B; have := IB.1; omega) (SP.right_true (SP.rises_norm B))).mono ?_
  rintro e w10 ⟨rfl, hb10⟩
  replace RA := Lib.hid ((RA.out.keep (by repeat' (first | exact Below.refl _ _ | refine balloc ?_ _))).keep hb10)
  replace RB := Lib.hid ((RB.out.keep (by repeat' (first | exact Below.refl _ _ | refine balloc ?_ _))).keep hb10)
  replace N1 := Lib.hid ((N1.out.keep (by repeat' (first | exact Below.refl _ _ | refine balloc ?_ _))).keep hb10)
  replace acc := bnext (w := w) (by repeat' (first | exact acc | refine balloc ?_ _)) hb10
  clear hb10
  clear N1
  go_wp2_with fail
  refine (has_any _ A a2 _ (RA.out.keep (by repeat' (first | exact Below.refl _ _ | refine balloc ?_ _))).row (by have := IA.1; omega)).mono ?_
  rintro e w11 ⟨rfl, rfl⟩
  go_wp2_with fail
  refine (rhas_any _ A a2 _ (RA.out.keep (by repeat' (first | exact Below.refl _ _ | refine balloc ?_ _))).row (by have := IA.1; omega)).mono ?_
  rintro e w12 ⟨rfl, rfl⟩
  go_wp2_with fail
  refine (join_any _ _ A B _ (RA.out.keep (by repeat' (first | exact Below.refl _ _ | refine balloc ?_ _))).row (RB.out.keep (by repeat' (first | exact Below.refl _ _ | refine balloc ?_ _))).row (IA.r (by decide)) (IB.r (by decide))).mono ?_
  rintro e w13 ⟨u13, rfl, h13, hb13⟩
  obtain ⟨p13, q13, rfl⟩ := own_shape h13
  replace RA := Lib.hid ((RA.out.keep (by repeat' (first | exact Below.refl _ _ | refine balloc ?_ _))).keep hb13)
  replace RB := Lib.hid ((RB.out.keep (by repeat' (first | exact Below.refl _ _ | refine balloc ?_ _))).keep hb13)
  replace acc := bnext (w := w) (by repeat' (first | exact acc | refine balloc ?_ _)) hb13
  have N1 := Lib.hid (Own.lst h13)
  clear h13 hb13
  go_wp2_with fail
  refine (rjoin_any _ _ A B _ (RA.out.keep (by repeat' (first | exact Below.refl _ _ | refine balloc ?_ _))).row (RB.out.keep (by repeat' (first | exact Below.refl _ _ | refine balloc ?_ _))).row (by have := IA.1; omega) (by have := IB.1; omega)).mono ?_
  rintro e w14 ⟨u14, rfl, h14, hb14⟩
  obtain ⟨p14, q14, rfl, _, _⟩ := h14.out
  replace RA := Lib.hid ((RA.out.keep (by repeat' (first | exact Below.refl _ _ | refine balloc ?_ _))).keep hb14)
  replace RB := Lib.hid ((RB.out.keep (by repeat' (first | exact Below.refl _ _ | refine balloc ?_ _))).keep hb14)
  replace N1 := Lib.hid ((N1.out.keep (by repeat' (first | exact Below.refl _ _ | refine balloc ?_ _))).keep hb14)
  replace acc := bnext (w := w) (by repeat' (first | exact acc | refine balloc ?_ _)) hb14
  have N2 := Lib.hid (h14)
  clear h14 hb14
  go_wp2_with fail
  refine (same_t _ _ (SP.join A B) (SP.join A B) _ (N1.out.keep (by repeat' (first | exact Below.refl _ _ | refine balloc ?_ _))).row (N2.out.keep (by repeat' (first | exact Below.refl _ _ | refine balloc ?_ _))).row rfl (by have := SP.join_len A B; have := IA.1; have := IB.1; omega)).mono ?_
  rintro e w15 ⟨rfl, hb15⟩
  replace RA := Lib.hid ((RA.out.keep (by repeat' (first | exact Below.refl _ _ | refine balloc ?_ _))).keep hb15)
  replace RB := Lib.hid ((RB.out.keep (by repeat' (first | exact Below.refl _ _ | refine balloc ?_ _))).keep hb15)
  replace N1 := Lib.hid ((N1.out.keep (by repeat' (first | exact Below.refl _ _ | refine balloc ?_ _))).keep hb15)
  replace N2 := Lib.hid ((N2.out.keep (by repeat' (first | exact Below.refl _ _ | refine balloc ?_ _))).keep hb15)
  replace acc := bnext (w := w) (by repeat' (first | exact acc | refine balloc ?_ _)) hb15
  clear hb15
  clear N1 N2
  go_wp2_with fail
  refine (meet_any _ _ A B _ (RA.out.keep (by repeat' (first | exact Below.refl _ _ | refine balloc ?_ _))).row (RB.out.keep (by repeat' (first | exact Below.refl _ _ | refine balloc ?_ _))).row (IA.r (by decide)) (IB.r (by decide))).mono ?_
  rintro e w16 ⟨u16, rfl, h16, hb16⟩
  obtain ⟨p16, q16, rfl⟩ := own_shape h16
  replace RA := Lib.hid ((RA.out.keep (by repeat' (first | exact Below.refl _ _ | refine balloc ?_ _))).keep hb16)
  replace RB := Lib.hid ((RB.out.keep (by repeat' (first | exact Below.refl _ _ | refine balloc ?_ _))).keep hb16)
  replace acc := bnext (w := w) (by repeat' (first | exact acc | refine balloc ?_ _)) hb16
  have N1 := Lib.hid (Own.lst h16)
  clear h16 hb16
  go_wp2_with fail
  refine (rmeet_any _ _ A B _ (RA.out.keep (by repeat' (first | exact Below.refl _ _ | refine balloc ?_ _))).row (RB.out.keep (by repeat' (first | exact Below.refl _ _ | refine balloc ?_ _))).row (by have := IA.1; omega) (by have := IB.1; omega)).mono ?_
  rintro e w17 ⟨u17, rfl, h17, hb17⟩
  obtain ⟨p17, q17, rfl, _, _⟩ := h17.out
  replace RA := Lib.hid ((RA.out.keep (by repeat' (first | exact Below.refl _ _ | refine balloc ?_ _))).keep hb17)
  replace RB := Lib.hid ((RB.out.keep (by repeat' (first | exact Below.refl _ _ | refine balloc ?_ _))).keep hb17)
  replace N1 := Lib.hid ((N1.out.keep (by repeat' (first | exact Below.refl _ _ | refine balloc ?_ _))).keep hb17)
  replace acc := bnext (w := w) (by repeat' (first | exact acc | refine balloc ?_ _)) hb17
  have N2 := Lib.hid (h17)
  clear h17 hb17
  go_wp2_with fail
  refine (same_t _ _ (SP.meet A B) (SP.meet A B) _ (N1.out.keep (by repeat' (first | exact Below.refl _ _ | refine balloc ?_ _))).row (N2.out.keep (by repeat' (first | exact Below.refl _ _ | refine balloc ?_ _))).row rfl (by have := SP.meet_len A B; have := IA.1; have := IB.1; omega)).mono ?_
  rintro e w18 ⟨rfl, hb18⟩
  replace RA := Lib.hid ((RA.out.keep (by repeat' (first | exact Below.refl _ _ | refine balloc ?_ _))).keep hb18)
  replace RB := Lib.hid ((RB.out.keep (by repeat' (first | exact Below.refl _ _ | refine balloc ?_ _))).keep hb18)
  replace N1 := Lib.hid ((N1.out.keep (by repeat' (first | exact Below.refl _ _ | refine balloc ?_ _))).keep hb18)
  replace N2 := Lib.hid ((N2.out.keep (by repeat' (first | exact Below.refl _ _ | refine balloc ?_ _))).keep hb18)
  replace acc := bnext (w := w) (by repeat' (first | exact acc | refine balloc ?_ _)) hb18
  clear hb18
  clear N1 N2
  go_wp2_with fail
  refine (less_any _ _ A B _ (RA.out.keep (by repeat' (first | exact Below.refl _ _ | refine balloc ?_ _))).row (RB.out.keep (by repeat' (first | exact Below.refl _ _ | refine balloc ?_ _))).row (IA.r (by decide)) (IB.r (by decide))).mono ?_
  rintro e w19 ⟨u19, rfl, h19, hb19⟩
  obtain ⟨p19, q19, rfl⟩ := own_shape h19
  replace RA := Lib.hid ((RA.out.keep (by repeat' (first | exact Below.refl _ _ | refine balloc ?_ _))).keep hb19)
  replace RB := Lib.hid ((RB.out.keep (by repeat' (first | exact Below.refl _ _ | refine balloc ?_ _))).keep hb19)
  replace acc := bnext (w := w) (by repeat' (first | exact acc | refine balloc ?_ _)) hb19
  have N1 := Lib.hid (Own.lst h19)
  clear h19 hb19
  go_wp2_with fail
  refine (rless_any _ _ A B _ (RA.out.keep (by repeat' (first | exact Below.refl _ _ | refine balloc ?_ _))).row (RB.out.keep (by repeat' (first | exact Below.refl _ _ | refine balloc ?_ _))).row (by have := IA.1; omega) (by have := IB.1; omega)).mono ?_
  rintro e w20 ⟨u20, rfl, h20, hb20⟩
  obtain ⟨p20, q20, rfl, _, _⟩ := h20.out
  replace RA := Lib.hid ((RA.out.keep (by repeat' (first | exact Below.refl _ _ | refine balloc ?_ _))).keep hb20)
  replace RB := Lib.hid ((RB.out.keep (by repeat' (first | exact Below.refl _ _ | refine balloc ?_ _))).keep hb20)
  replace N1 := Lib.hid ((N1.out.keep (by repeat' (first | exact Below.refl _ _ | refine balloc ?_ _))).keep hb20)
  replace acc := bnext (w := w) (by repeat' (first | exact acc | refine balloc ?_ _)) hb20
  have N2 := Lib.hid (h20)
  clear h20 hb20
  go_wp2_with fail
  refine (same_t _ _ (SP.less A B) (SP.less A B) _ (N1.out.keep (by repeat' (first | exact Below.refl _ _ | refine balloc ?_ _))).row (N2.out.keep (by repeat' (first | exact Below.refl _ _ | refine balloc ?_ _))).row rfl (by have := SP.less_len A B; have := IA.1; have := IB.1; omega)).mono ?_
  rintro e w21 ⟨rfl, hb21⟩
  replace RA := Lib.hid ((RA.out.keep (by repeat' (first | exact Below.refl _ _ | refine balloc ?_ _))).keep hb21)
  replace RB := Lib.hid ((RB.out.keep (by repeat' (first | exact Below.refl _ _ | refine balloc ?_ _))).keep hb21)
  replace N1 := Lib.hid ((N1.out.keep (by repeat' (first | exact Below.refl _ _ | refine balloc ?_ _))).keep hb21)
  replace N2 := Lib.hid ((N2.out.keep (by repeat' (first | exact Below.refl _ _ | refine balloc ?_ _))).keep hb21)
  replace acc := bnext (w := w) (by repeat' (first | exact acc | refine balloc ?_ _)) hb21
  clear hb21
  clear N1 N2
  go_wp2_with fail
  refine (overlap_any _ _ A B _ (RA.out.keep (by repeat' (first | exact Below.refl _ _ | refine balloc ?_ _))).row (RB.out.keep (by repeat' (first | exact Below.refl _ _ | refine balloc ?_ _))).row (IA.r (by decide)) (IB.r (by decide))).mono ?_
  rintro e w22 ⟨rfl, hb22⟩
  replace RA := Lib.hid ((RA.out.keep (by repeat' (first | exact Below.refl _ _ | refine balloc ?_ _))).keep hb22)
  replace RB := Lib.hid ((RB.out.keep (by repeat' (first | exact Below.refl _ _ | refine balloc ?_ _))).keep hb22)
  replace acc := bnext (w := w) (by repeat' (first | exact acc | refine balloc ?_ _)) hb22
  clear hb22
  go_wp2_with fail
  refine (roverlap_any _ _ A B _ (RA.out.keep (by repeat' (first | exact Below.refl _ _ | refine balloc ?_ _))).row (RB.out.keep (by repeat' (first | exact Below.refl _ _ | refine balloc ?_ _))).row (by have := IA.1; omega) (by have := IB.1; omega)).mono ?_
  rintro e w23 ⟨rfl, hb23⟩
  replace RA := Lib.hid ((RA.out.keep (by repeat' (first | exact Below.refl _ _ | refine balloc ?_ _))).keep hb23)
  replace RB := Lib.hid ((RB.out.keep (by repeat' (first | exact Below.refl _ _ | refine balloc ?_ _))).keep hb23)
  replace acc := bnext (w := w) (by repeat' (first | exact acc | refine balloc ?_ _)) hb23
  clear hb23
  go_wp2_with fail
  go_ret
  exact ⟨rfl, (by repeat' (first | exact acc | refine balloc ?_ _))⟩

set_option maxRecDepth 100000 in
theorem lifted (os : Os) (started : os.Started) (H : Type) (enc : TypeId × Value → H) :
    ReturnsInHanded {} Try.checked os 3 .any (Rows.setsMatchSpec.pre6 enc Try.prog Try.f3 Rows.setsMatchRow.domain false) (Rows.setsMatchSpec.post enc Try.prog Try.f3 false true false false) := by
  refine returnsInHanded_of_change (C := Try.checked) own started (by kernel_rfl) Try.func3
    (ChangeSpec.witness6 (enc := enc) (C := Try.checked) false ⟨#[], #[.slice none 0 0, .slice none 0 0, .int .i64 0], []⟩ 8 (by kernel_rfl) (by kernel_rfl) (by kernel_rfl) (by kernel_rfl)) ?_
  intro W base args ds gs before hval0 hW hcnd _
  have hval : ∀ (j : Nat) t v, Try.f3.params[j]? = some t → args[j]? = some v → Value.okWide Try.prog W .any base t v := hval0
  have hW' := hW
  obtain ⟨p, q, hA0, hV, rfl, hfz, hnd⟩ := hW
  have hA : DataW.TrodAll enc Try.prog W 0 (fun _ => true) true Try.f3.params.toList args.toList ds p := hA0
  rw [Try.params3] at hA hval
  obtain ⟨v0, vs0, d0, ds0, p0, q0, hargs, rfl, rfl, h0, r0⟩ := trodAll_cons hA
  obtain ⟨v1, vs1, d1, ds1, p1, q1, rfl, rfl, rfl, h1, r1⟩ := trodAll_cons r0
  obtain ⟨v2, vs2, d2, ds2, p2, q2, rfl, rfl, rfl, h2, r2⟩ := trodAll_cons r1
  obtain ⟨rfl, rfl, rfl⟩ := trodAll_nil r2
  obtain rfl : args = #[v0, v1, v2] := by cases args; simp_all
  obtain ⟨rfl, rfl⟩ := trodVars_none hV
  have k0 := h0
  have lt0 : ∀ x ∈ p0, x.block < W.heap.size := by obtain ⟨m, hm⟩ := k0; exact DataW.trod_lt m _ _ _ hm
  have k1 := h1
  have lt1 : ∀ x ∈ p1, x.block < W.heap.size := by obtain ⟨m, hm⟩ := k1; exact DataW.trod_lt m _ _ _ hm
  have k2 := h2
  have lt2 : ∀ x ∈ p2, x.block < W.heap.size := by obtain ⟨m, hm⟩ := k2; exact DataW.trod_lt m _ _ _ hm
  obtain ⟨a0, H0, L0, E0⟩ := open_ls (hval 0 22 v0 rfl rfl) h0
  obtain ⟨a1, H1, L1, E1⟩ := open_ls (hval 1 22 v1 rfl rfl) h1
  obtain ⟨a2, rfl, rfl, rfl, wa2⟩ := open_int Try.underlying3 (hval 2 3 v2 rfl rfl) h2
  clear hA0 hval0
  refine (walk v0 a0 v1 a1 a2 wa2 W H0 L0 E0 H1 L1 E1).mono fun e W' ⟨he, bel⟩ => ?_
  subst he
  exact ⟨_, rfl, _, _, _, [], _, [], hW', trodAll_mk1 (shut_bool Try.underlying4 _), (trodAll_cons_mk (Below.trod laidOut (by kernel_rfl) (of_decide_eq_true (by kernel_rfl)) k0 bel lt0) (trodAll_cons_mk (Below.trod laidOut (by kernel_rfl) (of_decide_eq_true (by kernel_rfl)) k1 bel lt1) (trodAll_cons_mk (Below.trod laidOut (by kernel_rfl) (of_decide_eq_true (by kernel_rfl)) k2 bel lt2) trodAll_mk0))), rfl, bel.frame _, fun h => by cases h⟩

theorem over : Rows.setsMatchRow.holds Try.pinned (OpenSpec.ofChange Rows.setsMatchSpec) :=
  OpenClaim.holds_of_wide 3 Try.f3 rfl rfl rfl rfl rfl rfl rfl ⟨rfl, rfl, rfl, rfl, rfl⟩ rfl rfl rfl rfl rfl (by kernel_rfl) Try.func3 (by kernel_rfl)
    (of_decide_eq_true (by kernel_rfl)) (by unfold Func.isWrapper; first | (rw [if_pos (by decide +kernel)]; kernel_rfl) | (rw [if_neg (by decide +kernel)]; exact ⟨rfl, rfl⟩))
    (fun os started H enc _ => lifted os started H enc)

end Go.Proofs.Ytamhhbgakaokgaa.setsMatch
namespace Go.Proofs.Ytamhhbgakaokgaa
theorem setsMatch_proved : Rows.SetsMatchSaid := setsMatch.over
#print axioms setsMatch_proved
end Go.Proofs.Ytamhhbgakaokgaa
