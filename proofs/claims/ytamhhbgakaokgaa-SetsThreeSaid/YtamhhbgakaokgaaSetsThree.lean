/- For every three lists SetsThree returns true: they can be joined and met in any order. No conditions. -/
import Derived.Test.YtamhhbgakaokgaaSetSane
namespace Go.Proofs.Ytamhhbgakaokgaa.setsThree
open Go.ChangeShapes Go.WideShapes Go.ChangeAt Go.RowKit Go.Joins Go.Deep Go.Maps
set_option linter.unusedVariables false

set_option maxRecDepth 100000 in
set_option maxHeartbeats 8000000 in
theorem walk (v0 : Value) (a0 : List Int) (v1 : Value) (a1 : List Int) (v2 : Value) (a2 : List Int)  (w : World) (H0 : Src w v0 (a0.map (Value.int .i64))) (L0 : a0.length ≤ maxLen ∧ ∀ a n c, v0 = .slice a n c → n ≤ c) (E0 : ∀ x, x ∈ a0 → (Lit.int .i64 x).wf = true) (H1 : Src w v1 (a1.map (Value.int .i64))) (L1 : a1.length ≤ maxLen ∧ ∀ a n c, v1 = .slice a n c → n ≤ c) (E1 : ∀ x, x ∈ a1 → (Lit.int .i64 x).wf = true) (H2 : Src w v2 (a2.map (Value.int .i64))) (L2 : a2.length ≤ maxLen ∧ ∀ a n c, v2 = .slice a n c → n ≤ c) (E2 : ∀ x, x ∈ a2 → (Lit.int .i64 x).wf = true) :
    Calls Try.prog 7 #[v0, v1, v2] w fun e w' => e = .returned (.bool true) ∧ Below w.heap.size w w' := by
  obtain ⟨A, hEA⟩ : ∃ A, a0.take 40 = A := ⟨_, rfl⟩
  have IA : InN 40 A := hEA ▸ InN.take E0
  have HFA := Lib.hid hEA
  clear hEA
  obtain ⟨y0, z0, rfl, _⟩ := H0.out
  rw [iv_len] at H0 ⊢
  have S0 := Lib.hid H0
  have hl0 := L0.1
  have hc0 := Lib.hid L0.2
  rw [iv_len] at hc0
  clear H0 L0 E0
  obtain ⟨B, hEB⟩ : ∃ B, a1.take 40 = B := ⟨_, rfl⟩
  have IB : InN 40 B := hEB ▸ InN.take E1
  have HFB := Lib.hid hEB
  clear hEB
  obtain ⟨y1, z1, rfl, _⟩ := H1.out
  rw [iv_len] at H1 ⊢
  have S1 := Lib.hid H1
  have hl1 := L1.1
  have hc1 := Lib.hid L1.2
  rw [iv_len] at hc1
  clear H1 L1 E1
  obtain ⟨C, hEC⟩ : ∃ C, a2.take 40 = C := ⟨_, rfl⟩
  have IC : InN 40 C := hEC ▸ InN.take E2
  have HFC := Lib.hid hEC
  clear hEC
  obtain ⟨y2, z2, rfl, _⟩ := H2.out
  rw [iv_len] at H2 ⊢
  have S2 := Lib.hid H2
  have hl2 := L2.1
  have hc2 := Lib.hid L2.2
  rw [iv_len] at hc2
  clear H2 L2 E2
  have acc : Below w.heap.size w w := Below.refl _ _
  go_enter Try.func7, Try.ntmps7
  go_wp2_with fail
  refine (sanity_any _).mono ?_
  rintro e w1 ⟨rfl, hb1⟩
  replace acc := bnext (w := w) (by repeat' (first | exact acc | refine balloc ?_ _)) hb1
  clear hb1
  go_wp2_with fail
  refine (few_t _ a0 A _ (S0.out.keep (by repeat' (first | exact acc | refine balloc ?_ _))) hl0 hc0.out HFA.out).mono ?_
  rintro e w2 ⟨u2, rfl, h2, hb2⟩
  obtain ⟨p2, q2, rfl⟩ := own_shape h2
  replace acc := bnext (w := w) (by repeat' (first | exact acc | refine balloc ?_ _)) hb2
  have RA := Lib.hid (Own.lst h2)
  clear h2 hb2
  go_wp2_with fail
  refine (few_t _ a1 B _ (S1.out.keep (by repeat' (first | exact acc | refine balloc ?_ _))) hl1 hc1.out HFB.out).mono ?_
  rintro e w3 ⟨u3, rfl, h3, hb3⟩
  obtain ⟨p3, q3, rfl⟩ := own_shape h3
  replace RA := Lib.hid ((RA.out.keep (by repeat' (first | exact Below.refl _ _ | refine balloc ?_ _))).keep hb3)
  replace acc := bnext (w := w) (by repeat' (first | exact acc | refine balloc ?_ _)) hb3
  have RB := Lib.hid (Own.lst h3)
  clear h3 hb3
  go_wp2_with fail
  refine (few_t _ a2 C _ (S2.out.keep (by repeat' (first | exact acc | refine balloc ?_ _))) hl2 hc2.out HFC.out).mono ?_
  rintro e w4 ⟨u4, rfl, h4, hb4⟩
  obtain ⟨p4, q4, rfl⟩ := own_shape h4
  replace RA := Lib.hid ((RA.out.keep (by repeat' (first | exact Below.refl _ _ | refine balloc ?_ _))).keep hb4)
  replace RB := Lib.hid ((RB.out.keep (by repeat' (first | exact Below.refl _ _ | refine balloc ?_ _))).keep hb4)
  replace acc := bnext (w := w) (by repeat' (first | exact acc | refine balloc ?_ _)) hb4
  have RC := Lib.hid (Own.lst h4)
  clear h4 hb4
  go_wp2_with fail
  refine (join_any _ _ A B _ (RA.out.keep (by repeat' (first | exact Below.refl _ _ | refine balloc ?_ _))).row (RB.out.keep (by repeat' (first | exact Below.refl _ _ | refine balloc ?_ _))).row (IA.r (by decide)) (IB.r (by decide))).mono ?_
  rintro e w5 ⟨u5, rfl, h5, hb5⟩
  obtain ⟨p5, q5, rfl⟩ := own_shape h5
  replace RA := Lib.hid ((RA.out.keep (by repeat' (first | exact Below.refl _ _ | refine balloc ?_ _))).keep hb5)
  replace RB := Lib.hid ((RB.out.keep (by repeat' (first | exact Below.refl _ _ | refine balloc ?_ _))).keep hb5)
  replace RC := Lib.hid ((RC.out.keep (by repeat' (first | exact Below.refl _ _ | refine balloc ?_ _))).keep hb5)
  replace acc := bnext (w := w) (by repeat' (first | exact acc | refine balloc ?_ _)) hb5
  have N1 := Lib.hid (Own.lst h5)
  clear h5 hb5
  go_wp2_with fail
  refine (join_any _ _ (SP.join A B) C _ (N1.out.keep (by repeat' (first | exact Below.refl _ _ | refine balloc ?_ _))).row (RC.out.keep (by repeat' (first | exact Below.refl _ _ | refine balloc ?_ _))).row ((InN.join IA IB).r (by decide)) (IC.r (by decide))).mono ?_
  rintro e w6 ⟨u6, rfl, h6, hb6⟩
  obtain ⟨p6, q6, rfl⟩ := own_shape h6
  replace RA := Lib.hid ((RA.out.keep (by repeat' (first | exact Below.refl _ _ | refine balloc ?_ _))).keep hb6)
  replace RB := Lib.hid ((RB.out.keep (by repeat' (first | exact Below.refl _ _ | refine balloc ?_ _))).keep hb6)
  replace RC := Lib.hid ((RC.out.keep (by repeat' (first | exact Below.refl _ _ | refine balloc ?_ _))).keep hb6)
  replace N1 := Lib.hid ((N1.out.keep (by repeat' (first | exact Below.refl _ _ | refine balloc ?_ _))).keep hb6)
  replace acc := bnext (w := w) (by repeat' (first | exact acc | refine balloc ?_ _)) hb6
  have N2 := Lib.hid (Own.lst h6)
  clear h6 hb6
  clear N1
  go_wp2_with fail
  refine (join_any _ _ B C _ (RB.out.keep (by repeat' (first | exact Below.refl _ _ | refine balloc ?_ _))).row (RC.out.keep (by repeat' (first | exact Below.refl _ _ | refine balloc ?_ _))).row (IB.r (by decide)) (IC.r (by decide))).mono ?_
  rintro e w7 ⟨u7, rfl, h7, hb7⟩
  obtain ⟨p7, q7, rfl⟩ := own_shape h7
  replace RA := Lib.hid ((RA.out.keep (by repeat' (first | exact Below.refl _ _ | refine balloc ?_ _))).keep hb7)
  replace RB := Lib.hid ((RB.out.keep (by repeat' (first | exact Below.refl _ _ | refine balloc ?_ _))).keep hb7)
  replace RC := Lib.hid ((RC.out.keep (by repeat' (first | exact Below.refl _ _ | refine balloc ?_ _))).keep hb7)
  replace N2 := Lib.hid ((N2.out.keep (by repeat' (first | exact Below.refl _ _ | refine balloc ?_ _))).keep hb7)
  replace acc := bnext (w := w) (by repeat' (first | exact acc | refine balloc ?_ _)) hb7
  have N3 := Lib.hid (Own.lst h7)
  clear h7 hb7
  go_wp2_with fail
  refine (join_any _ _ A (SP.join B C) _ (RA.out.keep (by repeat' (first | exact Below.refl _ _ | refine balloc ?_ _))).row (N3.out.keep (by repeat' (first | exact Below.refl _ _ | refine balloc ?_ _))).row (IA.r (by decide)) ((InN.join IB IC).r (by decide))).mono ?_
  rintro e w8 ⟨u8, rfl, h8, hb8⟩
  obtain ⟨p8, q8, rfl⟩ := own_shape h8
  replace RA := Lib.hid ((RA.out.keep (by repeat' (first | exact Below.refl _ _ | refine balloc ?_ _))).keep hb8)
  replace RB := Lib.hid ((RB.out.keep (by repeat' (first | exact Below.refl _ _ | refine balloc ?_ _))).keep hb8)
  replace RC := Lib.hid ((RC.out.keep (by repeat' (first | exact Below.refl _ _ | refine balloc ?_ _))).keep hb8)
  replace N2 := Lib.hid ((N2.out.keep (by repeat' (first | exact Below.refl _ _ | refine balloc ?_ _))).keep hb8)
  replace N3 := Lib.hid ((N3.out.keep (by repeat' (first | exact Below.refl _ _ | refine balloc ?_ _))).keep hb8)
  replace acc := bnext (w := w) (by repeat' (first | exact acc | refine balloc ?_ _)) hb8
  have N4 := Lib.hid (Own.lst h8)
  clear h8 hb8
  clear N3
  go_wp2_with fail
  refine (same_t _ _ (SP.join (SP.join A B) C) (SP.join A (SP.join B C)) _ (N2.out.keep (by repeat' (first | exact Below.refl _ _ | refine balloc ?_ _))).row (N4.out.keep (by repeat' (first | exact Below.refl _ _ | refine balloc ?_ _))).row (SP.rises_ext (SP.rises_norm _) (SP.rises_norm _) (fun x => by by_cases h1 : x ∈ A <;> by_cases h2 : x ∈ B <;> by_cases h3 : x ∈ C <;> simp [SP.mem_join, SP.mem_meet, SP.mem_less, SP.mem_norm, h1, h2, h3])) (Nat.le_trans (InN.join (InN.join IA IB) IC).1 (by decide))).mono ?_
  rintro e w9 ⟨rfl, hb9⟩
  replace RA := Lib.hid ((RA.out.keep (by repeat' (first | exact Below.refl _ _ | refine balloc ?_ _))).keep hb9)
  replace RB := Lib.hid ((RB.out.keep (by repeat' (first | exact Below.refl _ _ | refine balloc ?_ _))).keep hb9)
  replace RC := Lib.hid ((RC.out.keep (by repeat' (first | exact Below.refl _ _ | refine balloc ?_ _))).keep hb9)
  replace N2 := Lib.hid ((N2.out.keep (by repeat' (first | exact Below.refl _ _ | refine balloc ?_ _))).keep hb9)
  replace N4 := Lib.hid ((N4.out.keep (by repeat' (first | exact Below.refl _ _ | refine balloc ?_ _))).keep hb9)
  replace acc := bnext (w := w) (by repeat' (first | exact acc | refine balloc ?_ _)) hb9
  clear hb9
  clear N2
  clear N4
  go_wp2_with fail
  refine (meet_any _ _ A B _ (RA.out.keep (by repeat' (first | exact Below.refl _ _ | refine balloc ?_ _))).row (RB.out.keep (by repeat' (first | exact Below.refl _ _ | refine balloc ?_ _))).row (IA.r (by decide)) (IB.r (by decide))).mono ?_
  rintro e w10 ⟨u10, rfl, h10, hb10⟩
  obtain ⟨p10, q10, rfl⟩ := own_shape h10
  replace RA := Lib.hid ((RA.out.keep (by repeat' (first | exact Below.refl _ _ | refine balloc ?_ _))).keep hb10)
  replace RB := Lib.hid ((RB.out.keep (by repeat' (first | exact Below.refl _ _ | refine balloc ?_ _))).keep hb10)
  replace RC := Lib.hid ((RC.out.keep (by repeat' (first | exact Below.refl _ _ | refine balloc ?_ _))).keep hb10)
  replace acc := bnext (w := w) (by repeat' (first | exact acc | refine balloc ?_ _)) hb10
  have N5 := Lib.hid (Own.lst h10)
  clear h10 hb10
  go_wp2_with fail
  refine (meet_any _ _ (SP.meet A B) C _ (N5.out.keep (by repeat' (first | exact Below.refl _ _ | refine balloc ?_ _))).row (RC.out.keep (by repeat' (first | exact Below.refl _ _ | refine balloc ?_ _))).row ((InN.meet IA).r (by decide)) (IC.r (by decide))).mono ?_
  rintro e w11 ⟨u11, rfl, h11, hb11⟩
  obtain ⟨p11, q11, rfl⟩ := own_shape h11
  replace RA := Lib.hid ((RA.out.keep (by repeat' (first | exact Below.refl _ _ | refine balloc ?_ _))).keep hb11)
  replace RB := Lib.hid ((RB.out.keep (by repeat' (first | exact Below.refl _ _ | refine balloc ?_ _))).keep hb11)
  replace RC := Lib.hid ((RC.out.keep (by repeat' (first | exact Below.refl _ _ | refine balloc ?_ _))).keep hb11)
  replace N5 := Lib.hid ((N5.out.keep (by repeat' (first | exact Below.refl _ _ | refine balloc ?_ _))).keep hb11)
  replace acc := bnext (w := w) (by repeat' (first | exact acc | refine balloc ?_ _)) hb11
  have N6 := Lib.hid (Own.lst h11)
  clear h11 hb11
  clear N5
  go_wp2_with fail
  refine (meet_any _ _ B C _ (RB.out.keep (by repeat' (first | exact Below.refl _ _ | refine balloc ?_ _))).row (RC.out.keep (by repeat' (first | exact Below.refl _ _ | refine balloc ?_ _))).row (IB.r (by decide)) (IC.r (by decide))).mono ?_
  rintro e w12 ⟨u12, rfl, h12, hb12⟩
  obtain ⟨p12, q12, rfl⟩ := own_shape h12
  replace RA := Lib.hid ((RA.out.keep (by repeat' (first | exact Below.refl _ _ | refine balloc ?_ _))).keep hb12)
  replace RB := Lib.hid ((RB.out.keep (by repeat' (first | exact Below.refl _ _ | refine balloc ?_ _))).keep hb12)
  replace RC := Lib.hid ((RC.out.keep (by repeat' (first | exact Below.refl _ _ | refine balloc ?_ _))).keep hb12)
  replace N6 := Lib.hid ((N6.out.keep (by repeat' (first | exact Below.refl _ _ | refine balloc ?_ _))).keep hb12)
  replace acc := bnext (w := w) (by repeat' (first | exact acc | refine balloc ?_ _)) hb12
  have N7 := Lib.hid (Own.lst h12)
  clear h12 hb12
  go_wp2_with fail
  refine (meet_any _ _ A (SP.meet B C) _ (RA.out.keep (by repeat' (first | exact Below.refl _ _ | refine balloc ?_ _))).row (N7.out.keep (by repeat' (first | exact Below.refl _ _ | refine balloc ?_ _))).row (IA.r (by decide)) ((InN.meet IB).r (by decide))).mono ?_
  rintro e w13 ⟨u13, rfl, h13, hb13⟩
  obtain ⟨p13, q13, rfl⟩ := own_shape h13
  replace RA := Lib.hid ((RA.out.keep (by repeat' (first | exact Below.refl _ _ | refine balloc ?_ _))).keep hb13)
  replace RB := Lib.hid ((RB.out.keep (by repeat' (first | exact Below.refl _ _ | refine balloc ?_ _))).keep hb13)
  replace RC := Lib.hid ((RC.out.keep (by repeat' (first | exact Below.refl _ _ | refine balloc ?_ _))).keep hb13)
  replace N6 := Lib.hid ((N6.out.keep (by repeat' (first | exact Below.refl _ _ | refine balloc ?_ _))).keep hb13)
  replace N7 := Lib.hid ((N7.out.keep (by repeat' (first | exact Below.refl _ _ | refine balloc ?_ _))).keep hb13)
  replace acc := bnext (w := w) (by repeat' (first | exact acc | refine balloc ?_ _)) hb13
  have N8 := Lib.hid (Own.lst h13)
  clear h13 hb13
  clear N7
  go_wp2_with fail
  refine (same_t _ _ (SP.meet (SP.meet A B) C) (SP.meet A (SP.meet B C)) _ (N6.out.keep (by repeat' (first | exact Below.refl _ _ | refine balloc ?_ _))).row (N8.out.keep (by repeat' (first | exact Below.refl _ _ | refine balloc ?_ _))).row (SP.rises_ext (SP.rises_norm _) (SP.rises_norm _) (fun x => by by_cases h1 : x ∈ A <;> by_cases h2 : x ∈ B <;> by_cases h3 : x ∈ C <;> simp [SP.mem_join, SP.mem_meet, SP.mem_less, SP.mem_norm, h1, h2, h3])) (Nat.le_trans (InN.meet (InN.meet IA)).1 (by decide))).mono ?_
  rintro e w14 ⟨rfl, hb14⟩
  replace RA := Lib.hid ((RA.out.keep (by repeat' (first | exact Below.refl _ _ | refine balloc ?_ _))).keep hb14)
  replace RB := Lib.hid ((RB.out.keep (by repeat' (first | exact Below.refl _ _ | refine balloc ?_ _))).keep hb14)
  replace RC := Lib.hid ((RC.out.keep (by repeat' (first | exact Below.refl _ _ | refine balloc ?_ _))).keep hb14)
  replace N6 := Lib.hid ((N6.out.keep (by repeat' (first | exact Below.refl _ _ | refine balloc ?_ _))).keep hb14)
  replace N8 := Lib.hid ((N8.out.keep (by repeat' (first | exact Below.refl _ _ | refine balloc ?_ _))).keep hb14)
  replace acc := bnext (w := w) (by repeat' (first | exact acc | refine balloc ?_ _)) hb14
  clear hb14
  clear N6
  clear N8
  go_wp2_with fail
  refine (join_any _ _ B C _ (RB.out.keep (by repeat' (first | exact Below.refl _ _ | refine balloc ?_ _))).row (RC.out.keep (by repeat' (first | exact Below.refl _ _ | refine balloc ?_ _))).row (IB.r (by decide)) (IC.r (by decide))).mono ?_
  rintro e w15 ⟨u15, rfl, h15, hb15⟩
  obtain ⟨p15, q15, rfl⟩ := own_shape h15
  replace RA := Lib.hid ((RA.out.keep (by repeat' (first | exact Below.refl _ _ | refine balloc ?_ _))).keep hb15)
  replace RB := Lib.hid ((RB.out.keep (by repeat' (first | exact Below.refl _ _ | refine balloc ?_ _))).keep hb15)
  replace RC := Lib.hid ((RC.out.keep (by repeat' (first | exact Below.refl _ _ | refine balloc ?_ _))).keep hb15)
  replace acc := bnext (w := w) (by repeat' (first | exact acc | refine balloc ?_ _)) hb15
  have N9 := Lib.hid (Own.lst h15)
  clear h15 hb15
  go_wp2_with fail
  refine (less_any _ _ A (SP.join B C) _ (RA.out.keep (by repeat' (first | exact Below.refl _ _ | refine balloc ?_ _))).row (N9.out.keep (by repeat' (first | exact Below.refl _ _ | refine balloc ?_ _))).row (IA.r (by decide)) ((InN.join IB IC).r (by decide))).mono ?_
  rintro e w16 ⟨u16, rfl, h16, hb16⟩
  obtain ⟨p16, q16, rfl⟩ := own_shape h16
  replace RA := Lib.hid ((RA.out.keep (by repeat' (first | exact Below.refl _ _ | refine balloc ?_ _))).keep hb16)
  replace RB := Lib.hid ((RB.out.keep (by repeat' (first | exact Below.refl _ _ | refine balloc ?_ _))).keep hb16)
  replace RC := Lib.hid ((RC.out.keep (by repeat' (first | exact Below.refl _ _ | refine balloc ?_ _))).keep hb16)
  replace N9 := Lib.hid ((N9.out.keep (by repeat' (first | exact Below.refl _ _ | refine balloc ?_ _))).keep hb16)
  replace acc := bnext (w := w) (by repeat' (first | exact acc | refine balloc ?_ _)) hb16
  have N10 := Lib.hid (Own.lst h16)
  clear h16 hb16
  clear N9
  go_wp2_with fail
  refine (less_any _ _ A B _ (RA.out.keep (by repeat' (first | exact Below.refl _ _ | refine balloc ?_ _))).row (RB.out.keep (by repeat' (first | exact Below.refl _ _ | refine balloc ?_ _))).row (IA.r (by decide)) (IB.r (by decide))).mono ?_
  rintro e w17 ⟨u17, rfl, h17, hb17⟩
  obtain ⟨p17, q17, rfl⟩ := own_shape h17
  replace RA := Lib.hid ((RA.out.keep (by repeat' (first | exact Below.refl _ _ | refine balloc ?_ _))).keep hb17)
  replace RB := Lib.hid ((RB.out.keep (by repeat' (first | exact Below.refl _ _ | refine balloc ?_ _))).keep hb17)
  replace RC := Lib.hid ((RC.out.keep (by repeat' (first | exact Below.refl _ _ | refine balloc ?_ _))).keep hb17)
  replace N10 := Lib.hid ((N10.out.keep (by repeat' (first | exact Below.refl _ _ | refine balloc ?_ _))).keep hb17)
  replace acc := bnext (w := w) (by repeat' (first | exact acc | refine balloc ?_ _)) hb17
  have N11 := Lib.hid (Own.lst h17)
  clear h17 hb17
  go_wp2_with fail
  refine (less_any _ _ A C _ (RA.out.keep (by repeat' (first | exact Below.refl _ _ | refine balloc ?_ _))).row (RC.out.keep (by repeat' (first | exact Below.refl _ _ | refine balloc ?_ _))).row (IA.r (by decide)) (IC.r (by decide))).mono ?_
  rintro e w18 ⟨u18, rfl, h18, hb18⟩
  obtain ⟨p18, q18, rfl⟩ := own_shape h18
  replace RA := Lib.hid ((RA.out.keep (by repeat' (first | exact Below.refl _ _ | refine balloc ?_ _))).keep hb18)
  replace RB := Lib.hid ((RB.out.keep (by repeat' (first | exact Below.refl _ _ | refine balloc ?_ _))).keep hb18)
  replace RC := Lib.hid ((RC.out.keep (by repeat' (first | exact Below.refl _ _ | refine balloc ?_ _))).keep hb18)
  replace N10 := Lib.hid ((N10.out.keep (by repeat' (first | exact Below.refl _ _ | refine balloc ?_ _))).keep hb18)
  replace N11 := Lib.hid ((N11.out.keep (by repeat' (first | exact Below.refl _ _ | refine balloc ?_ _))).keep hb18)
  replace acc := bnext (w := w) (by repeat' (first | exact acc | refine balloc ?_ _)) hb18
  have N12 := Lib.hid (Own.lst h18)
  clear h18 hb18
  go_wp2_with fail
  refine (meet_any _ _ (SP.less A B) (SP.less A C) _ (N11.out.keep (by repeat' (first | exact Below.refl _ _ | refine balloc ?_ _))).row (N12.out.keep (by repeat' (first | exact Below.refl _ _ | refine balloc ?_ _))).row ((InN.less IA).r (by decide)) ((InN.less IA).r (by decide))).mono ?_
  rintro e w19 ⟨u19, rfl, h19, hb19⟩
  obtain ⟨p19, q19, rfl⟩ := own_shape h19
  replace RA := Lib.hid ((RA.out.keep (by repeat' (first | exact Below.refl _ _ | refine balloc ?_ _))).keep hb19)
  replace RB := Lib.hid ((RB.out.keep (by repeat' (first | exact Below.refl _ _ | refine balloc ?_ _))).keep hb19)
  replace RC := Lib.hid ((RC.out.keep (by repeat' (first | exact Below.refl _ _ | refine balloc ?_ _))).keep hb19)
  replace N10 := Lib.hid ((N10.out.keep (by repeat' (first | exact Below.refl _ _ | refine balloc ?_ _))).keep hb19)
  replace N11 := Lib.hid ((N11.out.keep (by repeat' (first | exact Below.refl _ _ | refine balloc ?_ _))).keep hb19)
  replace N12 := Lib.hid ((N12.out.keep (by repeat' (first | exact Below.refl _ _ | refine balloc ?_ _))).keep hb19)
  replace acc := bnext (w := w) (by repeat' (first | exact acc | refine balloc ?_ _)) hb19
  have N13 := Lib.hid (Own.lst h19)
  clear h19 hb19
  clear N11
  clear N12
  go_wp2_with fail
  refine (same_t _ _ (SP.less A (SP.join B C)) (SP.meet (SP.less A B) (SP.less A C)) _ (N10.out.keep (by repeat' (first | exact Below.refl _ _ | refine balloc ?_ _))).row (N13.out.keep (by repeat' (first | exact Below.refl _ _ | refine balloc ?_ _))).row (SP.rises_ext (SP.rises_norm _) (SP.rises_norm _) (fun x => by by_cases h1 : x ∈ A <;> by_cases h2 : x ∈ B <;> by_cases h3 : x ∈ C <;> simp [SP.mem_join, SP.mem_meet, SP.mem_less, SP.mem_norm, h1, h2, h3])) (Nat.le_trans (InN.less IA).1 (by decide))).mono ?_
  rintro e w20 ⟨rfl, hb20⟩
  replace RA := Lib.hid ((RA.out.keep (by repeat' (first | exact Below.refl _ _ | refine balloc ?_ _))).keep hb20)
  replace RB := Lib.hid ((RB.out.keep (by repeat' (first | exact Below.refl _ _ | refine balloc ?_ _))).keep hb20)
  replace RC := Lib.hid ((RC.out.keep (by repeat' (first | exact Below.refl _ _ | refine balloc ?_ _))).keep hb20)
  replace N10 := Lib.hid ((N10.out.keep (by repeat' (first | exact Below.refl _ _ | refine balloc ?_ _))).keep hb20)
  replace N13 := Lib.hid ((N13.out.keep (by repeat' (first | exact Below.refl _ _ | refine balloc ?_ _))).keep hb20)
  replace acc := bnext (w := w) (by repeat' (first | exact acc | refine balloc ?_ _)) hb20
  clear hb20
  clear N10
  clear N13
  go_wp2_with fail
  refine (less_any _ _ A B _ (RA.out.keep (by repeat' (first | exact Below.refl _ _ | refine balloc ?_ _))).row (RB.out.keep (by repeat' (first | exact Below.refl _ _ | refine balloc ?_ _))).row (IA.r (by decide)) (IB.r (by decide))).mono ?_
  rintro e w21 ⟨u21, rfl, h21, hb21⟩
  obtain ⟨p21, q21, rfl⟩ := own_shape h21
  replace RA := Lib.hid ((RA.out.keep (by repeat' (first | exact Below.refl _ _ | refine balloc ?_ _))).keep hb21)
  replace RB := Lib.hid ((RB.out.keep (by repeat' (first | exact Below.refl _ _ | refine balloc ?_ _))).keep hb21)
  replace RC := Lib.hid ((RC.out.keep (by repeat' (first | exact Below.refl _ _ | refine balloc ?_ _))).keep hb21)
  replace acc := bnext (w := w) (by repeat' (first | exact acc | refine balloc ?_ _)) hb21
  have N14 := Lib.hid (Own.lst h21)
  clear h21 hb21
  go_wp2_with fail
  refine (less_any _ _ (SP.less A B) C _ (N14.out.keep (by repeat' (first | exact Below.refl _ _ | refine balloc ?_ _))).row (RC.out.keep (by repeat' (first | exact Below.refl _ _ | refine balloc ?_ _))).row ((InN.less IA).r (by decide)) (IC.r (by decide))).mono ?_
  rintro e w22 ⟨u22, rfl, h22, hb22⟩
  obtain ⟨p22, q22, rfl⟩ := own_shape h22
  replace RA := Lib.hid ((RA.out.keep (by repeat' (first | exact Below.refl _ _ | refine balloc ?_ _))).keep hb22)
  replace RB := Lib.hid ((RB.out.keep (by repeat' (first | exact Below.refl _ _ | refine balloc ?_ _))).keep hb22)
  replace RC := Lib.hid ((RC.out.keep (by repeat' (first | exact Below.refl _ _ | refine balloc ?_ _))).keep hb22)
  replace N14 := Lib.hid ((N14.out.keep (by repeat' (first | exact Below.refl _ _ | refine balloc ?_ _))).keep hb22)
  replace acc := bnext (w := w) (by repeat' (first | exact acc | refine balloc ?_ _)) hb22
  have N15 := Lib.hid (Own.lst h22)
  clear h22 hb22
  clear N14
  go_wp2_with fail
  refine (join_any _ _ C B _ (RC.out.keep (by repeat' (first | exact Below.refl _ _ | refine balloc ?_ _))).row (RB.out.keep (by repeat' (first | exact Below.refl _ _ | refine balloc ?_ _))).row (IC.r (by decide)) (IB.r (by decide))).mono ?_
  rintro e w23 ⟨u23, rfl, h23, hb23⟩
  obtain ⟨p23, q23, rfl⟩ := own_shape h23
  replace RA := Lib.hid ((RA.out.keep (by repeat' (first | exact Below.refl _ _ | refine balloc ?_ _))).keep hb23)
  replace RB := Lib.hid ((RB.out.keep (by repeat' (first | exact Below.refl _ _ | refine balloc ?_ _))).keep hb23)
  replace RC := Lib.hid ((RC.out.keep (by repeat' (first | exact Below.refl _ _ | refine balloc ?_ _))).keep hb23)
  replace N15 := Lib.hid ((N15.out.keep (by repeat' (first | exact Below.refl _ _ | refine balloc ?_ _))).keep hb23)
  replace acc := bnext (w := w) (by repeat' (first | exact acc | refine balloc ?_ _)) hb23
  have N16 := Lib.hid (Own.lst h23)
  clear h23 hb23
  go_wp2_with fail
  refine (less_any _ _ A (SP.join C B) _ (RA.out.keep (by repeat' (first | exact Below.refl _ _ | refine balloc ?_ _))).row (N16.out.keep (by repeat' (first | exact Below.refl _ _ | refine balloc ?_ _))).row (IA.r (by decide)) ((InN.join IC IB).r (by decide))).mono ?_
  rintro e w24 ⟨u24, rfl, h24, hb24⟩
  obtain ⟨p24, q24, rfl⟩ := own_shape h24
  replace RA := Lib.hid ((RA.out.keep (by repeat' (first | exact Below.refl _ _ | refine balloc ?_ _))).keep hb24)
  replace RB := Lib.hid ((RB.out.keep (by repeat' (first | exact Below.refl _ _ | refine balloc ?_ _))).keep hb24)
  replace RC := Lib.hid ((RC.out.keep (by repeat' (first | exact Below.refl _ _ | refine balloc ?_ _))).keep hb24)
  replace N15 := Lib.hid ((N15.out.keep (by repeat' (first | exact Below.refl _ _ | refine balloc ?_ _))).keep hb24)
  replace N16 := Lib.hid ((N16.out.keep (by repeat' (first | exact Below.refl _ _ | refine balloc ?_ _))).keep hb24)
  replace acc := bnext (w := w) (by repeat' (first | exact acc | refine balloc ?_ _)) hb24
  have N17 := Lib.hid (Own.lst h24)
  clear h24 hb24
  clear N16
  go_wp2_with fail
  refine (same_t _ _ (SP.less (SP.less A B) C) (SP.less A (SP.join C B)) _ (N15.out.keep (by repeat' (first | exact Below.refl _ _ | refine balloc ?_ _))).row (N17.out.keep (by repeat' (first | exact Below.refl _ _ | refine balloc ?_ _))).row (SP.rises_ext (SP.rises_norm _) (SP.rises_norm _) (fun x => by by_cases h1 : x ∈ A <;> by_cases h2 : x ∈ B <;> by_cases h3 : x ∈ C <;> simp [SP.mem_join, SP.mem_meet, SP.mem_less, SP.mem_norm, h1, h2, h3])) (Nat.le_trans (InN.less (InN.less IA)).1 (by decide))).mono ?_
  rintro e w25 ⟨rfl, hb25⟩
  replace RA := Lib.hid ((RA.out.keep (by repeat' (first | exact Below.refl _ _ | refine balloc ?_ _))).keep hb25)
  replace RB := Lib.hid ((RB.out.keep (by repeat' (first | exact Below.refl _ _ | refine balloc ?_ _))).keep hb25)
  replace RC := Lib.hid ((RC.out.keep (by repeat' (first | exact Below.refl _ _ | refine balloc ?_ _))).keep hb25)
  replace N15 := Lib.hid ((N15.out.keep (by repeat' (first | exact Below.refl _ _ | refine balloc ?_ _))).keep hb25)
  replace N17 := Lib.hid ((N17.out.keep (by repeat' (first | exact Below.refl _ _ | refine balloc ?_ _))).keep hb25)
  replace acc := bnext (w := w) (by repeat' (first | exact acc | refine balloc ?_ _)) hb25
  clear hb25
  clear N15
  clear N17
  go_wp2_with fail
  go_ret
  exact ⟨rfl, (by repeat' (first | exact acc | refine balloc ?_ _))⟩

set_option maxRecDepth 100000 in
theorem lifted (os : Os) (started : os.Started) (H : Type) (enc : TypeId × Value → H) :
    ReturnsInHanded {} Try.checked os 7 .any (Rows.setsThreeSpec.pre6 enc Try.prog Try.f7 Rows.setsThreeRow.domain false) (Rows.setsThreeSpec.post enc Try.prog Try.f7 false true false false) := by
  refine returnsInHanded_of_change (C := Try.checked) own started (by kernel_rfl) Try.func7
    (ChangeSpec.witness6 (enc := enc) (C := Try.checked) false ⟨#[], #[.slice none 0 0, .slice none 0 0, .slice none 0 0], []⟩ 8 (by kernel_rfl) (by kernel_rfl) (by kernel_rfl) (by kernel_rfl)) ?_
  intro W base args ds gs before hval0 hW hcnd _
  have hval : ∀ (j : Nat) t v, Try.f7.params[j]? = some t → args[j]? = some v → Value.okWide Try.prog W .any base t v := hval0
  have hW' := hW
  obtain ⟨p, q, hA0, hV, rfl, hfz, hnd⟩ := hW
  have hA : DataW.TrodAll enc Try.prog W 0 (fun _ => true) true Try.f7.params.toList args.toList ds p := hA0
  rw [Try.params7] at hA hval
  obtain ⟨v0, vs0, d0, ds0, p0, q0, hargs, rfl, rfl, h0, r0⟩ := trodAll_cons hA
  obtain ⟨v1, vs1, d1, ds1, p1, q1, rfl, rfl, rfl, h1, r1⟩ := trodAll_cons r0
  obtain ⟨v2, vs2, d2, ds2, p2, q2, rfl, rfl, rfl, h2, r2⟩ := trodAll_cons r1
  obtain ⟨rfl, rfl, rfl⟩ := trodAll_nil r2
  obtain rfl : args = #[v0, v1, v2] := by cases args; simp_all
  obtain ⟨rfl, rfl⟩ := trodVars_none hV
  have k0 := h0
  have lt0 : ∀ x ∈ p0, x.block < W.heap.size := by obtain ⟨m, hm⟩ := k0; exact DataW.trod_lt m _ _ _ hm
  have k1 := h1
  have lt1 : ∀ x ∈ p1, x.block < W.heap.size := by obtain ⟨m, hm⟩ := k1; exact DataW.trod_lt m _ _ _ hm
  have k2 := h2
  have lt2 : ∀ x ∈ p2, x.block < W.heap.size := by obtain ⟨m, hm⟩ := k2; exact DataW.trod_lt m _ _ _ hm
  obtain ⟨a0, H0, L0, E0⟩ := open_ls (hval 0 22 v0 rfl rfl) h0
  obtain ⟨a1, H1, L1, E1⟩ := open_ls (hval 1 22 v1 rfl rfl) h1
  obtain ⟨a2, H2, L2, E2⟩ := open_ls (hval 2 22 v2 rfl rfl) h2
  clear hA0 hval0
  refine (walk v0 a0 v1 a1 v2 a2  W H0 L0 E0 H1 L1 E1 H2 L2 E2).mono fun e W' ⟨he, bel⟩ => ?_
  subst he
  exact ⟨_, rfl, _, _, _, [], _, [], hW', trodAll_mk1 (shut_bool Try.underlying4 _), (trodAll_cons_mk (Below.trod laidOut (by kernel_rfl) (of_decide_eq_true (by kernel_rfl)) k0 bel lt0) (trodAll_cons_mk (Below.trod laidOut (by kernel_rfl) (of_decide_eq_true (by kernel_rfl)) k1 bel lt1) (trodAll_cons_mk (Below.trod laidOut (by kernel_rfl) (of_decide_eq_true (by kernel_rfl)) k2 bel lt2) trodAll_mk0))), rfl, bel.frame _, fun h => by cases h⟩

theorem over : Rows.setsThreeRow.holds Try.pinned (OpenSpec.ofChange Rows.setsThreeSpec) :=
  OpenClaim.holds_of_wide 7 Try.f7 rfl rfl rfl rfl rfl rfl rfl ⟨rfl, rfl, rfl, rfl, rfl⟩ rfl rfl rfl rfl rfl (by kernel_rfl) Try.func7 (by kernel_rfl)
    (of_decide_eq_true (by kernel_rfl)) (by unfold Func.isWrapper; first | (rw [if_pos (by decide +kernel)]; kernel_rfl) | (rw [if_neg (by decide +kernel)]; exact ⟨rfl, rfl⟩))
    (fun os started H enc _ => lifted os started H enc)

end Go.Proofs.Ytamhhbgakaokgaa.setsThree
namespace Go.Proofs.Ytamhhbgakaokgaa
theorem setsThree_proved : Rows.SetsThreeSaid := setsThree.over
#print axioms setsThree_proved
end Go.Proofs.Ytamhhbgakaokgaa
