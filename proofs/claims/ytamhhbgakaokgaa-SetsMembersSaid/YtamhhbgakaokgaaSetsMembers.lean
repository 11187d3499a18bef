/- For every two lists and every number SetsMembers returns true: whether a number is in a result follows from whether it is in the lists. No conditions. -/
import Derived.Test.YtamhhbgakaokgaaSetSane
namespace Go.Proofs.Ytamhhbgakaokgaa.setsMembers
open Go.ChangeShapes Go.WideShapes Go.ChangeAt Go.RowKit Go.Joins Go.Deep Go.Maps
set_option linter.unusedVariables false

set_option maxRecDepth 100000 in
set_option maxHeartbeats 8000000 in
theorem walk (v0 : Value) (a0 : List Int) (v1 : Value) (a1 : List Int) (a2 : Int) (wa2 : (Lit.int .i64 a2).wf = true) (w : World) (H0 : Src w v0 (a0.map (Value.int .i64))) (L0 : a0.length ≤ maxLen ∧ ∀ a n c, v0 = .slice a n c → n ≤ c) (E0 : ∀ x, x ∈ a0 → (Lit.int .i64 x).wf = true) (H1 : Src w v1 (a1.map (Value.int .i64))) (L1 : a1.length ≤ maxLen ∧ ∀ a n c, v1 = .slice a n c → n ≤ c) (E1 : ∀ x, x ∈ a1 → (Lit.int .i64 x).wf = true) :
    Calls Try.prog 5 #[v0, v1, .int .i64 a2] w fun e w' => e = .returned (.bool true) ∧ Below w.heap.size w w' := by
  obtain ⟨A, hEA⟩ : ∃ A, a0.take 40 = A := ⟨_, rfl⟩
  have IA : InN 40 A := hEA ▸ InN.take E0
  have HFA := Lib.hid hEA
  clear hEA
  obtain ⟨y0, z0, rfl, _⟩ := H0.out
  rw [iv_len] at H0 ⊢
  have S0 := Lib.hid H0
  have hl0 := L0.1
  have hc0 := Lib.hid L0.2
  rw [iv_len] at hc0
  clear H0 L0 E0
  obtain ⟨B, hEB⟩ : ∃ B, a1.take 40 = B := ⟨_, rfl⟩
  have IB : InN 40 B := hEB ▸ InN.take E1
  have HFB := Lib.hid hEB
  clear hEB
  obtain ⟨y1, z1, rfl, _⟩ := H1.out
  rw [iv_len] at H1 ⊢
  have S1 := Lib.hid H1
  have hl1 := L1.1
  have hc1 := Lib.hid L1.2
  rw [iv_len] at hc1
  clear H1 L1 E1
  obtain ⟨i0, hi, hz0, hz1, hz2⟩ := info_parts info_int
  have acc : Below w.heap.size w w := Below.refl _ _
  go_enter Try.func5, Try.ntmps5
  go_wp2_with fail
  refine (sanity_any _).mono ?_
  rintro e w1 ⟨rfl, hb1⟩
  replace acc := bnext (w := w) (by repeat' (first | exact acc | refine balloc ?_ _)) hb1
  clear hb1
  go_wp2_with fail
  refine (few_t _ a0 A _ (S0.out.keep (by repeat' (first | exact acc | refine balloc ?_ _))) hl0 hc0.out HFA.out).mono ?_
  rintro e w2 ⟨u2, rfl, h2, hb2⟩
  obtain ⟨p2, q2, rfl⟩ := own_shape h2
  replace acc := bnext (w := w) (by repeat' (first | exact acc | refine balloc ?_ _)) hb2
  have RA := Lib.hid (Own.lst h2)
  clear h2 hb2
  go_wp2_with fail
  refine (few_t _ a1 B _ (S1.out.keep (by repeat' (first | exact acc | refine balloc ?_ _))) hl1 hc1.out HFB.out).mono ?_
  rintro e w3 ⟨u3, rfl, h3, hb3⟩
  obtain ⟨p3, q3, rfl⟩ := own_shape h3
  replace RA := Lib.hid ((RA.out.keep (by repeat' (first | exact Below.refl _ _ | refine balloc ?_ _))).keep hb3)
  replace acc := bnext (w := w) (by repeat' (first | exact acc | refine balloc ?_ _)) hb3
  have RB := Lib.hid (Own.lst h3)
  clear h3 hb3
  have hA4 := IA.1
  have hB4 := IB.1
  go_wp2_with (at_builtin; refine wpList_app _ rfl _ _ 22 rfl w3.heap.size 3 i0 (.int .i64 0) 8 Try.underlying22 hi hz0 hz1 hz2 rfl _ _ _ rfl (own_lit w3 [.int .i64 a2] 3 _ (Nat.le_refl _) (by simp [maxLen])) _ (iv A) rfl ((RA.out.keep (by repeat' (first | exact Below.refl _ _ | refine balloc ?_ _))).src) (ints_one _) ?h1a ?h1b ?h1c ?_)
  try case h1a => unfold maxLen; first | omega | (simp <;> omega)
  try case h1b => first | omega | (simp <;> omega)
  try case h1c => first | exact Nat.le_refl _ | omega | (simp <;> omega)
  intro x1 wa hx1 hg1 _
  have hba : Below w3.heap.size w3 wa := (balloc (Below.refl _ _) _).grown hg1 (by simp) (fun j hj => by cases hj; exact Nat.le_refl _)
  replace hx1 := own_iv hx1 (a2 :: A) (by simp)
  have hsz1 := hba.size
  obtain ⟨X1, hX1⟩ : ∃ X1, a2 :: A = X1 := ⟨_, rfl⟩
  rw [hX1] at hx1
  have hX1l : X1.length ≤ 41 := by rw [← hX1]; simp; omega
  have HX1 := Lib.hid hx1
  obtain ⟨p1, q1, rfl⟩ := own_shape hx1
  clear hx1 hg1
  have HX1e := Lib.hid hX1
  clear hX1
  go_wp2_with (at_builtin; refine wpList_app _ rfl _ _ 22 rfl w3.heap.size 3 i0 (.int .i64 0) 8 Try.underlying22 hi hz0 hz1 hz2 rfl _ _ _ rfl HX1.out _ (iv B) rfl ((RB.out.keep hba).src) (ints_one _) ?h2a ?h2b ?h2c ?_)
  try case h2a => unfold maxLen; first | omega | (simp <;> omega)
  try case h2b => first | omega | (simp <;> omega)
  try case h2c => first | exact Nat.le_refl _ | omega | (simp <;> omega)
  intro x2 wb hx2 hg2 _
  have hbb : Below w3.heap.size w3 wb := hba.grown hg2 hsz1 (fun j hj => (HX1.out.lt j hj).1)
  replace hx2 := own_iv hx2 (X1 ++ B) (by simp)
  obtain ⟨X, hX⟩ : ∃ X, X1 ++ B = X := ⟨_, rfl⟩
  rw [hX] at hx2
  have hXl : X.length ≤ 81 := by rw [← hX]; simp; omega
  obtain ⟨p2, q2, rfl⟩ := own_shape hx2
  have RX := Lib.hid (own_lst hx2)
  replace RA := Lib.hid (RA.out.keep hbb)
  replace RB := Lib.hid (RB.out.keep hbb)
  replace acc := bnext (w := w) acc hbb
  clear hx2 hg2 hX hba hbb HX1 HX1e hsz1
  go_wp2_with fail
  refine (join_any _ _ A B _ (RA.out.keep (by repeat' (first | exact Below.refl _ _ | refine balloc ?_ _))).row (RB.out.keep (by repeat' (first | exact Below.refl _ _ | refine balloc ?_ _))).row (IA.r (by decide)) (IB.r (by decide))).mono ?_
  rintro e w4 ⟨u4, rfl, h4, hb4⟩
  obtain ⟨p4, q4, rfl⟩ := own_shape h4
  replace RA := Lib.hid ((RA.out.keep (by repeat' (first | exact Below.refl _ _ | refine balloc ?_ _))).keep hb4)
  replace RB := Lib.hid ((RB.out.keep (by repeat' (first | exact Below.refl _ _ | refine balloc ?_ _))).keep hb4)
  replace RX := Lib.hid ((RX.out.keep (by repeat' (first | exact Below.refl _ _ | refine balloc ?_ _))).keep hb4)
  replace acc := bnext (w := w) (by repeat' (first | exact acc | refine balloc ?_ _)) hb4
  have RJ := Lib.hid (Own.lst h4)
  clear h4 hb4
  go_wp2_with fail
  refine (meet_any _ _ A B _ (RA.out.keep (by repeat' (first | exact Below.refl _ _ | refine balloc ?_ _))).row (RB.out.keep (by repeat' (first | exact Below.refl _ _ | refine balloc ?_ _))).row (IA.r (by decide)) (IB.r (by decide))).mono ?_
  rintro e w5 ⟨u5, rfl, h5, hb5⟩
  obtain ⟨p5, q5, rfl⟩ := own_shape h5
  replace RA := Lib.hid ((RA.out.keep (by repeat' (first | exact Below.refl _ _ | refine balloc ?_ _))).keep hb5)
  replace RB := Lib.hid ((RB.out.keep (by repeat' (first | exact Below.refl _ _ | refine balloc ?_ _))).keep hb5)
  replace RX := Lib.hid ((RX.out.keep (by repeat' (first | exact Below.refl _ _ | refine balloc ?_ _))).keep hb5)
  replace RJ := Lib.hid ((RJ.out.keep (by repeat' (first | exact Below.refl _ _ | refine balloc ?_ _))).keep hb5)
  replace acc := bnext (w := w) (by repeat' (first | exact acc | refine balloc ?_ _)) hb5
  have RM := Lib.hid (Own.lst h5)
  clear h5 hb5
  go_wp2_with fail
  refine (less_any _ _ A B _ (RA.out.keep (by repeat' (first | exact Below.refl _ _ | refine balloc ?_ _))).row (RB.out.keep (by repeat' (first | exact Below.refl _ _ | refine balloc ?_ _))).row (IA.r (by decide)) (IB.r (by decide))).mono ?_
  rintro e w6 ⟨u6, rfl, h6, hb6⟩
  obtain ⟨p6, q6, rfl⟩ := own_shape h6
  replace RA := Lib.hid ((RA.out.keep (by repeat' (first | exact Below.refl _ _ | refine balloc ?_ _))).keep hb6)
  replace RB := Lib.hid ((RB.out.keep (by repeat' (first | exact Below.refl _ _ | refine balloc ?_ _))).keep hb6)
  replace RX := Lib.hid ((RX.out.keep (by repeat' (first | exact Below.refl _ _ | refine balloc ?_ _))).keep hb6)
  replace RJ := Lib.hid ((RJ.out.keep (by repeat' (first | exact Below.refl _ _ | refine balloc ?_ _))).keep hb6)
  replace RM := Lib.hid ((RM.out.keep (by repeat' (first | exact Below.refl _ _ | refine balloc ?_ _))).keep hb6)
  replace acc := bnext (w := w) (by repeat' (first | exact acc | refine balloc ?_ _)) hb6
  have RL := Lib.hid (Own.lst h6)
  clear h6 hb6
  go_wp2_with fail
  have accw := acc
  go_loopw [38] (fun i wr => ∃ k : Nat, k ≤ X.length ∧ i = .int .i64 k ∧ Below w6.heap.size w6 wr) (fun i _ => X.length - (intOf i).toNat)
  case atStart => exact ⟨0, Nat.zero_le _, rfl, Below.refl _ _⟩
  case round =>
    obtain ⟨k, hk, rfl, hbk⟩ := hrel
    by_cases hkl : k < X.length
    · obtain ⟨g, o, rfl, hg, hc⟩ := (RX.out.keep hbk).row.cell (k := k) (by simpa using hkl)
      simp only [List.getElem_map] at hc
      have hki : (k : Int) < (X.length : Int) := by omega
      obtain ⟨x, hx⟩ : ∃ x, X[k] = x := ⟨_, rfl⟩
      rw [hx] at hc
      clear hx
      have RAk := Lib.hid (RA.out.keep hbk)
      have RBk := Lib.hid (RB.out.keep hbk)
      have RJk := Lib.hid (RJ.out.keep hbk)
      have RMk := Lib.hid (RM.out.keep hbk)
      have RLk := Lib.hid (RL.out.keep hbk)
      have acck := hbk
      by_cases hp : x ∈ A <;> by_cases hq : x ∈ B
      · have DA : Hid (decide (x ∈ A) = true) := Lib.hid (by simp [SP.mem_join, SP.mem_meet, SP.mem_less, SP.mem_norm, hp, hq])
        have DB : Hid (decide (x ∈ B) = true) := Lib.hid (by simp [SP.mem_join, SP.mem_meet, SP.mem_less, SP.mem_norm, hp, hq])
        have DJ : Hid (decide (x ∈ SP.join A B) = true) := Lib.hid (by simp [SP.mem_join, SP.mem_meet, SP.mem_less, SP.mem_norm, hp, hq])
        have DM : Hid (decide (x ∈ SP.meet A B) = true) := Lib.hid (by simp [SP.mem_join, SP.mem_meet, SP.mem_less, SP.mem_norm, hp, hq])
        have DL : Hid (decide (x ∈ SP.less A B) = false) := Lib.hid (by simp [SP.mem_join, SP.mem_meet, SP.mem_less, SP.mem_norm, hp, hq])
        have DN : Hid (decide (x ∈ SP.norm A) = true) := Lib.hid (by simp [SP.mem_join, SP.mem_meet, SP.mem_less, SP.mem_norm, hp, hq])
        clear hp hq
        go_wp2_with fail
        refine (has_t _ A x true _ (RAk.out.keep (by repeat' (first | exact Below.refl _ _ | refine balloc ?_ _))).row (by have := IA.1; omega) DA.out).mono ?_
        rintro e w101 ⟨rfl, rfl⟩
        go_wp2_with fail
        refine (has_t _ B x true _ (RBk.out.keep (by repeat' (first | exact Below.refl _ _ | refine balloc ?_ _))).row (by have := IB.1; omega) DB.out).mono ?_
        rintro e w102 ⟨rfl, rfl⟩
        go_wp2_with fail
        refine (has_t _ (SP.join A B) x true _ (RJk.out.keep (by repeat' (first | exact Below.refl _ _ | refine balloc ?_ _))).row (by have := SP.join_len A B; have := IA.1; have := IB.1; omega) DJ.out).mono ?_
        rintro e w103 ⟨rfl, rfl⟩
        go_wp2_with fail
        refine (has_t _ (SP.meet A B) x true _ (RMk.out.keep (by repeat' (first | exact Below.refl _ _ | refine balloc ?_ _))).row (by have := SP.meet_len A B; have := IA.1; omega) DM.out).mono ?_
        rintro e w104 ⟨rfl, rfl⟩
        go_wp2_with fail
        refine (has_t _ (SP.less A B) x false _ (RLk.out.keep (by repeat' (first | exact Below.refl _ _ | refine balloc ?_ _))).row (by have := SP.less_len A B; have := IA.1; omega) DL.out).mono ?_
        rintro e w105 ⟨rfl, rfl⟩
        go_wp2_with fail
        refine (norm_any _ A _ (RAk.out.keep (by repeat' (first | exact Below.refl _ _ | refine balloc ?_ _))).row (IA.r (by decide))).mono ?_
        rintro e w106 ⟨u106, rfl, h106, hb106⟩
        obtain ⟨p106, q106, rfl⟩ := own_shape h106
        replace RAk := Lib.hid ((RAk.out.keep (by repeat' (first | exact Below.refl _ _ | refine balloc ?_ _))).keep hb106)
        replace RBk := Lib.hid ((RBk.out.keep (by repeat' (first | exact Below.refl _ _ | refine balloc ?_ _))).keep hb106)
        replace RJk := Lib.hid ((RJk.out.keep (by repeat' (first | exact Below.refl _ _ | refine balloc ?_ _))).keep hb106)
        replace RMk := Lib.hid ((RMk.out.keep (by repeat' (first | exact Below.refl _ _ | refine balloc ?_ _))).keep hb106)
        replace RLk := Lib.hid ((RLk.out.keep (by repeat' (first | exact Below.refl _ _ | refine balloc ?_ _))).keep hb106)
        replace acck := bnext (w := w6) (by repeat' (first | exact acck | refine balloc ?_ _)) hb106
        have RNk := Lib.hid (Own.lst h106)
        clear h106 hb106
        go_wp2_with fail
        refine (has_t _ (SP.norm A) x true _ (RNk.out.keep (by repeat' (first | exact Below.refl _ _ | refine balloc ?_ _))).row (by have := SP.norm_len A; have := IA.1; omega) DN.out).mono ?_
        rintro e w107 ⟨rfl, rfl⟩
        go_wp2_with fail
        go_roundw
        case rel => exact ⟨k + 1, by omega, by go_num, acck⟩
        case measure => simp [intOf]; omega
      · have DA : Hid (decide (x ∈ A) = true) := Lib.hid (by simp [SP.mem_join, SP.mem_meet, SP.mem_less, SP.mem_norm, hp, hq])
        have DB : Hid (decide (x ∈ B) = false) := Lib.hid (by simp [SP.mem_join, SP.mem_meet, SP.mem_less, SP.mem_norm, hp, hq])
        have DJ : Hid (decide (x ∈ SP.join A B) = true) := Lib.hid (by simp [SP.mem_join, SP.mem_meet, SP.mem_less, SP.mem_norm, hp, hq])
        have DM : Hid (decide (x ∈ SP.meet A B) = false) := Lib.hid (by simp [SP.mem_join, SP.mem_meet, SP.mem_less, SP.mem_norm, hp, hq])
        have DL : Hid (decide (x ∈ SP.less A B) = true) := Lib.hid (by simp [SP.mem_join, SP.mem_meet, SP.mem_less, SP.mem_norm, hp, hq])
        have DN : Hid (decide (x ∈ SP.norm A) = true) := Lib.hid (by simp [SP.mem_join, SP.mem_meet, SP.mem_less, SP.mem_norm, hp, hq])
        clear hp hq
        go_wp2_with fail
        refine (has_t _ A x true _ (RAk.out.keep (by repeat' (first | exact Below.refl _ _ | refine balloc ?_ _))).row (by have := IA.1; omega) DA.out).mono ?_
        rintro e w101 ⟨rfl, rfl⟩
        go_wp2_with fail
        refine (has_t _ B x false _ (RBk.out.keep (by repeat' (first | exact Below.refl _ _ | refine balloc ?_ _))).row (by have := IB.1; omega) DB.out).mono ?_
        rintro e w102 ⟨rfl, rfl⟩
        go_wp2_with fail
        refine (has_t _ (SP.join A B) x true _ (RJk.out.keep (by repeat' (first | exact Below.refl _ _ | refine balloc ?_ _))).row (by have := SP.join_len A B; have := IA.1; have := IB.1; omega) DJ.out).mono ?_
        rintro e w103 ⟨rfl, rfl⟩
        go_wp2_with fail
        refine (has_t _ (SP.meet A B) x false _ (RMk.out.keep (by repeat' (first | exact Below.refl _ _ | refine balloc ?_ _))).row (by have := SP.meet_len A B; have := IA.1; omega) DM.out).mono ?_
        rintro e w104 ⟨rfl, rfl⟩
        go_wp2_with fail
        refine (has_t _ (SP.less A B) x true _ (RLk.out.keep (by repeat' (first | exact Below.refl _ _ | refine balloc ?_ _))).row (by have := SP.less_len A B; have := IA.1; omega) DL.out).mono ?_
        rintro e w105 ⟨rfl, rfl⟩
        go_wp2_with fail
        refine (norm_any _ A _ (RAk.out.keep (by repeat' (first | exact Below.refl _ _ | refine balloc ?_ _))).row (IA.r (by decide))).mono ?_
        rintro e w106 ⟨u106, rfl, h106, hb106⟩
        obtain ⟨p106, q106, rfl⟩ := own_shape h106
        replace RAk := Lib.hid ((RAk.out.keep (by repeat' (first | exact Below.refl _ _ | refine balloc ?_ _))).keep hb106)
        replace RBk := Lib.hid ((RBk.out.keep (by repeat' (first | exact Below.refl _ _ | refine balloc ?_ _))).keep hb106)
        replace RJk := Lib.hid ((RJk.out.keep (by repeat' (first | exact Below.refl _ _ | refine balloc ?_ _))).keep hb106)
        replace RMk := Lib.hid ((RMk.out.keep (by repeat' (first | exact Below.refl _ _ | refine balloc ?_ _))).keep hb106)
        replace RLk := Lib.hid ((RLk.out.keep (by repeat' (first | exact Below.refl _ _ | refine balloc ?_ _))).keep hb106)
        replace acck := bnext (w := w6) (by repeat' (first | exact acck | refine balloc ?_ _)) hb106
        have RNk := Lib.hid (Own.lst h106)
        clear h106 hb106
        go_wp2_with fail
        refine (has_t _ (SP.norm A) x true _ (RNk.out.keep (by repeat' (first | exact Below.refl _ _ | refine balloc ?_ _))).row (by have := SP.norm_len A; have := IA.1; omega) DN.out).mono ?_
        rintro e w107 ⟨rfl, rfl⟩
        go_wp2_with fail
        go_roundw
        case rel => exact ⟨k + 1, by omega, by go_num, acck⟩
        case measure => simp [intOf]; omega
      · have DA : Hid (decide (x ∈ A) = false) := Lib.hid (by simp [SP.mem_join, SP.mem_meet, SP.mem_less, SP.mem_norm, hp, hq])
        have DB : Hid (decide (x ∈ B) = true) := Lib.hid (by simp [SP.mem_join, SP.mem_meet, SP.mem_less, SP.mem_norm, hp, hq])
        have DJ : Hid (decide (x ∈ SP.join A B) = true) := Lib.hid (by simp [SP.mem_join, SP.mem_meet, SP.mem_less, SP.mem_norm, hp, hq])
        have DM : Hid (decide (x ∈ SP.meet A B) = false) := Lib.hid (by simp [SP.mem_join, SP.mem_meet, SP.mem_less, SP.mem_norm, hp, hq])
        have DL : Hid (decide (x ∈ SP.less A B) = false) := Lib.hid (by simp [SP.mem_join, SP.mem_meet, SP.mem_less, SP.mem_norm, hp, hq])
        have DN : Hid (decide (x ∈ SP.norm A) = false) := Lib.hid (by simp [SP.mem_join, SP.mem_meet, SP.mem_less, SP.mem_norm, hp, hq])
        clear hp hq
        go_wp2_with fail
        refine (has_t _ A x false _ (RAk.out.keep (by repeat' (first | exact Below.refl _ _ | refine balloc ?_ _))).row (by have := IA.1; omega) DA.out).mono ?_
        rintro e w101 ⟨rfl, rfl⟩
        go_wp2_with fail
        refine (has_t _ B x true _ (RBk.out.keep (by repeat' (first | exact Below.refl _ _ | refine balloc ?_ _))).row (by have := IB.1; omega) DB.out).mono ?_
        rintro e w102 ⟨rfl, rfl⟩
        go_wp2_with fail
        refine (has_t _ (SP.join A B) x true _ (RJk.out.keep (by repeat' (first | exact Below.refl _ _ | refine balloc ?_ _))).row (by have := SP.join_len A B; have := IA.1; have := IB.1; omega) DJ.out).mono ?_
        rintro e w103 ⟨rfl, rfl⟩
        go_wp2_with fail
        refine (has_t _ (SP.meet A B) x false _ (RMk.out.keep (by repeat' (first | exact Below.refl _ _ | refine balloc ?_ _))).row (by have := SP.meet_len A B; have := IA.1; omega) DM.out).mono ?_
        rintro e w104 ⟨rfl, rfl⟩
        go_wp2_with fail
        refine (has_t _ (SP.less A B) x false _ (RLk.out.keep (by repeat' (first | exact Below.refl _ _ | refine balloc ?_ _))).row (by have := SP.less_len A B; have := IA.1; omega) DL.out).mono ?_
        rintro e w105 ⟨rfl, rfl⟩
        go_wp2_with fail
        refine (norm_any _ A _ (RAk.out.keep (by repeat' (first | exact Below.refl _ _ | refine balloc ?_ _))).row (IA.r (by decide))).mono ?_
        rintro e w106 ⟨u106, rfl, h106, hb106⟩
        obtain ⟨p106, q106, rfl⟩ := own_shape h106
        replace RAk := Lib.hid ((RAk.out.keep (by repeat' (first | exact Below.refl _ _ | refine balloc ?_ _))).keep hb106)
        replace RBk := Lib.hid ((RBk.out.keep (by repeat' (first | exact Below.refl _ _ | refine balloc ?_ _))).keep hb106)
        replace RJk := Lib.hid ((RJk.out.keep (by repeat' (first | exact Below.refl _ _ | refine balloc ?_ _))).keep hb106)
        replace RMk := Lib.hid ((RMk.out.keep (by repeat' (first | exact Below.refl _ _ | refine balloc ?_ _))).keep hb106)
        replace RLk := Lib.hid ((RLk.out.keep (by repeat' (first | exact Below.refl _ _ | refine balloc ?_ _))).keep hb106)
        replace acck := bnext (w := w6) (by repeat' (first | exact acck | refine balloc ?_ _)) hb106
        have RNk := Lib.hid (Own.lst h106)
        clear h106 hb106
        go_wp2_with fail
        refine (has_t _ (SP.norm A) x false _ (RNk.out.keep (by repeat' (first | exact Below.refl _ _ | refine balloc ?_ _))).row (by have := SP.norm_len A; have := IA.1; omega) DN.out).mono ?_
        rintro e w107 ⟨rfl, rfl⟩
        go_wp2_with fail
        go_roundw
        case rel => exact ⟨k + 1, by omega, by go_num, acck⟩
        case measure => simp [intOf]; omega
      · have DA : Hid (decide (x ∈ A) = false) := Lib.hid (by simp [SP.mem_join, SP.mem_meet, SP.mem_less, SP.mem_norm, hp, hq])
        have DB : Hid (decide (x ∈ B) = false) := Lib.hid (by simp [SP.mem_join, SP.mem_meet, SP.mem_less, SP.mem_norm, hp, hq])
        have DJ : Hid (decide (x ∈ SP.join A B) = false) := Lib.hid (by simp [SP.mem_join, SP.mem_meet, SP.mem_less, SP.mem_norm, hp, hq])
        have DM : Hid (decide (x ∈ SP.meet A B) = false) := Lib.hid (by simp [SP.mem_join, SP.mem_meet, SP.mem_less, SP.mem_norm, hp, hq])
        have DL : Hid (decide (x ∈ SP.less A B) = false) := Lib.hid (by simp [SP.mem_join, SP.mem_meet, SP.mem_less, SP.mem_norm, hp, hq])
        have DN : Hid (decide (x ∈ SP.norm A) = false) := Lib.hid (by simp [SP.mem_join, SP.mem_meet, SP.mem_less, SP.mem_norm, hp, hq])
        clear hp hq
        go_wp2_with fail
        refine (has_t _ A x false _ (RAk.out.keep (by repeat' (first | exact Below.refl _ _ | refine balloc ?_ _))).row (by have := IA.1; omega) DA.out).mono ?_
        rintro e w101 ⟨rfl, rfl⟩
        go_wp2_with fail
        refine (has_t _ B x false _ (RBk.out.keep (by repeat' (first | exact Below.refl _ _ | refine balloc ?_ _))).row (by have := IB.1; omega) DB.out).mono ?_
        rintro e w102 ⟨rfl, rfl⟩
        go_wp2_with fail
        refine (has_t _ (SP.join A B) x false _ (RJk.out.keep (by repeat' (first | exact Below.refl _ _ | refine balloc ?_ _))).row (by have := SP.join_len A B; have := IA.1; have := IB.1; omega) DJ.out).mono ?_
        rintro e w103 ⟨rfl, rfl⟩
        go_wp2_with fail
        refine (has_t _ (SP.meet A B) x false _ (RMk.out.keep (by repeat' (first | exact Below.refl _ _ | refine balloc ?_ _))).row (by have := SP.meet_len A B; have := IA.1; omega) DM.out).mono ?_
        rintro e w104 ⟨rfl, rfl⟩
        go_wp2_with fail
        refine (has_t _ (SP.less A B) x false _ (RLk.out.keep (by repeat' (first | exact Below.refl _ _ | refine balloc ?_ _))).row (by have := SP.less_len A B; have := IA.1; omega) DL.out).mono ?_
        rintro e w105 ⟨rfl, rfl⟩
        go_wp2_with fail
        refine (norm_any _ A _ (RAk.out.keep (by repeat' (first | exact Below.refl _ _ | refine balloc ?_ _))).row (IA.r (by decide))).mono ?_
        rintro e w106 ⟨u106, rfl, h106, hb106⟩
        obtain ⟨p106, q106, rfl⟩ := own_shape h106
        replace RAk := Lib.hid ((RAk.out.keep (by repeat' (first | exact Below.refl _ _ | refine balloc ?_ _))).keep hb106)
        replace RBk := Lib.hid ((RBk.out.keep (by repeat' (first | exact Below.refl _ _ | refine balloc ?_ _))).keep hb106)
        replace RJk := Lib.hid ((RJk.out.keep (by repeat' (first | exact Below.refl _ _ | refine balloc ?_ _))).keep hb106)
        replace RMk := Lib.hid ((RMk.out.keep (by repeat' (first | exact Below.refl _ _ | refine balloc ?_ _))).keep hb106)
        replace RLk := Lib.hid ((RLk.out.keep (by repeat' (first | exact Below.refl _ _ | refine balloc ?_ _))).keep hb106)
        replace acck := bnext (w := w6) (by repeat' (first | exact acck | refine balloc ?_ _)) hb106
        have RNk := Lib.hid (Own.lst h106)
        clear h106 hb106
        go_wp2_with fail
        refine (has_t _ (SP.norm A) x false _ (RNk.out.keep (by repeat' (first | exact Below.refl _ _ | refine balloc ?_ _))).row (by have := SP.norm_len A; have := IA.1; omega) DN.out).mono ?_
        rintro e w107 ⟨rfl, rfl⟩
        go_wp2_with fail
        go_roundw
        case rel => exact ⟨k + 1, by omega, by go_num, acck⟩
        case measure => simp [intOf]; omega
    · have acck := bnext (w := w) accw hbk
      replace RA := Lib.hid (RA.out.keep hbk)
      replace RB := Lib.hid (RB.out.keep hbk)
      replace RJ := Lib.hid (RJ.out.keep hbk)
      replace RM := Lib.hid (RM.out.keep hbk)
      replace RL := Lib.hid (RL.out.keep hbk)
      clear acc accw hbk RX
      by_cases hm : SP.meet A B = []
      · have HML : Hid ((SP.meet A B).length = 0) := Lib.hid (by rw [hm]; rfl)
        have HO : Hid (decide (SP.meet A B ≠ []) = false) := Lib.hid (by simp [hm])
        clear hm
        go_wp2_with fail
        refine (right_t _ (SP.join A B) true _ (RJ.out.keep (by repeat' (first | exact Below.refl _ _ | refine balloc ?_ _))).row (by have := SP.join_len A B; have := IA.1; have := IB.1; omega) (SP.right_true (SP.rises_norm _))).mono ?_
        rintro e w201 ⟨rfl, hb201⟩
        replace RA := Lib.hid ((RA.out.keep (by repeat' (first | exact Below.refl _ _ | refine balloc ?_ _))).keep hb201)
        replace RB := Lib.hid ((RB.out.keep (by repeat' (first | exact Below.refl _ _ | refine balloc ?_ _))).keep hb201)
        replace RJ := Lib.hid ((RJ.out.keep (by repeat' (first | exact Below.refl _ _ | refine balloc ?_ _))).keep hb201)
        replace RM := Lib.hid ((RM.out.keep (by repeat' (first | exact Below.refl _ _ | refine balloc ?_ _))).keep hb201)
        replace RL := Lib.hid ((RL.out.keep (by repeat' (first | exact Below.refl _ _ | refine balloc ?_ _))).keep hb201)
        replace acck := bnext (w := w) (by repeat' (first | exact acck | refine balloc ?_ _)) hb201
        clear hb201
        go_wp2_with fail
        refine (right_t _ (SP.meet A B) true _ (RM.out.keep (by repeat' (first | exact Below.refl _ _ | refine balloc ?_ _))).row (by have := SP.meet_len A B; have := IA.1; omega) (SP.right_true (SP.rises_norm _))).mono ?_
        rintro e w202 ⟨rfl, hb202⟩
        replace RA := Lib.hid ((RA.out.keep (by repeat' (first | exact Below.refl _ _ | refine balloc ?_ _))).keep hb202)
        replace RB := Lib.hid ((RB.out.keep (by repeat' (first | exact Below.refl _ _ | refine balloc ?_ _))).keep hb202)
        replace RJ := Lib.hid ((RJ.out.keep (by repeat' (first | exact Below.refl _ _ | refine balloc ?_ _))).keep hb202)
        replace RM := Lib.hid ((RM.out.keep (by repeat' (first | exact Below.refl _ _ | refine balloc ?_ _))).keep hb202)
        replace RL := Lib.hid ((RL.out.keep (by repeat' (first | exact Below.refl _ _ | refine balloc ?_ _))).keep hb202)
        replace acck := bnext (w := w) (by repeat' (first | exact acck | refine balloc ?_ _)) hb202
        clear hb202
        go_wp2_with fail
        refine (right_t _ (SP.less A B) true _ (RL.out.keep (by repeat' (first | exact Below.refl _ _ | refine balloc ?_ _))).row (by have := SP.less_len A B; have := IA.1; omega) (SP.right_true (SP.rises_norm _))).mono ?_
        rintro e w203 ⟨rfl, hb203⟩
        replace RA := Lib.hid ((RA.out.keep (by repeat' (first | exact Below.refl _ _ | refine balloc ?_ _))).keep hb203)
        replace RB := Lib.hid ((RB.out.keep (by repeat' (first | exact Below.refl _ _ | refine balloc ?_ _))).keep hb203)
        replace RJ := Lib.hid ((RJ.out.keep (by repeat' (first | exact Below.refl _ _ | refine balloc ?_ _))).keep hb203)
        replace RM := Lib.hid ((RM.out.keep (by repeat' (first | exact Below.refl _ _ | refine balloc ?_ _))).keep hb203)
        replace RL := Lib.hid ((RL.out.keep (by repeat' (first | exact Below.refl _ _ | refine balloc ?_ _))).keep hb203)
        replace acck := bnext (w := w) (by repeat' (first | exact acck | refine balloc ?_ _)) hb203
        clear hb203
        go_wp2_with fail
        refine (overlap_t _ _ A B false _ (RA.out.keep (by repeat' (first | exact Below.refl _ _ | refine balloc ?_ _))).row (RB.out.keep (by repeat' (first | exact Below.refl _ _ | refine balloc ?_ _))).row (IA.r (by decide)) (IB.r (by decide)) HO.out).mono ?_
        rintro e w204 ⟨rfl, hb204⟩
        replace RA := Lib.hid ((RA.out.keep (by repeat' (first | exact Below.refl _ _ | refine balloc ?_ _))).keep hb204)
        replace RB := Lib.hid ((RB.out.keep (by repeat' (first | exact Below.refl _ _ | refine balloc ?_ _))).keep hb204)
        replace RJ := Lib.hid ((RJ.out.keep (by repeat' (first | exact Below.refl _ _ | refine balloc ?_ _))).keep hb204)
        replace RM := Lib.hid ((RM.out.keep (by repeat' (first | exact Below.refl _ _ | refine balloc ?_ _))).keep hb204)
        replace RL := Lib.hid ((RL.out.keep (by repeat' (first | exact Below.refl _ _ | refine balloc ?_ _))).keep hb204)
        replace acck := bnext (w := w) (by repeat' (first | exact acck | refine balloc ?_ _)) hb204
        clear hb204
        have hml := HML.out
        go_wp2_with fail
        go_ret
        exact ⟨rfl, acck⟩
      · have hml : 0 < (SP.meet A B).length := List.length_pos_iff.2 hm
        have HO : Hid (decide (SP.meet A B ≠ []) = true) := Lib.hid (by simp [hm])
        clear hm
        go_wp2_with fail
        refine (right_t _ (SP.join A B) true _ (RJ.out.keep (by repeat' (first | exact Below.refl _ _ | refine balloc ?_ _))).row (by have := SP.join_len A B; have := IA.1; have := IB.1; omega) (SP.right_true (SP.rises_norm _))).mono ?_
        rintro e w201 ⟨rfl, hb201⟩
        replace RA := Lib.hid ((RA.out.keep (by repeat' (first | exact Below.refl _ _ | refine balloc ?_ _))).keep hb201)
        replace RB := Lib.hid ((RB.out.keep (by repeat' (first | exact Below.refl _ _ | refine balloc ?_ _))).keep hb201)
        replace RJ := Lib.hid ((RJ.out.keep (by repeat' (first | exact Below.refl _ _ | refine balloc ?_ _))).keep hb201)
        replace RM := Lib.hid ((RM.out.keep (by repeat' (first | exact Below.refl _ _ | refine balloc ?_ _))).keep hb201)
        replace RL := Lib.hid ((RL.out.keep (by repeat' (first | exact Below.refl _ _ | refine balloc ?_ _))).keep hb201)
        replace acck := bnext (w := w) (by repeat' (first | exact acck | refine balloc ?_ _)) hb201
        clear hb201
        go_wp2_with fail
        refine (right_t _ (SP.meet A B) true _ (RM.out.keep (by repeat' (first | exact Below.refl _ _ | refine balloc ?_ _))).row (by have := SP.meet_len A B; have := IA.1; omega) (SP.right_true (SP.rises_norm _))).mono ?_
        rintro e w202 ⟨rfl, hb202⟩
        replace RA := Lib.hid ((RA.out.keep (by repeat' (first | exact Below.refl _ _ | refine balloc ?_ _))).keep hb202)
        replace RB := Lib.hid ((RB.out.keep (by repeat' (first | exact Below.refl _ _ | refine balloc ?_ _))).keep hb202)
        replace RJ := Lib.hid ((RJ.out.keep (by repeat' (first | exact Below.refl _ _ | refine balloc ?_ _))).keep hb202)
        replace RM := Lib.hid ((RM.out.keep (by repeat' (first | exact Below.refl _ _ | refine balloc ?_ _))).keep hb202)
        replace RL := Lib.hid ((RL.out.keep (by repeat' (first | exact Below.refl _ _ | refine balloc ?_ _))).keep hb202)
        replace acck := bnext (w := w) (by repeat' (first | exact acck | refine balloc ?_ _)) hb202
        clear hb202
        go_wp2_with fail
        refine (right_t _ (SP.less A B) true _ (RL.out.keep (by repeat' (first | exact Below.refl _ _ | refine balloc ?_ _))).row (by have := SP.less_len A B; have := IA.1; omega) (SP.right_true (SP.rises_norm _))).mono ?_
        rintro e w203 ⟨rfl, hb203⟩
        replace RA := Lib.hid ((RA.out.keep (by repeat' (first | exact Below.refl _ _ | refine balloc ?_ _))).keep hb203)
        replace RB := Lib.hid ((RB.out.keep (by repeat' (first | exact Below.refl _ _ | refine balloc ?_ _))).keep hb203)
        replace RJ := Lib.hid ((RJ.out.keep (by repeat' (first | exact Below.refl _ _ | refine balloc ?_ _))).keep hb203)
        replace RM := Lib.hid ((RM.out.keep (by repeat' (first | exact Below.refl _ _ | refine balloc ?_ _))).keep hb203)
        replace RL := Lib.hid ((RL.out.keep (by repeat' (first | exact Below.refl _ _ | refine balloc ?_ _))).keep hb203)
        replace acck := bnext (w := w) (by repeat' (first | exact acck | refine balloc ?_ _)) hb203
        clear hb203
        go_wp2_with fail
        refine (overlap_t _ _ A B true _ (RA.out.keep (by repeat' (first | exact Below.refl _ _ | refine balloc ?_ _))).row (RB.out.keep (by repeat' (first | exact Below.refl _ _ | refine balloc ?_ _))).row (IA.r (by decide)) (IB.r (by decide)) HO.out).mono ?_
        rintro e w204 ⟨rfl, hb204⟩
        replace RA := Lib.hid ((RA.out.keep (by repeat' (first | exact Below.refl _ _ | refine balloc ?_ _))).keep hb204)
        replace RB := Lib.hid ((RB.out.keep (by repeat' (first | exact Below.refl _ _ | refine balloc ?_ _))).keep hb204)
        replace RJ := Lib.hid ((RJ.out.keep (by repeat' (first | exact Below.refl _ _ | refine balloc ?_ _))).keep hb204)
        replace RM := Lib.hid ((RM.out.keep (by repeat' (first | exact Below.refl _ _ | refine balloc ?_ _))).keep hb204)
        replace RL := Lib.hid ((RL.out.keep (by repeat' (first | exact Below.refl _ _ | refine balloc ?_ _))).keep hb204)
        replace acck := bnext (w := w) (by repeat' (first | exact acck | refine balloc ?_ _)) hb204
        clear hb204
        go_wp2_with fail
        go_ret
        exact ⟨rfl, acck⟩

set_option maxRecDepth 100000 in
theorem lifted (os : Os) (started : os.Started) (H : Type) (enc : TypeId × Value → H) :
    ReturnsInHanded {} Try.checked os 5 .any (Rows.setsMembersSpec.pre6 enc Try.prog Try.f5 Rows.setsMembersRow.domain false) (Rows.setsMembersSpec.post enc Try.prog Try.f5 false true false false) := by
  refine returnsInHanded_of_change (C := Try.checked) own started (by kernel_rfl) Try.func5
    (ChangeSpec.witness6 (enc := enc) (C := Try.checked) false ⟨#[], #[.slice none 0 0, .slice none 0 0, .int .i64 0], []⟩ 8 (by kernel_rfl) (by kernel_rfl) (by kernel_rfl) (by kernel_rfl)) ?_
  intro W base args ds gs before hval0 hW hcnd _
  have hval : ∀ (j : Nat) t v, Try.f5.params[j]? = some t → args[j]? = some v → Value.okWide Try.prog W .any base t v := hval0
  have hW' := hW
  obtain ⟨p, q, hA0, hV, rfl, hfz, hnd⟩ := hW
  have hA : DataW.TrodAll enc Try.prog W 0 (fun _ => true) true Try.f5.params.toList args.toList ds p := hA0
  rw [Try.params5] at hA hval
  obtain ⟨v0, vs0, d0, ds0, p0, q0, hargs, rfl, rfl, h0, r0⟩ := trodAll_cons hA
  obtain ⟨v1, vs1, d1, ds1, p1, q1, rfl, rfl, rfl, h1, r1⟩ := trodAll_cons r0
  obtain ⟨v2, vs2, d2, ds2, p2, q2, rfl, rfl, rfl, h2, r2⟩ := trodAll_cons r1
  obtain ⟨rfl, rfl, rfl⟩ := trodAll_nil r2
  obtain rfl : args = #[v0, v1, v2] := by cases args; simp_all
  obtain ⟨rfl, rfl⟩ := trodVars_none hV
  have k0 := h0
  have lt0 : ∀ x ∈ p0, x.block < W.heap.size := by obtain ⟨m, hm⟩ := k0; exact DataW.trod_lt m _ _ _ hm
  have k1 := h1
  have lt1 : ∀ x ∈ p1, x.block < W.heap.size := by obtain ⟨m, hm⟩ := k1; exact DataW.trod_lt m _ _ _ hm
  have k2 := h2
  have lt2 : ∀ x ∈ p2, x.block < W.heap.size := by obtain ⟨m, hm⟩ := k2; exact DataW.trod_lt m _ _ _ hm
  obtain ⟨a0, H0, L0, E0⟩ := open_ls (hval 0 22 v0 rfl rfl) h0
  obtain ⟨a1, H1, L1, E1⟩ := open_ls (hval 1 22 v1 rfl rfl) h1
  obtain ⟨a2, rfl, rfl, rfl, wa2⟩ := open_int Try.underlying3 (hval 2 3 v2 rfl rfl) h2
  clear hA0 hval0
  refine (walk v0 a0 v1 a1 a2 wa2 W H0 L0 E0 H1 L1 E1).mono fun e W' ⟨he, bel⟩ => ?_
  subst he
  exact ⟨_, rfl, _, _, _, [], _, [], hW', trodAll_mk1 (shut_bool Try.underlying4 _), (trodAll_cons_mk (Below.trod laidOut (by kernel_rfl) (of_decide_eq_true (by kernel_rfl)) k0 bel lt0) (trodAll_cons_mk (Below.trod laidOut (by kernel_rfl) (of_decide_eq_true (by kernel_rfl)) k1 bel lt1) (trodAll_cons_mk (Below.trod laidOut (by kernel_rfl) (of_decide_eq_true (by kernel_rfl)) k2 bel lt2) trodAll_mk0))), rfl, bel.frame _, fun h => by cases h⟩

theorem over : Rows.setsMembersRow.holds Try.pinned (OpenSpec.ofChange Rows.setsMembersSpec) :=
  OpenClaim.holds_of_wide 5 Try.f5 rfl rfl rfl rfl rfl rfl rfl ⟨rfl, rfl, rfl, rfl, rfl⟩ rfl rfl rfl rfl rfl (by kernel_rfl) Try.func5 (by kernel_rfl)
    (of_decide_eq_true (by kernel_rfl)) (by unfold Func.isWrapper; first | (rw [if_pos (by decide +kernel)]; kernel_rfl) | (rw [if_neg (by decide +kernel)]; exact ⟨rfl, rfl⟩))
    (fun os started H enc _ => lifted os started H enc)

end Go.Proofs.Ytamhhbgakaokgaa.setsMembers
namespace Go.Proofs.Ytamhhbgakaokgaa
theorem setsMembers_proved : Rows.SetsMembersSaid := setsMembers.over
#print axioms setsMembers_proved
end Go.Proofs.Ytamhhbgakaokgaa
