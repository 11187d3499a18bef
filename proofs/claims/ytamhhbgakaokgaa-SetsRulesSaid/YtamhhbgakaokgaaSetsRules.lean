/- For every two lists SetsRules returns true: neither order nor repetition matters, and numbers add up. No conditions. -/
import Derived.Test.YtamhhbgakaokgaaSetSane
namespace Go.Proofs.Ytamhhbgakaokgaa
def SP.dup : List Int → List Int
  | [] => []
  | x :: l => SP.dup l ++ [x, x]
theorem SP.mem_dup {x : Int} : ∀ l : List Int, x ∈ SP.dup l ↔ x ∈ l
  | [] => by simp [SP.dup]
  | y :: l => by
    unfold SP.dup
    rw [List.mem_append, SP.mem_dup l]
    simp
    constructor
    · rintro (h | h) <;> simp [h]
    · rintro (h | h) <;> simp [h]
theorem SP.dup_len : ∀ l : List Int, (SP.dup l).length = 2 * l.length
  | [] => rfl
  | y :: l => by unfold SP.dup; rw [List.length_append, SP.dup_len l]; simp; omega
theorem SP.dup_next (A : List Int) (k : Nat) (h : k < A.length) : SP.dup (A.drop k) = SP.dup (A.drop (k + 1)) ++ [A[k], A[k]] := by
  rw [List.drop_eq_getElem_cons h]; rfl
end Go.Proofs.Ytamhhbgakaokgaa
namespace Go.Proofs.Ytamhhbgakaokgaa.setsRules
open Go.ChangeShapes Go.WideShapes Go.ChangeAt Go.RowKit Go.Joins Go.Deep Go.Maps
set_option linter.unusedVariables false

set_option maxRecDepth 100000 in
set_option maxHeartbeats 8000000 in
theorem walk (v0 : Value) (a0 : List Int) (v1 : Value) (a1 : List Int)  (w : World) (H0 : Src w v0 (a0.map (Value.int .i64))) (L0 : a0.length ≤ maxLen ∧ ∀ a n c, v0 = .slice a n c → n ≤ c) (E0 : ∀ x, x ∈ a0 → (Lit.int .i64 x).wf = true) (H1 : Src w v1 (a1.map (Value.int .i64))) (L1 : a1.length ≤ maxLen ∧ ∀ a n c, v1 = .slice a n c → n ≤ c) (E1 : ∀ x, x ∈ a1 → (Lit.int .i64 x).wf = true) :
    Calls Try.prog 6 #[v0, v1] w fun e w' => e = .returned (.bool true) ∧ Below w.heap.size w w' := by
  obtain ⟨A, hEA⟩ : ∃ A, a0.take 40 = A := ⟨_, rfl⟩
  have IA : InN 40 A := hEA ▸ InN.take E0
  have HFA := Lib.hid hEA
  clear hEA
  obtain ⟨y0, z0, rfl, _⟩ := H0.out
  rw [iv_len] at H0 ⊢
  have S0 := Lib.hid H0
  have hl0 := L0.1
  have hc0 := Lib.hid L0.2
  rw [iv_len] at hc0
  clear H0 L0 E0
  obtain ⟨B, hEB⟩ : ∃ B, a1.take 40 = B := ⟨_, rfl⟩
  have IB : InN 40 B := hEB ▸ InN.take E1
  have HFB := Lib.hid hEB
  clear hEB
  obtain ⟨y1, z1, rfl, _⟩ := H1.out
  rw [iv_len] at H1 ⊢
  have S1 := Lib.hid H1
  have hl1 := L1.1
  have hc1 := Lib.hid L1.2
  rw [iv_len] at hc1
  clear H1 L1 E1
  obtain ⟨i0, hi, hz0, hz1, hz2⟩ := info_parts info_int
  have acc : Below w.heap.size w w := Below.refl _ _
  go_enter Try.func6, Try.ntmps6
  go_wp2_with fail
  refine (sanity_any _).mono ?_
  rintro e w1 ⟨rfl, hb1⟩
  replace acc := bnext (w := w) (by repeat' (first | exact acc | refine balloc ?_ _ | refine below_drewN ?_ _)) hb1
  clear hb1
  go_wp2_with fail
  refine (few_t _ a0 A _ (S0.out.keep (by repeat' (first | exact acc | refine balloc ?_ _ | refine below_drewN ?_ _))) hl0 hc0.out HFA.out).mono ?_
  rintro e w2 ⟨u2, rfl, h2, hb2⟩
  obtain ⟨p2, q2, rfl⟩ := own_shape h2
  replace acc := bnext (w := w) (by repeat' (first | exact acc | refine balloc ?_ _ | refine below_drewN ?_ _)) hb2
  have RA := Lib.hid (Own.lst h2)
  clear h2 hb2
  go_wp2_with fail
  refine (few_t _ a1 B _ (S1.out.keep (by repeat' (first | exact acc | refine balloc ?_ _ | refine below_drewN ?_ _))) hl1 hc1.out HFB.out).mono ?_
  rintro e w3 ⟨u3, rfl, h3, hb3⟩
  obtain ⟨p3, q3, rfl⟩ := own_shape h3
  replace RA := Lib.hid ((RA.out.keep (by repeat' (first | exact Below.refl _ _ | refine balloc ?_ _ | refine below_drewN ?_ _))).keep hb3)
  replace acc := bnext (w := w) (by repeat' (first | exact acc | refine balloc ?_ _ | refine below_drewN ?_ _)) hb3
  have RB := Lib.hid (Own.lst h3)
  clear h3 hb3
  have hA4 := IA.1
  go_wp2_with fail
  go_loopw [6, 7] (fun v i wr => ∃ k : Nat, k ≤ A.length ∧ i = .int .i64 ((k : Int) - 1) ∧ wr.ownsRow w3.heap.size 3 1 v (SP.dup (A.drop k)).length (iv (SP.dup (A.drop k))) ∧ Below w3.heap.size w3 wr) (fun _ i _ => (intOf i + 1).toNat)
  case atStart => exact ⟨A.length, Nat.le_refl _, rfl, by simpa [SP.dup] using World.ownsRow_nil _ _ _ _, Below.refl _ _⟩
  case round =>
    obtain ⟨k, hk, rfl, hown, hb⟩ := hrel
    have hwr := hb.size
    have hdl := SP.dup_len (A.drop k)
    have hdl2 : (A.drop k).length = A.length - k := by simp
    rw [hdl2] at hdl
    clear hdl2
    have hown0 := Lib.hid hown
    obtain ⟨M, hM⟩ : ∃ M, SP.dup (A.drop k) = M := ⟨_, rfl⟩
    rw [hM] at hown hown0 hdl
    have hMl : M.length ≤ 80 := by omega
    have hMl2 : M.length + 2 ≤ 82 := by omega
    clear hdl
    obtain ⟨va, vc, rfl⟩ := own_shape hown
    by_cases hkl : 0 < k
    · obtain ⟨j, rfl⟩ : ∃ j, k = j + 1 := ⟨k - 1, by omega⟩
      have hjl : j < A.length := by omega
      obtain ⟨g, o, rfl, hg, hc⟩ := RA.out.row.cell (k := j) (by simpa using hjl)
      simp only [List.getElem_map] at hc
      have HN : Hid (SP.dup (A.drop j) = M ++ [A[j], A[j]]) := Lib.hid (by rw [← hM]; exact SP.dup_next A j hjl)
      obtain ⟨x, hx⟩ : ∃ x, A[j] = x := ⟨_, rfl⟩
      rw [hx] at hc HN
      replace hc := (hb.cell (p := ⟨g, o + j, none⟩) hg).trans hc
      have hne : Value.ownBlock (.slice va M.length vc) ≠ some g := fun e => by have := (hown.lt g e).1; omega
      have hgl : g < wr.heap.size := Nat.lt_of_lt_of_le hg hb.size
      have hji : (j : Int) < (A.length : Int) := by omega
      have ek : ((j + 1 : Nat) : Int) - 1 = (j : Int) := by omega
      rw [ek]
      clear hx hM ek hkl
      go_wp2_with fail
      go_region_held3 (fun w' => w'.cell? ⟨g, o + j, none⟩ = some (.int .i64 x))
        (first | go_keep | (rw [hgrow.cell_far _ (by simp; omega) (Ne.symm hne)]; assumption))
        ((refine step_append_lies _ (by rfl) _ _ _ (by rfl) w3.heap.size 3 i0 _ 1 8 Try.underlying22 hi hz0 hz1 hz2 rfl (by omega) (.slice va M.length vc) _ _ (by rfl) ((hown0.out.alloc _).drew)
            ⟨wr.heap.size, 0, none⟩ 2 2 [.int .i64 x, .int .i64 x] (by rfl) (by rfl) (World.news_of_block (cs := #[.int .i64 x, .int .i64 x]) (t := 3) (fr := (0, 0)) (heap_alloc_new wr _)) (by simp [Value.oneCell'])
            (by omega) (by unfold maxLen; omega) (by omega) (by simp; omega) (wr.heap.size + 1) (by simp) ?_; intro gg cap' w1 hown1 hgrow hat hlt))
      have hB : Below w3.heap.size w3 w1 := ((hb.alloc hwr _).drew).grown hgrow (by simp; omega) (fun j hj => (hown.lt j hj).1)
      replace hown1 := own_iv hown1 (M ++ [x, x]) (by simp)
      have HO := Lib.hid hown1
      clear hgrow hat hlt hown0 hown hown1
      go_wp2
      go_roundw
      case rel => exact ⟨j, by omega, rfl, by rw [HN.out]; exact HO.out, hB⟩
      case measure => simp [intOf] <;> omega
    · obtain rfl : k = 0 := by omega
      rw [List.drop_zero] at hM
      have RK := Lib.hid (own_lst hown)
      have IK : InN 80 M := ⟨by omega, fun x hx => IA.2 x ((SP.mem_dup A).1 (hM ▸ hx))⟩
      have HKm : Hid (∀ x, x ∈ M ↔ x ∈ A) := Lib.hid (fun x => by rw [← hM]; exact SP.mem_dup A)
      replace RA := Lib.hid (RA.out.keep hb)
      replace RB := Lib.hid (RB.out.keep hb)
      replace acc := bnext (w := w) acc hb
      clear hown hown0 hM hb hwr
      go_wp2_with fail
      refine (join_any _ _ A B _ (RA.out.keep (by repeat' (first | exact Below.refl _ _ | refine balloc ?_ _ | refine below_drewN ?_ _))).row (RB.out.keep (by repeat' (first | exact Below.refl _ _ | refine balloc ?_ _ | refine below_drewN ?_ _))).row (IA.r (by decide)) (IB.r (by decide))).mono ?_
      rintro e w4 ⟨u4, rfl, h4, hb4⟩
      obtain ⟨p4, q4, rfl⟩ := own_shape h4
      replace RA := Lib.hid ((RA.out.keep (by repeat' (first | exact Below.refl _ _ | refine balloc ?_ _ | refine below_drewN ?_ _))).keep hb4)
      replace RB := Lib.hid ((RB.out.keep (by repeat' (first | exact Below.refl _ _ | refine balloc ?_ _ | refine below_drewN ?_ _))).keep hb4)
      replace RK := Lib.hid ((RK.out.keep (by repeat' (first | exact Below.refl _ _ | refine balloc ?_ _ | refine below_drewN ?_ _))).keep hb4)
      replace acc := bnext (w := w) (by repeat' (first | exact acc | refine balloc ?_ _ | refine below_drewN ?_ _)) hb4
      have RJ := Lib.hid (Own.lst h4)
      clear h4 hb4
      go_wp2_with fail
      refine (meet_any _ _ A B _ (RA.out.keep (by repeat' (first | exact Below.refl _ _ | refine balloc ?_ _ | refine below_drewN ?_ _))).row (RB.out.keep (by repeat' (first | exact Below.refl _ _ | refine balloc ?_ _ | refine below_drewN ?_ _))).row (IA.r (by decide)) (IB.r (by decide))).mono ?_
      rintro e w5 ⟨u5, rfl, h5, hb5⟩
      obtain ⟨p5, q5, rfl⟩ := own_shape h5
      replace RA := Lib.hid ((RA.out.keep (by repeat' (first | exact Below.refl _ _ | refine balloc ?_ _ | refine below_drewN ?_ _))).keep hb5)
      replace RB := Lib.hid ((RB.out.keep (by repeat' (first | exact Below.refl _ _ | refine balloc ?_ _ | refine below_drewN ?_ _))).keep hb5)
      replace RK := Lib.hid ((RK.out.keep (by repeat' (first | exact Below.refl _ _ | refine balloc ?_ _ | refine below_drewN ?_ _))).keep hb5)
      replace RJ := Lib.hid ((RJ.out.keep (by repeat' (first | exact Below.refl _ _ | refine balloc ?_ _ | refine below_drewN ?_ _))).keep hb5)
      replace acc := bnext (w := w) (by repeat' (first | exact acc | refine balloc ?_ _ | refine below_drewN ?_ _)) hb5
      have RM := Lib.hid (Own.lst h5)
      clear h5 hb5
      go_wp2_with fail
      refine (less_any _ _ A B _ (RA.out.keep (by repeat' (first | exact Below.refl _ _ | refine balloc ?_ _ | refine below_drewN ?_ _))).row (RB.out.keep (by repeat' (first | exact Below.refl _ _ | refine balloc ?_ _ | refine below_drewN ?_ _))).row (IA.r (by decide)) (IB.r (by decide))).mono ?_
      rintro e w6 ⟨u6, rfl, h6, hb6⟩
      obtain ⟨p6, q6, rfl⟩ := own_shape h6
      replace RA := Lib.hid ((RA.out.keep (by repeat' (first | exact Below.refl _ _ | refine balloc ?_ _ | refine below_drewN ?_ _))).keep hb6)
      replace RB := Lib.hid ((RB.out.keep (by repeat' (first | exact Below.refl _ _ | refine balloc ?_ _ | refine below_drewN ?_ _))).keep hb6)
      replace RK := Lib.hid ((RK.out.keep (by repeat' (first | exact Below.refl _ _ | refine balloc ?_ _ | refine below_drewN ?_ _))).keep hb6)
      replace RJ := Lib.hid ((RJ.out.keep (by repeat' (first | exact Below.refl _ _ | refine balloc ?_ _ | refine below_drewN ?_ _))).keep hb6)
      replace RM := Lib.hid ((RM.out.keep (by repeat' (first | exact Below.refl _ _ | refine balloc ?_ _ | refine below_drewN ?_ _))).keep hb6)
      replace acc := bnext (w := w) (by repeat' (first | exact acc | refine balloc ?_ _ | refine below_drewN ?_ _)) hb6
      have RL := Lib.hid (Own.lst h6)
      clear h6 hb6
      go_wp2_with fail
      refine (join_any _ _ B M _ (RB.out.keep (by repeat' (first | exact Below.refl _ _ | refine balloc ?_ _ | refine below_drewN ?_ _))).row (RK.out.keep (by repeat' (first | exact Below.refl _ _ | refine balloc ?_ _ | refine below_drewN ?_ _))).row (IB.r (by decide)) (IK.r (by decide))).mono ?_
      rintro e w7 ⟨u7, rfl, h7, hb7⟩
      obtain ⟨p7, q7, rfl⟩ := own_shape h7
      replace RA := Lib.hid ((RA.out.keep (by repeat' (first | exact Below.refl _ _ | refine balloc ?_ _ | refine below_drewN ?_ _))).keep hb7)
      replace RB := Lib.hid ((RB.out.keep (by repeat' (first | exact Below.refl _ _ | refine balloc ?_ _ | refine below_drewN ?_ _))).keep hb7)
      replace RK := Lib.hid ((RK.out.keep (by repeat' (first | exact Below.refl _ _ | refine balloc ?_ _ | refine below_drewN ?_ _))).keep hb7)
      replace RJ := Lib.hid ((RJ.out.keep (by repeat' (first | exact Below.refl _ _ | refine balloc ?_ _ | refine below_drewN ?_ _))).keep hb7)
      replace RM := Lib.hid ((RM.out.keep (by repeat' (first | exact Below.refl _ _ | refine balloc ?_ _ | refine below_drewN ?_ _))).keep hb7)
      replace RL := Lib.hid ((RL.out.keep (by repeat' (first | exact Below.refl _ _ | refine balloc ?_ _ | refine below_drewN ?_ _))).keep hb7)
      replace acc := bnext (w := w) (by repeat' (first | exact acc | refine balloc ?_ _ | refine below_drewN ?_ _)) hb7
      have N4 := Lib.hid (Own.lst h7)
      clear h7 hb7
      go_wp2_with fail
      refine (same_t _ _ (SP.join A B) (SP.join B M) _ (RJ.out.keep (by repeat' (first | exact Below.refl _ _ | refine balloc ?_ _ | refine below_drewN ?_ _))).row (N4.out.keep (by repeat' (first | exact Below.refl _ _ | refine balloc ?_ _ | refine below_drewN ?_ _))).row (SP.rises_ext (SP.rises_norm _) (SP.rises_norm _) (fun x => by have hK := HKm.out x; by_cases h1 : x ∈ A <;> by_cases h2 : x ∈ B <;> simp [SP.mem_join, SP.mem_meet, SP.mem_less, SP.mem_norm, h1, h2] at hK ⊢ <;> simp [hK])) (Nat.le_trans (InN.join IA IB).1 (by decide))).mono ?_
      rintro e w8 ⟨rfl, hb8⟩
      replace RA := Lib.hid ((RA.out.keep (by repeat' (first | exact Below.refl _ _ | refine balloc ?_ _ | refine below_drewN ?_ _))).keep hb8)
      replace RB := Lib.hid ((RB.out.keep (by repeat' (first | exact Below.refl _ _ | refine balloc ?_ _ | refine below_drewN ?_ _))).keep hb8)
      replace RK := Lib.hid ((RK.out.keep (by repeat' (first | exact Below.refl _ _ | refine balloc ?_ _ | refine below_drewN ?_ _))).keep hb8)
      replace RJ := Lib.hid ((RJ.out.keep (by repeat' (first | exact Below.refl _ _ | refine balloc ?_ _ | refine below_drewN ?_ _))).keep hb8)
      replace RM := Lib.hid ((RM.out.keep (by repeat' (first | exact Below.refl _ _ | refine balloc ?_ _ | refine below_drewN ?_ _))).keep hb8)
      replace RL := Lib.hid ((RL.out.keep (by repeat' (first | exact Below.refl _ _ | refine balloc ?_ _ | refine below_drewN ?_ _))).keep hb8)
      replace N4 := Lib.hid ((N4.out.keep (by repeat' (first | exact Below.refl _ _ | refine balloc ?_ _ | refine below_drewN ?_ _))).keep hb8)
      replace acc := bnext (w := w) (by repeat' (first | exact acc | refine balloc ?_ _ | refine below_drewN ?_ _)) hb8
      clear hb8
      clear N4
      go_wp2_with fail
      refine (meet_any _ _ B M _ (RB.out.keep (by repeat' (first | exact Below.refl _ _ | refine balloc ?_ _ | refine below_drewN ?_ _))).row (RK.out.keep (by repeat' (first | exact Below.refl _ _ | refine balloc ?_ _ | refine below_drewN ?_ _))).row (IB.r (by decide)) (IK.r (by decide))).mono ?_
      rintro e w9 ⟨u9, rfl, h9, hb9⟩
      obtain ⟨p9, q9, rfl⟩ := own_shape h9
      replace RA := Lib.hid ((RA.out.keep (by repeat' (first | exact Below.refl _ _ | refine balloc ?_ _ | refine below_drewN ?_ _))).keep hb9)
      replace RB := Lib.hid ((RB.out.keep (by repeat' (first | exact Below.refl _ _ | refine balloc ?_ _ | refine below_drewN ?_ _))).keep hb9)
      replace RK := Lib.hid ((RK.out.keep (by repeat' (first | exact Below.refl _ _ | refine balloc ?_ _ | refine below_drewN ?_ _))).keep hb9)
      replace RJ := Lib.hid ((RJ.out.keep (by repeat' (first | exact Below.refl _ _ | refine balloc ?_ _ | refine below_drewN ?_ _))).keep hb9)
      replace RM := Lib.hid ((RM.out.keep (by repeat' (first | exact Below.refl _ _ | refine balloc ?_ _ | refine below_drewN ?_ _))).keep hb9)
      replace RL := Lib.hid ((RL.out.keep (by repeat' (first | exact Below.refl _ _ | refine balloc ?_ _ | refine below_drewN ?_ _))).keep hb9)
      replace acc := bnext (w := w) (by repeat' (first | exact acc | refine balloc ?_ _ | refine below_drewN ?_ _)) hb9
      have N5 := Lib.hid (Own.lst h9)
      clear h9 hb9
      go_wp2_with fail
      refine (same_t _ _ (SP.meet A B) (SP.meet B M) _ (RM.out.keep (by repeat' (first | exact Below.refl _ _ | refine balloc ?_ _ | refine below_drewN ?_ _))).row (N5.out.keep (by repeat' (first | exact Below.refl _ _ | refine balloc ?_ _ | refine below_drewN ?_ _))).row (SP.rises_ext (SP.rises_norm _) (SP.rises_norm _) (fun x => by have hK := HKm.out x; by_cases h1 : x ∈ A <;> by_cases h2 : x ∈ B <;> simp [SP.mem_join, SP.mem_meet, SP.mem_less, SP.mem_norm, h1, h2] at hK ⊢ <;> simp [hK])) (Nat.le_trans (InN.meet IA).1 (by decide))).mono ?_
      rintro e w10 ⟨rfl, hb10⟩
      replace RA := Lib.hid ((RA.out.keep (by repeat' (first | exact Below.refl _ _ | refine balloc ?_ _ | refine below_drewN ?_ _))).keep hb10)
      replace RB := Lib.hid ((RB.out.keep (by repeat' (first | exact Below.refl _ _ | refine balloc ?_ _ | refine below_drewN ?_ _))).keep hb10)
      replace RK := Lib.hid ((RK.out.keep (by repeat' (first | exact Below.refl _ _ | refine balloc ?_ _ | refine below_drewN ?_ _))).keep hb10)
      replace RJ := Lib.hid ((RJ.out.keep (by repeat' (first | exact Below.refl _ _ | refine balloc ?_ _ | refine below_drewN ?_ _))).keep hb10)
      replace RM := Lib.hid ((RM.out.keep (by repeat' (first | exact Below.refl _ _ | refine balloc ?_ _ | refine below_drewN ?_ _))).keep hb10)
      replace RL := Lib.hid ((RL.out.keep (by repeat' (first | exact Below.refl _ _ | refine balloc ?_ _ | refine below_drewN ?_ _))).keep hb10)
      replace N5 := Lib.hid ((N5.out.keep (by repeat' (first | exact Below.refl _ _ | refine balloc ?_ _ | refine below_drewN ?_ _))).keep hb10)
      replace acc := bnext (w := w) (by repeat' (first | exact acc | refine balloc ?_ _ | refine below_drewN ?_ _)) hb10
      clear hb10
      clear N5
      go_wp2_with fail
      refine (less_any _ _ M B _ (RK.out.keep (by repeat' (first | exact Below.refl _ _ | refine balloc ?_ _ | refine below_drewN ?_ _))).row (RB.out.keep (by repeat' (first | exact Below.refl _ _ | refine balloc ?_ _ | refine below_drewN ?_ _))).row (IK.r (by decide)) (IB.r (by decide))).mono ?_
      rintro e w11 ⟨u11, rfl, h11, hb11⟩
      obtain ⟨p11, q11, rfl⟩ := own_shape h11
      replace RA := Lib.hid ((RA.out.keep (by repeat' (first | exact Below.refl _ _ | refine balloc ?_ _ | refine below_drewN ?_ _))).keep hb11)
      replace RB := Lib.hid ((RB.out.keep (by repeat' (first | exact Below.refl _ _ | refine balloc ?_ _ | refine below_drewN ?_ _))).keep hb11)
      replace RK := Lib.hid ((RK.out.keep (by repeat' (first | exact Below.refl _ _ | refine balloc ?_ _ | refine below_drewN ?_ _))).keep hb11)
      replace RJ := Lib.hid ((RJ.out.keep (by repeat' (first | exact Below.refl _ _ | refine balloc ?_ _ | refine below_drewN ?_ _))).keep hb11)
      replace RM := Lib.hid ((RM.out.keep (by repeat' (first | exact Below.refl _ _ | refine balloc ?_ _ | refine below_drewN ?_ _))).keep hb11)
      replace RL := Lib.hid ((RL.out.keep (by repeat' (first | exact Below.refl _ _ | refine balloc ?_ _ | refine below_drewN ?_ _))).keep hb11)
      replace acc := bnext (w := w) (by repeat' (first | exact acc | refine balloc ?_ _ | refine below_drewN ?_ _)) hb11
      have N6 := Lib.hid (Own.lst h11)
      clear h11 hb11
      go_wp2_with fail
      refine (same_t _ _ (SP.less A B) (SP.less M B) _ (RL.out.keep (by repeat' (first | exact Below.refl _ _ | refine balloc ?_ _ | refine below_drewN ?_ _))).row (N6.out.keep (by repeat' (first | exact Below.refl _ _ | refine balloc ?_ _ | refine below_drewN ?_ _))).row (SP.rises_ext (SP.rises_norm _) (SP.rises_norm _) (fun x => by have hK := HKm.out x; by_cases h1 : x ∈ A <;> by_cases h2 : x ∈ B <;> simp [SP.mem_join, SP.mem_meet, SP.mem_less, SP.mem_norm, h1, h2] at hK ⊢ <;> simp [hK])) (Nat.le_trans (InN.less IA).1 (by decide))).mono ?_
      rintro e w12 ⟨rfl, hb12⟩
      replace RA := Lib.hid ((RA.out.keep (by repeat' (first | exact Below.refl _ _ | refine balloc ?_ _ | refine below_drewN ?_ _))).keep hb12)
      replace RB := Lib.hid ((RB.out.keep (by repeat' (first | exact Below.refl _ _ | refine balloc ?_ _ | refine below_drewN ?_ _))).keep hb12)
      replace RK := Lib.hid ((RK.out.keep (by repeat' (first | exact Below.refl _ _ | refine balloc ?_ _ | refine below_drewN ?_ _))).keep hb12)
      replace RJ := Lib.hid ((RJ.out.keep (by repeat' (first | exact Below.refl _ _ | refine balloc ?_ _ | refine below_drewN ?_ _))).keep hb12)
      replace RM := Lib.hid ((RM.out.keep (by repeat' (first | exact Below.refl _ _ | refine balloc ?_ _ | refine below_drewN ?_ _))).keep hb12)
      replace RL := Lib.hid ((RL.out.keep (by repeat' (first | exact Below.refl _ _ | refine balloc ?_ _ | refine below_drewN ?_ _))).keep hb12)
      replace N6 := Lib.hid ((N6.out.keep (by repeat' (first | exact Below.refl _ _ | refine balloc ?_ _ | refine below_drewN ?_ _))).keep hb12)
      replace acc := bnext (w := w) (by repeat' (first | exact acc | refine balloc ?_ _ | refine below_drewN ?_ _)) hb12
      clear hb12
      clear N6
      have HOV : Hid (decide (SP.meet (SP.meet A B) (SP.less A B) ≠ []) = false) := Lib.hid (by rw [decide_eq_false_iff_not, Classical.not_not]; refine List.eq_nil_iff_forall_not_mem.2 fun x hx => ?_; rw [SP.mem_meet, SP.mem_meet, SP.mem_less] at hx; exact hx.2.2 hx.1.2)
      go_wp2_with fail
      refine (overlap_t _ _ (SP.meet A B) (SP.less A B) false _ (RM.out.keep (by repeat' (first | exact Below.refl _ _ | refine balloc ?_ _ | refine below_drewN ?_ _))).row (RL.out.keep (by repeat' (first | exact Below.refl _ _ | refine balloc ?_ _ | refine below_drewN ?_ _))).row ((InN.meet IA).r (by decide)) ((InN.less IA).r (by decide)) HOV.out).mono ?_
      rintro e w13 ⟨rfl, hb13⟩
      replace RA := Lib.hid ((RA.out.keep (by repeat' (first | exact Below.refl _ _ | refine balloc ?_ _ | refine below_drewN ?_ _))).keep hb13)
      replace RB := Lib.hid ((RB.out.keep (by repeat' (first | exact Below.refl _ _ | refine balloc ?_ _ | refine below_drewN ?_ _))).keep hb13)
      replace RK := Lib.hid ((RK.out.keep (by repeat' (first | exact Below.refl _ _ | refine balloc ?_ _ | refine below_drewN ?_ _))).keep hb13)
      replace RJ := Lib.hid ((RJ.out.keep (by repeat' (first | exact Below.refl _ _ | refine balloc ?_ _ | refine below_drewN ?_ _))).keep hb13)
      replace RM := Lib.hid ((RM.out.keep (by repeat' (first | exact Below.refl _ _ | refine balloc ?_ _ | refine below_drewN ?_ _))).keep hb13)
      replace RL := Lib.hid ((RL.out.keep (by repeat' (first | exact Below.refl _ _ | refine balloc ?_ _ | refine below_drewN ?_ _))).keep hb13)
      replace acc := bnext (w := w) (by repeat' (first | exact acc | refine balloc ?_ _ | refine below_drewN ?_ _)) hb13
      clear hb13
      go_wp2_with fail
      refine (join_any _ _ (SP.meet A B) (SP.less A B) _ (RM.out.keep (by repeat' (first | exact Below.refl _ _ | refine balloc ?_ _ | refine below_drewN ?_ _))).row (RL.out.keep (by repeat' (first | exact Below.refl _ _ | refine balloc ?_ _ | refine below_drewN ?_ _))).row ((InN.meet IA).r (by decide)) ((InN.less IA).r (by decide))).mono ?_
      rintro e w14 ⟨u14, rfl, h14, hb14⟩
      obtain ⟨p14, q14, rfl⟩ := own_shape h14
      replace RA := Lib.hid ((RA.out.keep (by repeat' (first | exact Below.refl _ _ | refine balloc ?_ _ | refine below_drewN ?_ _))).keep hb14)
      replace RB := Lib.hid ((RB.out.keep (by repeat' (first | exact Below.refl _ _ | refine balloc ?_ _ | refine below_drewN ?_ _))).keep hb14)
      replace RK := Lib.hid ((RK.out.keep (by repeat' (first | exact Below.refl _ _ | refine balloc ?_ _ | refine below_drewN ?_ _))).keep hb14)
      replace RJ := Lib.hid ((RJ.out.keep (by repeat' (first | exact Below.refl _ _ | refine balloc ?_ _ | refine below_drewN ?_ _))).keep hb14)
      replace RM := Lib.hid ((RM.out.keep (by repeat' (first | exact Below.refl _ _ | refine balloc ?_ _ | refine below_drewN ?_ _))).keep hb14)
      replace RL := Lib.hid ((RL.out.keep (by repeat' (first | exact Below.refl _ _ | refine balloc ?_ _ | refine below_drewN ?_ _))).keep hb14)
      replace acc := bnext (w := w) (by repeat' (first | exact acc | refine balloc ?_ _ | refine below_drewN ?_ _)) hb14
      have N7 := Lib.hid (Own.lst h14)
      clear h14 hb14
      go_wp2_with fail
      refine (norm_any _ A _ (RA.out.keep (by repeat' (first | exact Below.refl _ _ | refine balloc ?_ _ | refine below_drewN ?_ _))).row (IA.r (by decide))).mono ?_
      rintro e w15 ⟨u15, rfl, h15, hb15⟩
      obtain ⟨p15, q15, rfl⟩ := own_shape h15
      replace RA := Lib.hid ((RA.out.keep (by repeat' (first | exact Below.refl _ _ | refine balloc ?_ _ | refine below_drewN ?_ _))).keep hb15)
      replace RB := Lib.hid ((RB.out.keep (by repeat' (first | exact Below.refl _ _ | refine balloc ?_ _ | refine below_drewN ?_ _))).keep hb15)
      replace RK := Lib.hid ((RK.out.keep (by repeat' (first | exact Below.refl _ _ | refine balloc ?_ _ | refine below_drewN ?_ _))).keep hb15)
      replace RJ := Lib.hid ((RJ.out.keep (by repeat' (first | exact Below.refl _ _ | refine balloc ?_ _ | refine below_drewN ?_ _))).keep hb15)
      replace RM := Lib.hid ((RM.out.keep (by repeat' (first | exact Below.refl _ _ | refine balloc ?_ _ | refine below_drewN ?_ _))).keep hb15)
      replace RL := Lib.hid ((RL.out.keep (by repeat' (first | exact Below.refl _ _ | refine balloc ?_ _ | refine below_drewN ?_ _))).keep hb15)
      replace N7 := Lib.hid ((N7.out.keep (by repeat' (first | exact Below.refl _ _ | refine balloc ?_ _ | refine below_drewN ?_ _))).keep hb15)
      replace acc := bnext (w := w) (by repeat' (first | exact acc | refine balloc ?_ _ | refine below_drewN ?_ _)) hb15
      have N8 := Lib.hid (Own.lst h15)
      clear h15 hb15
      go_wp2_with fail
      refine (same_t _ _ (SP.join (SP.meet A B) (SP.less A B)) (SP.norm A) _ (N7.out.keep (by repeat' (first | exact Below.refl _ _ | refine balloc ?_ _ | refine below_drewN ?_ _))).row (N8.out.keep (by repeat' (first | exact Below.refl _ _ | refine balloc ?_ _ | refine below_drewN ?_ _))).row (SP.rises_ext (SP.rises_norm _) (SP.rises_norm _) (fun x => by by_cases h1 : x ∈ A <;> by_cases h2 : x ∈ B <;> simp [SP.mem_join, SP.mem_meet, SP.mem_less, SP.mem_norm, h1, h2])) (Nat.le_trans (InN.join (InN.meet IA) (InN.less IA)).1 (by decide))).mono ?_
      rintro e w16 ⟨rfl, hb16⟩
      replace RA := Lib.hid ((RA.out.keep (by repeat' (first | exact Below.refl _ _ | refine balloc ?_ _ | refine below_drewN ?_ _))).keep hb16)
      replace RB := Lib.hid ((RB.out.keep (by repeat' (first | exact Below.refl _ _ | refine balloc ?_ _ | refine below_drewN ?_ _))).keep hb16)
      replace RK := Lib.hid ((RK.out.keep (by repeat' (first | exact Below.refl _ _ | refine balloc ?_ _ | refine below_drewN ?_ _))).keep hb16)
      replace RJ := Lib.hid ((RJ.out.keep (by repeat' (first | exact Below.refl _ _ | refine balloc ?_ _ | refine below_drewN ?_ _))).keep hb16)
      replace RM := Lib.hid ((RM.out.keep (by repeat' (first | exact Below.refl _ _ | refine balloc ?_ _ | refine below_drewN ?_ _))).keep hb16)
      replace RL := Lib.hid ((RL.out.keep (by repeat' (first | exact Below.refl _ _ | refine balloc ?_ _ | refine below_drewN ?_ _))).keep hb16)
      replace N7 := Lib.hid ((N7.out.keep (by repeat' (first | exact Below.refl _ _ | refine balloc ?_ _ | refine below_drewN ?_ _))).keep hb16)
      replace N8 := Lib.hid ((N8.out.keep (by repeat' (first | exact Below.refl _ _ | refine balloc ?_ _ | refine below_drewN ?_ _))).keep hb16)
      replace acc := bnext (w := w) (by repeat' (first | exact acc | refine balloc ?_ _ | refine below_drewN ?_ _)) hb16
      clear hb16
      clear N7
      clear N8
      have b1 := Nat.le_trans (SP.join_len A B) (Nat.add_le_add IA.1 IB.1)
      have b2 := Nat.le_trans (SP.meet_len A B) IA.1
      have b3 := Nat.le_trans (SP.norm_len A) IA.1
      have b4 := Nat.le_trans (SP.norm_len B) IB.1
      go_wp2_with fail
      refine (norm_any _ A _ (RA.out.keep (by repeat' (first | exact Below.refl _ _ | refine balloc ?_ _ | refine below_drewN ?_ _))).row (IA.r (by decide))).mono ?_
      rintro e w17 ⟨u17, rfl, h17, hb17⟩
      obtain ⟨p17, q17, rfl⟩ := own_shape h17
      replace RA := Lib.hid ((RA.out.keep (by repeat' (first | exact Below.refl _ _ | refine balloc ?_ _ | refine below_drewN ?_ _))).keep hb17)
      replace RB := Lib.hid ((RB.out.keep (by repeat' (first | exact Below.refl _ _ | refine balloc ?_ _ | refine below_drewN ?_ _))).keep hb17)
      replace RK := Lib.hid ((RK.out.keep (by repeat' (first | exact Below.refl _ _ | refine balloc ?_ _ | refine below_drewN ?_ _))).keep hb17)
      replace RJ := Lib.hid ((RJ.out.keep (by repeat' (first | exact Below.refl _ _ | refine balloc ?_ _ | refine below_drewN ?_ _))).keep hb17)
      replace RM := Lib.hid ((RM.out.keep (by repeat' (first | exact Below.refl _ _ | refine balloc ?_ _ | refine below_drewN ?_ _))).keep hb17)
      replace RL := Lib.hid ((RL.out.keep (by repeat' (first | exact Below.refl _ _ | refine balloc ?_ _ | refine below_drewN ?_ _))).keep hb17)
      replace acc := bnext (w := w) (by repeat' (first | exact acc | refine balloc ?_ _ | refine below_drewN ?_ _)) hb17
      have RX := Lib.hid (Own.lst h17)
      clear h17 hb17
      go_wp2_with fail
      refine (norm_any _ B _ (RB.out.keep (by repeat' (first | exact Below.refl _ _ | refine balloc ?_ _ | refine below_drewN ?_ _))).row (IB.r (by decide))).mono ?_
      rintro e w18 ⟨u18, rfl, h18, hb18⟩
      obtain ⟨p18, q18, rfl⟩ := own_shape h18
      replace RA := Lib.hid ((RA.out.keep (by repeat' (first | exact Below.refl _ _ | refine balloc ?_ _ | refine below_drewN ?_ _))).keep hb18)
      replace RB := Lib.hid ((RB.out.keep (by repeat' (first | exact Below.refl _ _ | refine balloc ?_ _ | refine below_drewN ?_ _))).keep hb18)
      replace RK := Lib.hid ((RK.out.keep (by repeat' (first | exact Below.refl _ _ | refine balloc ?_ _ | refine below_drewN ?_ _))).keep hb18)
      replace RJ := Lib.hid ((RJ.out.keep (by repeat' (first | exact Below.refl _ _ | refine balloc ?_ _ | refine below_drewN ?_ _))).keep hb18)
      replace RM := Lib.hid ((RM.out.keep (by repeat' (first | exact Below.refl _ _ | refine balloc ?_ _ | refine below_drewN ?_ _))).keep hb18)
      replace RL := Lib.hid ((RL.out.keep (by repeat' (first | exact Below.refl _ _ | refine balloc ?_ _ | refine below_drewN ?_ _))).keep hb18)
      replace RX := Lib.hid ((RX.out.keep (by repeat' (first | exact Below.refl _ _ | refine balloc ?_ _ | refine below_drewN ?_ _))).keep hb18)
      replace acc := bnext (w := w) (by repeat' (first | exact acc | refine balloc ?_ _ | refine below_drewN ?_ _)) hb18
      have RY := Lib.hid (Own.lst h18)
      clear h18 hb18
      have hs := SP.sum_len A B
      have hsum : (((SP.join A B).length : Int) + ((SP.meet A B).length : Int) == ((SP.norm A).length : Int) + ((SP.norm B).length : Int)) = true := by simp; omega
      clear hs
      go_wp2_with fail
      refine (norm_any _ (SP.join A B) _ (RJ.out.keep (by repeat' (first | exact Below.refl _ _ | refine balloc ?_ _ | refine below_drewN ?_ _))).row ((InN.join IA IB).r (by decide))).mono ?_
      rintro e w19 ⟨u19, rfl, h19, hb19⟩
      obtain ⟨p19, q19, rfl⟩ := own_shape h19
      replace RA := Lib.hid ((RA.out.keep (by repeat' (first | exact Below.refl _ _ | refine balloc ?_ _ | refine below_drewN ?_ _))).keep hb19)
      replace RB := Lib.hid ((RB.out.keep (by repeat' (first | exact Below.refl _ _ | refine balloc ?_ _ | refine below_drewN ?_ _))).keep hb19)
      replace RK := Lib.hid ((RK.out.keep (by repeat' (first | exact Below.refl _ _ | refine balloc ?_ _ | refine below_drewN ?_ _))).keep hb19)
      replace RJ := Lib.hid ((RJ.out.keep (by repeat' (first | exact Below.refl _ _ | refine balloc ?_ _ | refine below_drewN ?_ _))).keep hb19)
      replace RM := Lib.hid ((RM.out.keep (by repeat' (first | exact Below.refl _ _ | refine balloc ?_ _ | refine below_drewN ?_ _))).keep hb19)
      replace RL := Lib.hid ((RL.out.keep (by repeat' (first | exact Below.refl _ _ | refine balloc ?_ _ | refine below_drewN ?_ _))).keep hb19)
      replace RX := Lib.hid ((RX.out.keep (by repeat' (first | exact Below.refl _ _ | refine balloc ?_ _ | refine below_drewN ?_ _))).keep hb19)
      replace RY := Lib.hid ((RY.out.keep (by repeat' (first | exact Below.refl _ _ | refine balloc ?_ _ | refine below_drewN ?_ _))).keep hb19)
      replace acc := bnext (w := w) (by repeat' (first | exact acc | refine balloc ?_ _ | refine below_drewN ?_ _)) hb19
      have N11 := Lib.hid (Own.lst h19)
      clear h19 hb19
      go_wp2_with fail
      refine (same_t _ _ (SP.norm (SP.join A B)) (SP.join A B) _ (N11.out.keep (by repeat' (first | exact Below.refl _ _ | refine balloc ?_ _ | refine below_drewN ?_ _))).row (RJ.out.keep (by repeat' (first | exact Below.refl _ _ | refine balloc ?_ _ | refine below_drewN ?_ _))).row (SP.norm_of_rises (SP.rises_norm _)) (Nat.le_trans (InN.norm (InN.join IA IB)).1 (by decide))).mono ?_
      rintro e w20 ⟨rfl, hb20⟩
      replace RA := Lib.hid ((RA.out.keep (by repeat' (first | exact Below.refl _ _ | refine balloc ?_ _ | refine below_drewN ?_ _))).keep hb20)
      replace RB := Lib.hid ((RB.out.keep (by repeat' (first | exact Below.refl _ _ | refine balloc ?_ _ | refine below_drewN ?_ _))).keep hb20)
      replace RK := Lib.hid ((RK.out.keep (by repeat' (first | exact Below.refl _ _ | refine balloc ?_ _ | refine below_drewN ?_ _))).keep hb20)
      replace RJ := Lib.hid ((RJ.out.keep (by repeat' (first | exact Below.refl _ _ | refine balloc ?_ _ | refine below_drewN ?_ _))).keep hb20)
      replace RM := Lib.hid ((RM.out.keep (by repeat' (first | exact Below.refl _ _ | refine balloc ?_ _ | refine below_drewN ?_ _))).keep hb20)
      replace RL := Lib.hid ((RL.out.keep (by repeat' (first | exact Below.refl _ _ | refine balloc ?_ _ | refine below_drewN ?_ _))).keep hb20)
      replace RX := Lib.hid ((RX.out.keep (by repeat' (first | exact Below.refl _ _ | refine balloc ?_ _ | refine below_drewN ?_ _))).keep hb20)
      replace RY := Lib.hid ((RY.out.keep (by repeat' (first | exact Below.refl _ _ | refine balloc ?_ _ | refine below_drewN ?_ _))).keep hb20)
      replace N11 := Lib.hid ((N11.out.keep (by repeat' (first | exact Below.refl _ _ | refine balloc ?_ _ | refine below_drewN ?_ _))).keep hb20)
      replace acc := bnext (w := w) (by repeat' (first | exact acc | refine balloc ?_ _ | refine below_drewN ?_ _)) hb20
      clear hb20
      clear N11
      go_wp2_with fail
      go_ret
      exact ⟨rfl, acc⟩

set_option maxRecDepth 100000 in
theorem lifted (os : Os) (started : os.Started) (H : Type) (enc : TypeId × Value → H) :
    ReturnsInHanded {} Try.checked os 6 .any (Rows.setsRulesSpec.pre6 enc Try.prog Try.f6 Rows.setsRulesRow.domain false) (Rows.setsRulesSpec.post enc Try.prog Try.f6 false true false false) := by
  refine returnsInHanded_of_change (C := Try.checked) own started (by kernel_rfl) Try.func6
    (ChangeSpec.witness6 (enc := enc) (C := Try.checked) false ⟨#[], #[.slice none 0 0, .slice none 0 0], []⟩ 8 (by kernel_rfl) (by kernel_rfl) (by kernel_rfl) (by kernel_rfl)) ?_
  intro W base args ds gs before hval0 hW hcnd _
  have hval : ∀ (j : Nat) t v, Try.f6.params[j]? = some t → args[j]? = some v → Value.okWide Try.prog W .any base t v := hval0
  have hW' := hW
  obtain ⟨p, q, hA0, hV, rfl, hfz, hnd⟩ := hW
  have hA : DataW.TrodAll enc Try.prog W 0 (fun _ => true) true Try.f6.params.toList args.toList ds p := hA0
  rw [Try.params6] at hA hval
  obtain ⟨v0, vs0, d0, ds0, p0, q0, hargs, rfl, rfl, h0, r0⟩ := trodAll_cons hA
  obtain ⟨v1, vs1, d1, ds1, p1, q1, rfl, rfl, rfl, h1, r1⟩ := trodAll_cons r0
  obtain ⟨rfl, rfl, rfl⟩ := trodAll_nil r1
  obtain rfl : args = #[v0, v1] := by cases args; simp_all
  obtain ⟨rfl, rfl⟩ := trodVars_none hV
  have k0 := h0
  have lt0 : ∀ x ∈ p0, x.block < W.heap.size := by obtain ⟨m, hm⟩ := k0; exact DataW.trod_lt m _ _ _ hm
  have k1 := h1
  have lt1 : ∀ x ∈ p1, x.block < W.heap.size := by obtain ⟨m, hm⟩ := k1; exact DataW.trod_lt m _ _ _ hm
  obtain ⟨a0, H0, L0, E0⟩ := open_ls (hval 0 22 v0 rfl rfl) h0
  obtain ⟨a1, H1, L1, E1⟩ := open_ls (hval 1 22 v1 rfl rfl) h1
  clear hA0 hval0
  refine (walk v0 a0 v1 a1  W H0 L0 E0 H1 L1 E1).mono fun e W' ⟨he, bel⟩ => ?_
  subst he
  exact ⟨_, rfl, _, _, _, [], _, [], hW', trodAll_mk1 (shut_bool Try.underlying4 _), (trodAll_cons_mk (Below.trod laidOut (by kernel_rfl) (of_decide_eq_true (by kernel_rfl)) k0 bel lt0) (trodAll_cons_mk (Below.trod laidOut (by kernel_rfl) (of_decide_eq_true (by kernel_rfl)) k1 bel lt1) trodAll_mk0)), rfl, bel.frame _, fun h => by cases h⟩

theorem over : Rows.setsRulesRow.holds Try.pinned (OpenSpec.ofChange Rows.setsRulesSpec) :=
  OpenClaim.holds_of_wide 6 Try.f6 rfl rfl rfl rfl rfl rfl rfl ⟨rfl, rfl, rfl, rfl, rfl⟩ rfl rfl rfl rfl rfl (by kernel_rfl) Try.func6 (by kernel_rfl)
    (of_decide_eq_true (by kernel_rfl)) (by unfold Func.isWrapper; first | (rw [if_pos (by decide +kernel)]; kernel_rfl) | (rw [if_neg (by decide +kernel)]; exact ⟨rfl, rfl⟩))
    (fun os started H enc _ => lifted os started H enc)

end Go.Proofs.Ytamhhbgakaokgaa.setsRules
namespace Go.Proofs.Ytamhhbgakaokgaa
theorem setsRules_proved : Rows.SetsRulesSaid := setsRules.over
#print axioms setsRules_proved
end Go.Proofs.Ytamhhbgakaokgaa
