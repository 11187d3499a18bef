/- The examples of the chapter hold. -/
import Derived.Test.YtamhhbgakaokgaaSetBase
namespace Go.Proofs.Ytamhhbgakaokgaa
open Go.RowKit Go.Maps
theorem lst_row {w : World} {g n c : Nat} {L : List Int} (h : RowAt w (.slice (some ⟨g, 0, none⟩) n c) (iv L)) (hn : n ≤ c) : Lst w (.slice (some ⟨g, 0, none⟩) n c) L := by
  obtain ⟨a, c', he, h'⟩ := h.out
  injection he with h1 h2 h3
  have h2' : n = L.length := by rw [h2, iv_len]
  subst h2'
  refine ⟨_, c, rfl, ⟨_, c, by rw [iv_len], ?_⟩, hn⟩
  rcases h' with h' | ⟨g', o', e, rest⟩
  · exact .inl ⟨h', fun e => by cases e⟩
  · rw [← h1] at e; exact .inr ⟨g', o', e, rest⟩
theorem Lst.src {w : World} {v : Value} {P : List Int} (h : Lst w v P) : Src w v (iv P) := by
  obtain ⟨a, cap, rfl, h1, h2⟩ := h.out
  exact h1
set_option maxRecDepth 100000 in
set_option maxHeartbeats 8000000 in
theorem sanity_any (w : World) : Calls Try.prog 10 #[] w fun e w' => e = .returned (.bool true) ∧ Below w.heap.size w w' := by
  have acc : Below w.heap.size w w := Below.refl _ _
  have RA : Hid (Lst (((w.alloc (.cells #[.int .i64 5, .int .i64 1] 3)).alloc (.cells #[.int .i64 2, .int .i64 5, .int .i64 5] 3)).alloc (.cells #[.int .i64 3, .int .i64 1, .int .i64 3, .int .i64 (-2)] 3)) (.slice (some ⟨w.heap.size, 0, none⟩) 2 2) [5, 1]) := Lib.hid (lst_row (lit2 (by go_simp) (by go_simp) (by simp <;> omega)) (by decide))
  have RB : Hid (Lst (((w.alloc (.cells #[.int .i64 5, .int .i64 1] 3)).alloc (.cells #[.int .i64 2, .int .i64 5, .int .i64 5] 3)).alloc (.cells #[.int .i64 3, .int .i64 1, .int .i64 3, .int .i64 (-2)] 3)) (.slice (some ⟨w.heap.size + 1, 0, none⟩) 3 3) [2, 5, 5]) := Lib.hid (lst_row (lit3 (by go_simp) (by go_simp) (by go_simp) (by simp <;> omega)) (by decide))
  go_enter Try.func10, Try.ntmps10
  go_wp2_with fail
  refine (norm_any _ [3, 1, 3, -2] _ (lit4 (by go_simp) (by go_simp) (by go_simp) (by go_simp) (by simp <;> omega)) ((inN_lit (A := [3, 1, 3, -2]) (by decide)).r (by decide))).mono ?_
  rintro e w1 ⟨u1, rfl, h1, hb1⟩
  obtain ⟨p1, q1, rfl⟩ := own_shape h1
  replace RA := Lib.hid ((RA.out.keep (by repeat' (first | exact Below.refl _ _ | refine balloc ?_ _))).keep hb1)
  replace RB := Lib.hid ((RB.out.keep (by repeat' (first | exact Below.refl _ _ | refine balloc ?_ _))).keep hb1)
  replace acc := bnext (w := w) (by repeat' (first | exact acc | refine balloc ?_ _)) hb1
  have R1 := Lib.hid (Own.lst h1)
  clear h1 hb1
  go_wp2_with fail
  refine (is_t _ _ (SP.norm [3, 1, 3, -2]) [-2, 1, 3] _ (R1.out.keep (by repeat' (first | exact Below.refl _ _ | refine balloc ?_ _))).row (lit3 (by go_simp) (by go_simp) (by go_simp) (by simp <;> omega)) (by decide) (by decide)).mono ?_
  rintro e w2 ⟨rfl, hb2⟩
  replace RA := Lib.hid ((RA.out.keep (by repeat' (first | exact Below.refl _ _ | refine balloc ?_ _))).keep hb2)
  replace RB := Lib.hid ((RB.out.keep (by repeat' (first | exact Below.refl _ _ | refine balloc ?_ _))).keep hb2)
  replace R1 := Lib.hid ((R1.out.keep (by repeat' (first | exact Below.refl _ _ | refine balloc ?_ _))).keep hb2)
  replace acc := bnext (w := w) (by repeat' (first | exact acc | refine balloc ?_ _)) hb2
  clear hb2
  clear R1
  go_wp2_with fail
  refine (join_any _ _ [5, 1] [2, 5, 5] _ (RA.out.keep (by repeat' (first | exact Below.refl _ _ | refine balloc ?_ _))).row (RB.out.keep (by repeat' (first | exact Below.refl _ _ | refine balloc ?_ _))).row ((inN_lit (A := [5, 1]) (by decide)).r (by decide)) ((inN_lit (A := [2, 5, 5]) (by decide)).r (by decide))).mono ?_
  rintro e w3 ⟨u3, rfl, h3, hb3⟩
  obtain ⟨p3, q3, rfl⟩ := own_shape h3
  replace RA := Lib.hid ((RA.out.keep (by repeat' (first | exact Below.refl _ _ | refine balloc ?_ _))).keep hb3)
  replace RB := Lib.hid ((RB.out.keep (by repeat' (first | exact Below.refl _ _ | refine balloc ?_ _))).keep hb3)
  replace acc := bnext (w := w) (by repeat' (first | exact acc | refine balloc ?_ _)) hb3
  have R3 := Lib.hid (Own.lst h3)
  clear h3 hb3
  go_wp2_with fail
  refine (is_t _ _ (SP.join [5, 1] [2, 5, 5]) [1, 2, 5] _ (R3.out.keep (by repeat' (first | exact Below.refl _ _ | refine balloc ?_ _))).row (lit3 (by go_simp) (by go_simp) (by go_simp) (by simp <;> omega)) (by decide) (by decide)).mono ?_
  rintro e w4 ⟨rfl, hb4⟩
  replace RA := Lib.hid ((RA.out.keep (by repeat' (first | exact Below.refl _ _ | refine balloc ?_ _))).keep hb4)
  replace RB := Lib.hid ((RB.out.keep (by repeat' (first | exact Below.refl _ _ | refine balloc ?_ _))).keep hb4)
  replace R3 := Lib.hid ((R3.out.keep (by repeat' (first | exact Below.refl _ _ | refine balloc ?_ _))).keep hb4)
  replace acc := bnext (w := w) (by repeat' (first | exact acc | refine balloc ?_ _)) hb4
  clear hb4
  clear R3
  go_wp2_with fail
  refine (meet_any _ _ [5, 1] [2, 5, 5] _ (RA.out.keep (by repeat' (first | exact Below.refl _ _ | refine balloc ?_ _))).row (RB.out.keep (by repeat' (first | exact Below.refl _ _ | refine balloc ?_ _))).row ((inN_lit (A := [5, 1]) (by decide)).r (by decide)) ((inN_lit (A := [2, 5, 5]) (by decide)).r (by decide))).mono ?_
  rintro e w5 ⟨u5, rfl, h5, hb5⟩
  obtain ⟨p5, q5, rfl⟩ := own_shape h5
  replace RA := Lib.hid ((RA.out.keep (by repeat' (first | exact Below.refl _ _ | refine balloc ?_ _))).keep hb5)
  replace RB := Lib.hid ((RB.out.keep (by repeat' (first | exact Below.refl _ _ | refine balloc ?_ _))).keep hb5)
  replace acc := bnext (w := w) (by repeat' (first | exact acc | refine balloc ?_ _)) hb5
  have R5 := Lib.hid (Own.lst h5)
  clear h5 hb5
  go_wp2_with fail
  refine (is_t _ _ (SP.meet [5, 1] [2, 5, 5]) [5] _ (R5.out.keep (by repeat' (first | exact Below.refl _ _ | refine balloc ?_ _))).row (lit1 (by go_simp) (by simp <;> omega)) (by decide) (by decide)).mono ?_
  rintro e w6 ⟨rfl, hb6⟩
  replace RA := Lib.hid ((RA.out.keep (by repeat' (first | exact Below.refl _ _ | refine balloc ?_ _))).keep hb6)
  replace RB := Lib.hid ((RB.out.keep (by repeat' (first | exact Below.refl _ _ | refine balloc ?_ _))).keep hb6)
  replace R5 := Lib.hid ((R5.out.keep (by repeat' (first | exact Below.refl _ _ | refine balloc ?_ _))).keep hb6)
  replace acc := bnext (w := w) (by repeat' (first | exact acc | refine balloc ?_ _)) hb6
  clear hb6
  clear R5
  go_wp2_with fail
  refine (less_any _ _ [5, 1] [2, 5, 5] _ (RA.out.keep (by repeat' (first | exact Below.refl _ _ | refine balloc ?_ _))).row (RB.out.keep (by repeat' (first | exact Below.refl _ _ | refine balloc ?_ _))).row ((inN_lit (A := [5, 1]) (by decide)).r (by decide)) ((inN_lit (A := [2, 5, 5]) (by decide)).r (by decide))).mono ?_
  rintro e w7 ⟨u7, rfl, h7, hb7⟩
  obtain ⟨p7, q7, rfl⟩ := own_shape h7
  replace RA := Lib.hid ((RA.out.keep (by repeat' (first | exact Below.refl _ _ | refine balloc ?_ _))).keep hb7)
  replace RB := Lib.hid ((RB.out.keep (by repeat' (first | exact Below.refl _ _ | refine balloc ?_ _))).keep hb7)
  replace acc := bnext (w := w) (by repeat' (first | exact acc | refine balloc ?_ _)) hb7
  have R7 := Lib.hid (Own.lst h7)
  clear h7 hb7
  go_wp2_with fail
  refine (is_t _ _ (SP.less [5, 1] [2, 5, 5]) [1] _ (R7.out.keep (by repeat' (first | exact Below.refl _ _ | refine balloc ?_ _))).row (lit1 (by go_simp) (by simp <;> omega)) (by decide) (by decide)).mono ?_
  rintro e w8 ⟨rfl, hb8⟩
  replace RA := Lib.hid ((RA.out.keep (by repeat' (first | exact Below.refl _ _ | refine balloc ?_ _))).keep hb8)
  replace RB := Lib.hid ((RB.out.keep (by repeat' (first | exact Below.refl _ _ | refine balloc ?_ _))).keep hb8)
  replace R7 := Lib.hid ((R7.out.keep (by repeat' (first | exact Below.refl _ _ | refine balloc ?_ _))).keep hb8)
  replace acc := bnext (w := w) (by repeat' (first | exact acc | refine balloc ?_ _)) hb8
  clear hb8
  clear R7
  go_wp2_with fail
  refine (overlap_t _ _ [1, 2] [3] false _ (lit2 (by go_simp) (by go_simp) (by simp <;> omega)) (lit1 (by go_simp) (by simp <;> omega)) ((inN_lit (A := [1, 2]) (by decide)).r (by decide)) ((inN_lit (A := [3]) (by decide)).r (by decide)) (by decide)).mono ?_
  rintro e w9 ⟨rfl, hb9⟩
  replace RA := Lib.hid ((RA.out.keep (by repeat' (first | exact Below.refl _ _ | refine balloc ?_ _))).keep hb9)
  replace RB := Lib.hid ((RB.out.keep (by repeat' (first | exact Below.refl _ _ | refine balloc ?_ _))).keep hb9)
  replace acc := bnext (w := w) (by repeat' (first | exact acc | refine balloc ?_ _)) hb9
  clear hb9
  go_wp2_with fail
  refine (overlap_t _ _ [] [] false _ (lit0 _) (lit0 _) ((inN_lit (A := ([] : List Int)) (by decide)).r (by decide)) ((inN_lit (A := ([] : List Int)) (by decide)).r (by decide)) (by decide)).mono ?_
  rintro e w10 ⟨rfl, hb10⟩
  replace RA := Lib.hid ((RA.out.keep (by repeat' (first | exact Below.refl _ _ | refine balloc ?_ _))).keep hb10)
  replace RB := Lib.hid ((RB.out.keep (by repeat' (first | exact Below.refl _ _ | refine balloc ?_ _))).keep hb10)
  replace acc := bnext (w := w) (by repeat' (first | exact acc | refine balloc ?_ _)) hb10
  clear hb10
  go_wp2_with fail
  refine (overlap_t _ _ [5, 1] [2, 5, 5] true _ (RA.out.keep (by repeat' (first | exact Below.refl _ _ | refine balloc ?_ _))).row (RB.out.keep (by repeat' (first | exact Below.refl _ _ | refine balloc ?_ _))).row ((inN_lit (A := [5, 1]) (by decide)).r (by decide)) ((inN_lit (A := [2, 5, 5]) (by decide)).r (by decide)) (by decide)).mono ?_
  rintro e w11 ⟨rfl, hb11⟩
  replace RA := Lib.hid ((RA.out.keep (by repeat' (first | exact Below.refl _ _ | refine balloc ?_ _))).keep hb11)
  replace RB := Lib.hid ((RB.out.keep (by repeat' (first | exact Below.refl _ _ | refine balloc ?_ _))).keep hb11)
  replace acc := bnext (w := w) (by repeat' (first | exact acc | refine balloc ?_ _)) hb11
  clear hb11
  go_wp2_with fail
  refine (range_any (-1) 2 _ (by decide) (by decide) (by decide) (by decide)).mono ?_
  rintro e w12 ⟨u12, rfl, h12, hb12⟩
  obtain ⟨p12, q12, rfl, _, _⟩ := h12.out
  replace RA := Lib.hid ((RA.out.keep (by repeat' (first | exact Below.refl _ _ | refine balloc ?_ _))).keep hb12)
  replace RB := Lib.hid ((RB.out.keep (by repeat' (first | exact Below.refl _ _ | refine balloc ?_ _))).keep hb12)
  replace acc := bnext (w := w) (by repeat' (first | exact acc | refine balloc ?_ _)) hb12
  have R12 := Lib.hid (h12)
  clear h12 hb12
  go_wp2_with fail
  refine (is_t _ _ (SP.span (-1) 2) [-1, 0, 1] _ (R12.out.keep (by repeat' (first | exact Below.refl _ _ | refine balloc ?_ _))).row (lit3 (by go_simp) (by go_simp) (by go_simp) (by simp <;> omega)) (by decide) (by decide)).mono ?_
  rintro e w13 ⟨rfl, hb13⟩
  replace RA := Lib.hid ((RA.out.keep (by repeat' (first | exact Below.refl _ _ | refine balloc ?_ _))).keep hb13)
  replace RB := Lib.hid ((RB.out.keep (by repeat' (first | exact Below.refl _ _ | refine balloc ?_ _))).keep hb13)
  replace R12 := Lib.hid ((R12.out.keep (by repeat' (first | exact Below.refl _ _ | refine balloc ?_ _))).keep hb13)
  replace acc := bnext (w := w) (by repeat' (first | exact acc | refine balloc ?_ _)) hb13
  clear hb13
  clear R12
  go_wp2_with fail
  refine (range_any 2 2 _ (by decide) (by decide) (by decide) (by decide)).mono ?_
  rintro e w14 ⟨u14, rfl, h14, hb14⟩
  obtain ⟨p14, q14, rfl, _, _⟩ := h14.out
  replace RA := Lib.hid ((RA.out.keep (by repeat' (first | exact Below.refl _ _ | refine balloc ?_ _))).keep hb14)
  replace RB := Lib.hid ((RB.out.keep (by repeat' (first | exact Below.refl _ _ | refine balloc ?_ _))).keep hb14)
  replace acc := bnext (w := w) (by repeat' (first | exact acc | refine balloc ?_ _)) hb14
  have R14 := Lib.hid (h14)
  clear h14 hb14
  go_wp2_with fail
  refine (is_t _ _ (SP.span 2 2) ([] : List Int) _ (R14.out.keep (by repeat' (first | exact Below.refl _ _ | refine balloc ?_ _))).row (lit0 _) (by decide) (by decide)).mono ?_
  rintro e w15 ⟨rfl, hb15⟩
  replace RA := Lib.hid ((RA.out.keep (by repeat' (first | exact Below.refl _ _ | refine balloc ?_ _))).keep hb15)
  replace RB := Lib.hid ((RB.out.keep (by repeat' (first | exact Below.refl _ _ | refine balloc ?_ _))).keep hb15)
  replace R14 := Lib.hid ((R14.out.keep (by repeat' (first | exact Below.refl _ _ | refine balloc ?_ _))).keep hb15)
  replace acc := bnext (w := w) (by repeat' (first | exact acc | refine balloc ?_ _)) hb15
  clear hb15
  clear R14
  go_wp2_with fail
  refine (range_any 0 4097 _ (by decide) (by decide) (by decide) (by decide)).mono ?_
  rintro e w16 ⟨u16, rfl, h16, hb16⟩
  obtain ⟨p16, q16, rfl, _, _⟩ := h16.out
  replace RA := Lib.hid ((RA.out.keep (by repeat' (first | exact Below.refl _ _ | refine balloc ?_ _))).keep hb16)
  replace RB := Lib.hid ((RB.out.keep (by repeat' (first | exact Below.refl _ _ | refine balloc ?_ _))).keep hb16)
  replace acc := bnext (w := w) (by repeat' (first | exact acc | refine balloc ?_ _)) hb16
  have R16 := Lib.hid (h16)
  clear h16 hb16
  go_wp2_with fail
  refine (is_t _ _ (SP.span 0 4097) ([] : List Int) _ (R16.out.keep (by repeat' (first | exact Below.refl _ _ | refine balloc ?_ _))).row (lit0 _) (by decide) (by decide)).mono ?_
  rintro e w17 ⟨rfl, hb17⟩
  replace RA := Lib.hid ((RA.out.keep (by repeat' (first | exact Below.refl _ _ | refine balloc ?_ _))).keep hb17)
  replace RB := Lib.hid ((RB.out.keep (by repeat' (first | exact Below.refl _ _ | refine balloc ?_ _))).keep hb17)
  replace R16 := Lib.hid ((R16.out.keep (by repeat' (first | exact Below.refl _ _ | refine balloc ?_ _))).keep hb17)
  replace acc := bnext (w := w) (by repeat' (first | exact acc | refine balloc ?_ _)) hb17
  clear hb17
  clear R16
  go_wp2_with fail
  refine (right_t _ [1, 1] false _ (lit2 (by go_simp) (by go_simp) (by simp <;> omega)) (by decide) (by decide)).mono ?_
  rintro e w18 ⟨rfl, hb18⟩
  replace RA := Lib.hid ((RA.out.keep (by repeat' (first | exact Below.refl _ _ | refine balloc ?_ _))).keep hb18)
  replace RB := Lib.hid ((RB.out.keep (by repeat' (first | exact Below.refl _ _ | refine balloc ?_ _))).keep hb18)
  replace acc := bnext (w := w) (by repeat' (first | exact acc | refine balloc ?_ _)) hb18
  clear hb18
  go_wp2_with fail
  refine (right_t _ [1, 2] true _ (lit2 (by go_simp) (by go_simp) (by simp <;> omega)) (by decide) (by decide)).mono ?_
  rintro e w19 ⟨rfl, hb19⟩
  replace RA := Lib.hid ((RA.out.keep (by repeat' (first | exact Below.refl _ _ | refine balloc ?_ _))).keep hb19)
  replace RB := Lib.hid ((RB.out.keep (by repeat' (first | exact Below.refl _ _ | refine balloc ?_ _))).keep hb19)
  replace acc := bnext (w := w) (by repeat' (first | exact acc | refine balloc ?_ _)) hb19
  clear hb19
  go_wp2_with fail
  refine (right_t _ [] true _ (lit0 _) (by decide) (by decide)).mono ?_
  rintro e w20 ⟨rfl, hb20⟩
  replace RA := Lib.hid ((RA.out.keep (by repeat' (first | exact Below.refl _ _ | refine balloc ?_ _))).keep hb20)
  replace RB := Lib.hid ((RB.out.keep (by repeat' (first | exact Below.refl _ _ | refine balloc ?_ _))).keep hb20)
  replace acc := bnext (w := w) (by repeat' (first | exact acc | refine balloc ?_ _)) hb20
  clear hb20
  go_wp2_with fail
  refine (has_t _ [2, 5, 5] 2 true _ (RB.out.keep (by repeat' (first | exact Below.refl _ _ | refine balloc ?_ _))).row (by decide) (by decide)).mono ?_
  rintro e w21 ⟨rfl, rfl⟩
  go_wp2_with fail
  refine (has_t _ [5, 1] 2 false _ (RA.out.keep (by repeat' (first | exact Below.refl _ _ | refine balloc ?_ _))).row (by decide) (by decide)).mono ?_
  rintro e w22 ⟨rfl, rfl⟩
  go_wp2_with fail
  go_ret
  exact ⟨rfl, (by repeat' (first | exact acc | refine balloc ?_ _))⟩
theorem few_t (va : Value) (A T : List Int) (w : World) (hs : Src w va (iv A)) (hA : A.length ≤ maxLen) (hc : ∀ a n c, va = .slice a n c → n ≤ c) (hT : A.take 40 = T) :
    Calls Try.prog 11 #[va] w fun e w' => ∃ v', e = .returned v' ∧ Own w w' v' T ∧ Below w.heap.size w w' := by
  subst hT; exact few_any va A w hs hA hc
end Go.Proofs.Ytamhhbgakaokgaa
