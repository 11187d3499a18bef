/- For every two lists SetsOwn returns true: what is returned shares no memory with the lists. No conditions. -/
import Derived.Test.YtamhhbgakaokgaaSetSane
namespace Go.Proofs.Ytamhhbgakaokgaa
open Go.RowKit Go.Maps
/-- A slice of integers that may be written: its cells lie in a block from b0 on, below b1. -/
def Wrow (b0 b1 : Nat) (w : World) (v : Value) : Prop := ∃ a n c, v = .slice a n c ∧ n ≤ 1000000 ∧ (n = 0 ∨ ∃ g, a = some ⟨g, 0, none⟩ ∧ b0 ≤ g ∧ g < b1 ∧ ∀ i, i < n → (w.cell? ⟨g, i, none⟩).isSome = true ∧ w.frozen? ⟨g, i, none⟩ = false)
theorem Wrow.out {b0 b1 : Nat} {w : World} {v : Value} (h : Wrow b0 b1 w v) : ∃ a n c, v = .slice a n c ∧ n ≤ 1000000 ∧ (n = 0 ∨ ∃ g, a = some ⟨g, 0, none⟩ ∧ b0 ≤ g ∧ g < b1 ∧ ∀ i, i < n → (w.cell? ⟨g, i, none⟩).isSome = true ∧ w.frozen? ⟨g, i, none⟩ = false) := h
theorem Wrow.set {b0 b1 : Nat} {w : World} {v : Value} (h : Wrow b0 b1 w v) (p : Addr) (x : Value) : Wrow b0 b1 (w.setCell p x) v := by
  obtain ⟨a, n, c, rfl, hn, h⟩ := h.out
  refine ⟨a, n, c, rfl, hn, ?_⟩
  rcases h with h | ⟨g, rfl, h1, h2, h3⟩
  · exact .inl h
  · refine .inr ⟨g, rfl, h1, h2, fun i hi => ⟨?_, by rw [World.frozen?_setCell]; exact (h3 i hi).2⟩⟩
    obtain ⟨z, hz⟩ := Option.isSome_iff_exists.1 (h3 i hi).1
    obtain ⟨v', hv'⟩ := cell?_setCell_some (p := p) (x := x) hz
    rw [hv']; rfl
theorem Wrow.keep {b0 b1 : Nat} {w w' : World} {v : Value} (h : Wrow b0 b1 w v) (hb : Below w.heap.size w w') (hlt : b1 ≤ w.heap.size) : Wrow b0 b1 w' v := by
  obtain ⟨a, n, c, rfl, hn, h⟩ := h.out
  refine ⟨a, n, c, rfl, hn, ?_⟩
  rcases h with h | ⟨g, rfl, h1, h2, h3⟩
  · exact .inl h
  · refine .inr ⟨g, rfl, h1, h2, fun i hi => ⟨by rw [hb.cell (p := ⟨g, i, none⟩) (by simp; omega)]; exact (h3 i hi).1, by rw [hb.frozen (p := ⟨g, i, none⟩) (by simp; omega)]; exact (h3 i hi).2⟩⟩
theorem Wrow.mono {b0 b1 b1' : Nat} {w : World} {v : Value} (h : Wrow b0 b1 w v) (hle : b1 ≤ b1') : Wrow b0 b1' w v := by
  obtain ⟨a, n, c, rfl, hn, h⟩ := h.out
  refine ⟨a, n, c, rfl, hn, ?_⟩
  rcases h with h | ⟨g, rfl, h1, h2, h3⟩
  · exact .inl h
  · exact .inr ⟨g, rfl, h1, Nat.lt_of_lt_of_le h2 hle, h3⟩
theorem Wrow.of {b0 : Nat} {w0 w : World} {v : Value} {P : List Int} (h : Own w0 w v P) (hP : P.length ≤ 1000000) (hb : b0 ≤ w0.heap.size) : Wrow b0 w.heap.size w v := by
  rcases h.2 with ⟨h1, h2⟩ | ⟨g, cap, cur, h1, h2, h3, h4, h5, h6, h7⟩
  · exact ⟨none, 0, 0, h1, by omega, .inl rfl⟩
  · subst h1
    refine ⟨_, P.length, cap, rfl, hP, .inr ⟨g, rfl, Nat.le_trans hb h2, (Array.getElem?_eq_some_iff.1 h3).1, fun i hi => ⟨?_, ?_⟩⟩⟩
    · simp only [World.cell?, h3]
      have : i < cur.size := by rw [h6]; omega
      simp [this]
    · simp [World.frozen?, h3]
def Five (b0 gl : Nat) (V : List Value) (w : World) : Prop := (∀ j (h : j < V.length), w.cell? ⟨gl, j, none⟩ = some V[j]) ∧ ∀ v ∈ V, Wrow b0 gl w v
theorem Five.set {b0 gl : Nat} {V : List Value} {w : World} (h : Five b0 gl V w) {p : Addr} (hp : p.block < gl) (x : Value) : Five b0 gl V (w.setCell p x) :=
  ⟨fun j hj => (World.cell?_setCell_other (w := w) (a := p) (b := ⟨gl, j, none⟩) (v := x) (h := fun e => by rw [e] at hp; simp at hp)).trans (h.1 j hj), fun v hv => (h.2 v hv).set p x⟩
end Go.Proofs.Ytamhhbgakaokgaa
namespace Go.Proofs.Ytamhhbgakaokgaa.setsOwn
open Go.ChangeShapes Go.WideShapes Go.ChangeAt Go.RowKit Go.Joins Go.Deep Go.Maps
set_option linter.unusedVariables false

set_option maxRecDepth 100000 in
set_option maxHeartbeats 8000000 in
theorem walk (v0 : Value) (a0 : List Int) (v1 : Value) (a1 : List Int)  (w : World) (H0 : Src w v0 (a0.map (Value.int .i64))) (L0 : a0.length ≤ maxLen ∧ ∀ a n c, v0 = .slice a n c → n ≤ c) (E0 : ∀ x, x ∈ a0 → (Lit.int .i64 x).wf = true) (H1 : Src w v1 (a1.map (Value.int .i64))) (L1 : a1.length ≤ maxLen ∧ ∀ a n c, v1 = .slice a n c → n ≤ c) (E1 : ∀ x, x ∈ a1 → (Lit.int .i64 x).wf = true) :
    Calls Try.prog 9 #[v0, v1] w fun e w' => e = .returned (.bool true) ∧ Below w.heap.size w w' := by
  obtain ⟨A, hEA⟩ : ∃ A, a0.take 40 = A := ⟨_, rfl⟩
  have IA : InN 40 A := hEA ▸ InN.take E0
  have HFA := Lib.hid hEA
  clear hEA
  obtain ⟨y0, z0, rfl, _⟩ := H0.out
  rw [iv_len] at H0 ⊢
  have S0 := Lib.hid H0
  have hl0 := L0.1
  have hc0 := Lib.hid L0.2
  rw [iv_len] at hc0
  clear H0 L0 E0
  obtain ⟨B, hEB⟩ : ∃ B, a1.take 40 = B := ⟨_, rfl⟩
  have IB : InN 40 B := hEB ▸ InN.take E1
  have HFB := Lib.hid hEB
  clear hEB
  obtain ⟨y1, z1, rfl, _⟩ := H1.out
  rw [iv_len] at H1 ⊢
  have S1 := Lib.hid H1
  have hl1 := L1.1
  have hc1 := Lib.hid L1.2
  rw [iv_len] at hc1
  clear H1 L1 E1
  have acc : Below w.heap.size w w := Below.refl _ _
  go_enter Try.func9, Try.ntmps9
  go_wp2_with fail
  refine (sanity_any _).mono ?_
  rintro e w1 ⟨rfl, hb1⟩
  replace acc := bnext (w := w) (by repeat' (first | exact acc | refine balloc ?_ _ | refine below_drewN ?_ _)) hb1
  clear hb1
  go_wp2_with fail
  refine (few_t _ a0 A _ (S0.out.keep (by repeat' (first | exact acc | refine balloc ?_ _ | refine below_drewN ?_ _))) hl0 hc0.out HFA.out).mono ?_
  rintro e w2 ⟨u2, rfl, h2, hb2⟩
  obtain ⟨p2, q2, rfl⟩ := own_shape h2
  replace acc := bnext (w := w) (by repeat' (first | exact acc | refine balloc ?_ _ | refine below_drewN ?_ _)) hb2
  have RA := Lib.hid (Own.lst h2)
  clear h2 hb2
  go_wp2_with fail
  refine (few_t _ a1 B _ (S1.out.keep (by repeat' (first | exact acc | refine balloc ?_ _ | refine below_drewN ?_ _))) hl1 hc1.out HFB.out).mono ?_
  rintro e w3 ⟨u3, rfl, h3, hb3⟩
  obtain ⟨p3, q3, rfl⟩ := own_shape h3
  replace RA := Lib.hid ((RA.out.keep (by repeat' (first | exact Below.refl _ _ | refine balloc ?_ _ | refine below_drewN ?_ _))).keep hb3)
  replace acc := bnext (w := w) (by repeat' (first | exact acc | refine balloc ?_ _ | refine below_drewN ?_ _)) hb3
  have RB := Lib.hid (Own.lst h3)
  clear h3 hb3
  go_wp2_with fail
  refine (rnorm_any _ A _ (RA.out.keep (by repeat' (first | exact Below.refl _ _ | refine balloc ?_ _ | refine below_drewN ?_ _))).row (by have := IA.1; omega)).mono ?_
  rintro e w4 ⟨u4, rfl, h4, hb4⟩
  obtain ⟨p4, q4, rfl, _, _⟩ := h4.out
  replace RA := Lib.hid ((RA.out.keep (by repeat' (first | exact Below.refl _ _ | refine balloc ?_ _ | refine below_drewN ?_ _))).keep hb4)
  replace RB := Lib.hid ((RB.out.keep (by repeat' (first | exact Below.refl _ _ | refine balloc ?_ _ | refine below_drewN ?_ _))).keep hb4)
  replace acc := bnext (w := w) (by repeat' (first | exact acc | refine balloc ?_ _ | refine below_drewN ?_ _)) hb4
  have N1 := Lib.hid (h4)
  clear h4 hb4
  go_wp2_with fail
  refine (rnorm_any _ A _ (RA.out.keep (by repeat' (first | exact Below.refl _ _ | refine balloc ?_ _ | refine below_drewN ?_ _))).row (by have := IA.1; omega)).mono ?_
  rintro e w5 ⟨u5, rfl, h5, hb5⟩
  obtain ⟨p5, q5, rfl, _, _⟩ := h5.out
  replace RA := Lib.hid ((RA.out.keep (by repeat' (first | exact Below.refl _ _ | refine balloc ?_ _ | refine below_drewN ?_ _))).keep hb5)
  replace RB := Lib.hid ((RB.out.keep (by repeat' (first | exact Below.refl _ _ | refine balloc ?_ _ | refine below_drewN ?_ _))).keep hb5)
  replace N1 := Lib.hid ((N1.out.keep (by repeat' (first | exact Below.refl _ _ | refine balloc ?_ _ | refine below_drewN ?_ _))).keep hb5)
  replace acc := bnext (w := w) (by repeat' (first | exact acc | refine balloc ?_ _ | refine below_drewN ?_ _)) hb5
  have N2 := Lib.hid (h5)
  clear h5 hb5
  have acc' := acc
  have N1' := N1
  have N2' := N2
  have acc0 : Below w5.heap.size w5 w5 := Below.refl _ _
  have hsz : w5.heap.size ≤ w5.heap.size := Nat.le_refl _
  go_wp2_with fail
  refine (norm_any _ (SP.norm A) _ (N1.out.keep (by repeat' (first | exact Below.refl _ _ | refine balloc ?_ _ | refine below_drewN ?_ _))).row (IA.norm.r (by decide))).mono ?_
  rintro e w6 ⟨u6, rfl, h6, hb6⟩
  obtain ⟨p6, q6, rfl⟩ := own_shape h6
  replace RA := Lib.hid ((RA.out.keep (by repeat' (first | exact Below.refl _ _ | refine balloc ?_ _ | refine below_drewN ?_ _))).keep hb6)
  replace RB := Lib.hid ((RB.out.keep (by repeat' (first | exact Below.refl _ _ | refine balloc ?_ _ | refine below_drewN ?_ _))).keep hb6)
  replace N1 := Lib.hid ((N1.out.keep (by repeat' (first | exact Below.refl _ _ | refine balloc ?_ _ | refine below_drewN ?_ _))).keep hb6)
  replace N2 := Lib.hid ((N2.out.keep (by repeat' (first | exact Below.refl _ _ | refine balloc ?_ _ | refine below_drewN ?_ _))).keep hb6)
  replace acc := bnext (w := w) (by repeat' (first | exact acc | refine balloc ?_ _ | refine below_drewN ?_ _)) hb6
  have O6 := Lib.hid (Wrow.of (b0 := w5.heap.size) h6 (by have := SP.norm_len (SP.norm A); have := SP.norm_len A; have := IA.1; omega) hsz)
  replace hsz := Nat.le_trans hsz hb6.size
  replace acc0 := bnext (w := w5) acc0 hb6
  clear h6 hb6
  go_wp2_with fail
  refine (join_any _ _ (SP.norm A) [] _ (N1.out.keep (by repeat' (first | exact Below.refl _ _ | refine balloc ?_ _ | refine below_drewN ?_ _))).row (lit0 _) (IA.norm.r (by decide)) ⟨by simp, by simp⟩).mono ?_
  rintro e w7 ⟨u7, rfl, h7, hb7⟩
  obtain ⟨p7, q7, rfl⟩ := own_shape h7
  replace RA := Lib.hid ((RA.out.keep (by repeat' (first | exact Below.refl _ _ | refine balloc ?_ _ | refine below_drewN ?_ _))).keep hb7)
  replace RB := Lib.hid ((RB.out.keep (by repeat' (first | exact Below.refl _ _ | refine balloc ?_ _ | refine below_drewN ?_ _))).keep hb7)
  replace N1 := Lib.hid ((N1.out.keep (by repeat' (first | exact Below.refl _ _ | refine balloc ?_ _ | refine below_drewN ?_ _))).keep hb7)
  replace N2 := Lib.hid ((N2.out.keep (by repeat' (first | exact Below.refl _ _ | refine balloc ?_ _ | refine below_drewN ?_ _))).keep hb7)
  replace acc := bnext (w := w) (by repeat' (first | exact acc | refine balloc ?_ _ | refine below_drewN ?_ _)) hb7
  have O7 := Lib.hid (Wrow.of (b0 := w5.heap.size) h7 (by have := SP.join_len (SP.norm A) []; have := SP.norm_len A; have := IA.1; simp at *; omega) hsz)
  replace O6 := Lib.hid ((O6.out.keep hb7 (Nat.le_refl _)).mono hb7.size)
  replace hsz := Nat.le_trans hsz hb7.size
  replace acc0 := bnext (w := w5) acc0 hb7
  clear h7 hb7
  go_wp2_with fail
  refine (join_any _ _ [] (SP.norm A) _ (lit0 _) (N1.out.keep (by repeat' (first | exact Below.refl _ _ | refine balloc ?_ _ | refine below_drewN ?_ _))).row ⟨by simp, by simp⟩ (IA.norm.r (by decide))).mono ?_
  rintro e w8 ⟨u8, rfl, h8, hb8⟩
  obtain ⟨p8, q8, rfl⟩ := own_shape h8
  replace RA := Lib.hid ((RA.out.keep (by repeat' (first | exact Below.refl _ _ | refine balloc ?_ _ | refine below_drewN ?_ _))).keep hb8)
  replace RB := Lib.hid ((RB.out.keep (by repeat' (first | exact Below.refl _ _ | refine balloc ?_ _ | refine below_drewN ?_ _))).keep hb8)
  replace N1 := Lib.hid ((N1.out.keep (by repeat' (first | exact Below.refl _ _ | refine balloc ?_ _ | refine below_drewN ?_ _))).keep hb8)
  replace N2 := Lib.hid ((N2.out.keep (by repeat' (first | exact Below.refl _ _ | refine balloc ?_ _ | refine below_drewN ?_ _))).keep hb8)
  replace acc := bnext (w := w) (by repeat' (first | exact acc | refine balloc ?_ _ | refine below_drewN ?_ _)) hb8
  have O8 := Lib.hid (Wrow.of (b0 := w5.heap.size) h8 (by have := SP.join_len [] (SP.norm A); have := SP.norm_len A; have := IA.1; simp at *; omega) hsz)
  replace O6 := Lib.hid ((O6.out.keep hb8 (Nat.le_refl _)).mono hb8.size)
  replace O7 := Lib.hid ((O7.out.keep hb8 (Nat.le_refl _)).mono hb8.size)
  replace hsz := Nat.le_trans hsz hb8.size
  replace acc0 := bnext (w := w5) acc0 hb8
  clear h8 hb8
  go_wp2_with fail
  refine (meet_any _ _ (SP.norm A) (SP.norm A) _ (N1.out.keep (by repeat' (first | exact Below.refl _ _ | refine balloc ?_ _ | refine below_drewN ?_ _))).row (N1.out.keep (by repeat' (first | exact Below.refl _ _ | refine balloc ?_ _ | refine below_drewN ?_ _))).row (IA.norm.r (by decide)) (IA.norm.r (by decide))).mono ?_
  rintro e w9 ⟨u9, rfl, h9, hb9⟩
  obtain ⟨p9, q9, rfl⟩ := own_shape h9
  replace RA := Lib.hid ((RA.out.keep (by repeat' (first | exact Below.refl _ _ | refine balloc ?_ _ | refine below_drewN ?_ _))).keep hb9)
  replace RB := Lib.hid ((RB.out.keep (by repeat' (first | exact Below.refl _ _ | refine balloc ?_ _ | refine below_drewN ?_ _))).keep hb9)
  replace N1 := Lib.hid ((N1.out.keep (by repeat' (first | exact Below.refl _ _ | refine balloc ?_ _ | refine below_drewN ?_ _))).keep hb9)
  replace N2 := Lib.hid ((N2.out.keep (by repeat' (first | exact Below.refl _ _ | refine balloc ?_ _ | refine below_drewN ?_ _))).keep hb9)
  replace acc := bnext (w := w) (by repeat' (first | exact acc | refine balloc ?_ _ | refine below_drewN ?_ _)) hb9
  have O9 := Lib.hid (Wrow.of (b0 := w5.heap.size) h9 (by have := SP.meet_len (SP.norm A) (SP.norm A); have := SP.norm_len A; have := IA.1; omega) hsz)
  replace O6 := Lib.hid ((O6.out.keep hb9 (Nat.le_refl _)).mono hb9.size)
  replace O7 := Lib.hid ((O7.out.keep hb9 (Nat.le_refl _)).mono hb9.size)
  replace O8 := Lib.hid ((O8.out.keep hb9 (Nat.le_refl _)).mono hb9.size)
  replace hsz := Nat.le_trans hsz hb9.size
  replace acc0 := bnext (w := w5) acc0 hb9
  clear h9 hb9
  go_wp2_with fail
  refine (less_any _ _ (SP.norm A) B _ (N1.out.keep (by repeat' (first | exact Below.refl _ _ | refine balloc ?_ _ | refine below_drewN ?_ _))).row (RB.out.keep (by repeat' (first | exact Below.refl _ _ | refine balloc ?_ _ | refine below_drewN ?_ _))).row (IA.norm.r (by decide)) (IB.r (by decide))).mono ?_
  rintro e w10 ⟨u10, rfl, h10, hb10⟩
  obtain ⟨p10, q10, rfl⟩ := own_shape h10
  replace RA := Lib.hid ((RA.out.keep (by repeat' (first | exact Below.refl _ _ | refine balloc ?_ _ | refine below_drewN ?_ _))).keep hb10)
  replace RB := Lib.hid ((RB.out.keep (by repeat' (first | exact Below.refl _ _ | refine balloc ?_ _ | refine below_drewN ?_ _))).keep hb10)
  replace N1 := Lib.hid ((N1.out.keep (by repeat' (first | exact Below.refl _ _ | refine balloc ?_ _ | refine below_drewN ?_ _))).keep hb10)
  replace N2 := Lib.hid ((N2.out.keep (by repeat' (first | exact Below.refl _ _ | refine balloc ?_ _ | refine below_drewN ?_ _))).keep hb10)
  replace acc := bnext (w := w) (by repeat' (first | exact acc | refine balloc ?_ _ | refine below_drewN ?_ _)) hb10
  have O10 := Lib.hid (Wrow.of (b0 := w5.heap.size) h10 (by have := SP.less_len (SP.norm A) B; have := SP.norm_len A; have := IA.1; omega) hsz)
  replace O6 := Lib.hid ((O6.out.keep hb10 (Nat.le_refl _)).mono hb10.size)
  replace O7 := Lib.hid ((O7.out.keep hb10 (Nat.le_refl _)).mono hb10.size)
  replace O8 := Lib.hid ((O8.out.keep hb10 (Nat.le_refl _)).mono hb10.size)
  replace O9 := Lib.hid ((O9.out.keep hb10 (Nat.le_refl _)).mono hb10.size)
  replace hsz := Nat.le_trans hsz hb10.size
  replace acc0 := bnext (w := w5) acc0 hb10
  clear h10 hb10
  go_wp2_with fail
  obtain ⟨V, hV⟩ : ∃ V : List Value, [.slice p6 (SP.norm (SP.norm A)).length q6, .slice p7 (SP.join (SP.norm A) []).length q7, .slice p8 (SP.join [] (SP.norm A)).length q8, .slice p9 (SP.meet (SP.norm A) (SP.norm A)).length q9, .slice p10 (SP.less (SP.norm A) B).length q10] = V := ⟨_, rfl⟩
  have HV5 : Hid (V.length = 5) := Lib.hid (by rw [← hV]; rfl)
  have H5 : Hid (∀ W : World, Below w10.heap.size w10 W → (∀ j (h : j < V.length), W.cell? ⟨w10.heap.size, j, none⟩ = some V[j]) → Five w5.heap.size w10.heap.size V W) := Lib.hid fun W hW hc => ⟨hc, by rw [← hV]; intro v hv; simp only [List.mem_cons, List.not_mem_nil, or_false] at hv; rcases hv with rfl | rfl | rfl | rfl | rfl <;> first | exact O6.out.keep hW (Nat.le_refl _) | exact O7.out.keep hW (Nat.le_refl _) | exact O8.out.keep hW (Nat.le_refl _) | exact O9.out.keep hW (Nat.le_refl _) | exact O10.out.keep hW (Nat.le_refl _)⟩
  have H0 : Hid (Five w5.heap.size w10.heap.size V (w10.alloc (.cells V.toArray 22))) := Lib.hid (H5.out _ (balloc (Below.refl _ _) _) (fun j hj => by rw [World.cell?_alloc_at _ _ _ _ rfl]; simp))
  rw [← hV] at H0
  have HVe := Lib.hid hV
  clear hV H5 O6 O7 O8 O9 O10
  go_loopw [34] (fun i wr => ∃ k : Nat, k ≤ 5 ∧ i = .int .i64 k ∧ Five w5.heap.size w10.heap.size V wr ∧ Below w5.heap.size w5 wr) (fun i _ => 5 - (intOf i).toNat)
  case atStart => exact ⟨0, by omega, rfl, by rw [← HVe.out]; exact H0.out, balloc acc0 _⟩
  case round =>
    clear H0
    obtain ⟨k, hk, rfl, h5, hb⟩ := hrel
    by_cases hk5 : k < 5
    · have hkV : k < V.length := by rw [HV5.out]; exact hk5
      have hcell := h5.1 k hkV
      obtain ⟨a, nn, c, hv, hn, _⟩ := (h5.2 V[k] (List.getElem_mem hkV)).out
      rw [hv] at hcell
      have HM : Hid (Value.slice a nn c ∈ V) := Lib.hid (hv ▸ List.getElem_mem hkV)
      have H5' := Lib.hid h5
      clear hv h5 hkV
      have hki : (k : Int) < 5 := by omega
      go_wp2
      obtain ⟨wo, hwo⟩ : ∃ wo : World, wo = wr := ⟨_, rfl⟩
      subst hwo
      go_loopw [10] (fun i wi => ∃ j : Nat, j ≤ nn ∧ i = .int .i64 j ∧ Five w5.heap.size w10.heap.size V wi ∧ Below w5.heap.size w5 wi) (fun i _ => nn - (intOf i).toNat)
      case atStart => exact ⟨0, by omega, rfl, H5'.out, hb⟩
      case round =>
        clear H5' hb hcell
        obtain ⟨j, hj, rfl, h5, hb⟩ := hrel
        have H5 := Lib.hid h5
        by_cases hjn : j < nn
        · obtain ⟨a', n', c', he, _, hh⟩ := (h5.2 _ HM.out).out
          injection he with e1 e2 e3
          subst e1 e2 e3
          rcases hh with hh | ⟨g, rfl, hg0, hg1, hcs⟩
          · omega
          · obtain ⟨hs, hf⟩ := hcs j hjn
            obtain ⟨z, hz⟩ := Option.isSome_iff_exists.1 hs
            have hji : (j : Int) < (nn : Int) := by omega
            clear hs hcs h5
            go_wp2
            go_roundw
            case rel => exact ⟨j + 1, by omega, by go_num, H5.out.set (p := ⟨g, j, none⟩) hg1 _, hb.setCell (p := ⟨g, j, none⟩) hg0 _⟩
            case measure => simp [intOf]; omega
        · clear h5
          go_wp2
          go_roundw
          case rel => exact ⟨k + 1, by omega, by go_num, H5.out, hb⟩
          case measure => simp [intOf]; omega
    · have accz := bnext (w := w) acc' hb
      replace N1 := Lib.hid (N1'.out.keep hb)
      replace N2 := Lib.hid (N2'.out.keep hb)
      clear h5 hb
      go_wp2_with fail
      refine (same_t _ _ (SP.norm A) (SP.norm A) _ (N1.out.keep (by repeat' (first | exact Below.refl _ _ | refine balloc ?_ _ | refine below_drewN ?_ _))).row (N2.out.keep (by repeat' (first | exact Below.refl _ _ | refine balloc ?_ _ | refine below_drewN ?_ _))).row rfl (by have := SP.norm_len A; have := IA.1; omega)).mono ?_
      rintro e w11 ⟨rfl, hb11⟩
      replace N1 := Lib.hid ((N1.out.keep (by repeat' (first | exact Below.refl _ _ | refine balloc ?_ _ | refine below_drewN ?_ _))).keep hb11)
      replace N2 := Lib.hid ((N2.out.keep (by repeat' (first | exact Below.refl _ _ | refine balloc ?_ _ | refine below_drewN ?_ _))).keep hb11)
      replace accz := bnext (w := w) (by repeat' (first | exact accz | refine balloc ?_ _ | refine below_drewN ?_ _)) hb11
      clear hb11
      go_wp2_with fail
      go_ret
      exact ⟨rfl, accz⟩

set_option maxRecDepth 100000 in
theorem lifted (os : Os) (started : os.Started) (H : Type) (enc : TypeId × Value → H) :
    ReturnsInHanded {} Try.checked os 9 .any (Rows.setsOwnSpec.pre6 enc Try.prog Try.f9 Rows.setsOwnRow.domain false) (Rows.setsOwnSpec.post enc Try.prog Try.f9 false true false false) := by
  refine returnsInHanded_of_change (C := Try.checked) own started (by kernel_rfl) Try.func9
    (ChangeSpec.witness6 (enc := enc) (C := Try.checked) false ⟨#[], #[.slice none 0 0, .slice none 0 0], []⟩ 8 (by kernel_rfl) (by kernel_rfl) (by kernel_rfl) (by kernel_rfl)) ?_
  intro W base args ds gs before hval0 hW hcnd _
  have hval : ∀ (j : Nat) t v, Try.f9.params[j]? = some t → args[j]? = some v → Value.okWide Try.prog W .any base t v := hval0
  have hW' := hW
  obtain ⟨p, q, hA0, hV, rfl, hfz, hnd⟩ := hW
  have hA : DataW.TrodAll enc Try.prog W 0 (fun _ => true) true Try.f9.params.toList args.toList ds p := hA0
  rw [Try.params9] at hA hval
  obtain ⟨v0, vs0, d0, ds0, p0, q0, hargs, rfl, rfl, h0, r0⟩ := trodAll_cons hA
  obtain ⟨v1, vs1, d1, ds1, p1, q1, rfl, rfl, rfl, h1, r1⟩ := trodAll_cons r0
  obtain ⟨rfl, rfl, rfl⟩ := trodAll_nil r1
  obtain rfl : args = #[v0, v1] := by cases args; simp_all
  obtain ⟨rfl, rfl⟩ := trodVars_none hV
  have k0 := h0
  have lt0 : ∀ x ∈ p0, x.block < W.heap.size := by obtain ⟨m, hm⟩ := k0; exact DataW.trod_lt m _ _ _ hm
  have k1 := h1
  have lt1 : ∀ x ∈ p1, x.block < W.heap.size := by obtain ⟨m, hm⟩ := k1; exact DataW.trod_lt m _ _ _ hm
  obtain ⟨a0, H0, L0, E0⟩ := open_ls (hval 0 22 v0 rfl rfl) h0
  obtain ⟨a1, H1, L1, E1⟩ := open_ls (hval 1 22 v1 rfl rfl) h1
  clear hA0 hval0
  refine (walk v0 a0 v1 a1  W H0 L0 E0 H1 L1 E1).mono fun e W' ⟨he, bel⟩ => ?_
  subst he
  exact ⟨_, rfl, _, _, _, [], _, [], hW', trodAll_mk1 (shut_bool Try.underlying4 _), (trodAll_cons_mk (Below.trod laidOut (by kernel_rfl) (of_decide_eq_true (by kernel_rfl)) k0 bel lt0) (trodAll_cons_mk (Below.trod laidOut (by kernel_rfl) (of_decide_eq_true (by kernel_rfl)) k1 bel lt1) trodAll_mk0)), rfl, bel.frame _, fun h => by cases h⟩

theorem over : Rows.setsOwnRow.holds Try.pinned (OpenSpec.ofChange Rows.setsOwnSpec) :=
  OpenClaim.holds_of_wide 9 Try.f9 rfl rfl rfl rfl rfl rfl rfl ⟨rfl, rfl, rfl, rfl, rfl⟩ rfl rfl rfl rfl rfl (by kernel_rfl) Try.func9 (by kernel_rfl)
    (of_decide_eq_true (by kernel_rfl)) (by unfold Func.isWrapper; first | (rw [if_pos (by decide +kernel)]; kernel_rfl) | (rw [if_neg (by decide +kernel)]; exact ⟨rfl, rfl⟩))
    (fun os started H enc _ => lifted os started H enc)

end Go.Proofs.Ytamhhbgakaokgaa.setsOwn
namespace Go.Proofs.Ytamhhbgakaokgaa
theorem setsOwn_proved : Rows.SetsOwnSaid := setsOwn.over
#print axioms setsOwn_proved
end Go.Proofs.Ytamhhbgakaokgaa
