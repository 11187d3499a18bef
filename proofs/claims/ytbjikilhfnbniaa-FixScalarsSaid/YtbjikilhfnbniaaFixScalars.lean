/- For all numbers of three scalars products do not depend on the order, are right and have the value of the product: FixScalars returns true. -/
import Derived.Test.YtbjikilhfnbniaaRows
import Derived.Deep.RegionWith
import Derived.Deep.RegionHeld3
import Derived.Deep.DeepCutAuto
import Derived.Test.YtbjikilhfnbniaaFixDag
import Derived.Test.YtbjikilhfnbniaaFixScalarsPlain
namespace Go.Proofs.Ytbjikilhfnbniaa.fixScalars
open Go.ChangeShapes Go.WideShapes Go.ChangeAt Go.RowKit Go.Joins Go.Deep
set_option linter.unusedVariables false

theorem kp {w w1 wx : World} {a0 b0 c0 a1 b1 c1 : Int} (q0 : w1.cell? ⟨w.heap.size, 0, none⟩ = some (.int .i64 a0)) (q1 : w1.cell? ⟨w.heap.size, 1, none⟩ = some (.int .i64 b0)) (q2 : w1.cell? ⟨w.heap.size, 2, none⟩ = some (.int .i64 c0)) (q3 : w1.cell? ⟨w.heap.size + 1, 0, none⟩ = some (.int .i64 a1)) (q4 : w1.cell? ⟨w.heap.size + 1, 1, none⟩ = some (.int .i64 b1)) (q5 : w1.cell? ⟨w.heap.size + 1, 2, none⟩ = some (.int .i64 c1)) (hv1 : w.heap.size < w1.heap.size) (hu1 : w.heap.size + 1 < w1.heap.size) (h : Below w1.heap.size w1 wx) :
    Below w1.heap.size w1 wx ∧ wx.cell? ⟨w.heap.size, 0, none⟩ = some (.int .i64 a0) ∧ wx.cell? ⟨w.heap.size, 1, none⟩ = some (.int .i64 b0) ∧ wx.cell? ⟨w.heap.size, 2, none⟩ = some (.int .i64 c0) ∧ wx.cell? ⟨w.heap.size + 1, 0, none⟩ = some (.int .i64 a1) ∧ wx.cell? ⟨w.heap.size + 1, 1, none⟩ = some (.int .i64 b1) ∧ wx.cell? ⟨w.heap.size + 1, 2, none⟩ = some (.int .i64 c1) :=
  ⟨h, (h.cell (p := ⟨w.heap.size, 0, none⟩) hv1).trans q0, (h.cell (p := ⟨w.heap.size, 1, none⟩) hv1).trans q1, (h.cell (p := ⟨w.heap.size, 2, none⟩) hv1).trans q2, (h.cell (p := ⟨w.heap.size + 1, 0, none⟩) hu1).trans q3, (h.cell (p := ⟨w.heap.size + 1, 1, none⟩) hu1).trans q4, (h.cell (p := ⟨w.heap.size + 1, 2, none⟩) hu1).trans q5⟩
def Pair (g : Nat) (x y : Int) (wx : World) : Prop := g < wx.heap.size ∧ wx.cell? ⟨g, 0, none⟩ = some (.int .i64 x) ∧ wx.cell? ⟨g, 1, none⟩ = some (.int .i64 y)
theorem Pr.pair {V : World} {g : Nat} {x y : Int} (h : Pr V g x y) : Pair g x y V := by
  unfold Pr at h
  exact ⟨(Array.getElem?_eq_some_iff.1 h).1, by simp [World.cell?, h], by simp [World.cell?, h]⟩
/-- What holds behind the statement that makes the three right scalars. -/
def Cut2 (w : World) (N0 D0 N1 D1 N2 D2 : Int) (s6 s7 s8 : Value) (wx : World) : Prop :=
  ∃ g h m : Nat, s6 = .pointer (some ⟨g, 0, none⟩) ∧ s7 = .pointer (some ⟨h, 0, none⟩) ∧ s8 = .pointer (some ⟨m, 0, none⟩) ∧ Pair g N0 D0 wx ∧ Pair h N1 D1 wx ∧ Pair m N2 D2 wx ∧ Below w.heap.size w wx

set_option maxRecDepth 100000 in
set_option maxHeartbeats 20000000 in
theorem walk (a0 : Int) (b0 : Int) (c0 : Int) (a1 : Int) (b1 : Int) (c1 : Int) (wa0 : (Lit.int .i64 a0).wf = true) (wb0 : (Lit.int .i64 b0).wf = true) (wc0 : (Lit.int .i64 c0).wf = true) (wa1 : (Lit.int .i64 a1).wf = true) (wb1 : (Lit.int .i64 b1).wf = true) (wc1 : (Lit.int .i64 c1).wf = true) (w : World) :
    Calls Try.prog 7 #[.agg #[.int .i64 a0, .int .i64 b0, .int .i64 c0], .agg #[.int .i64 a1, .int .i64 b1, .int .i64 c1]] w fun e w' => e = .returned (.bool true) ∧ Below w.heap.size w w' := by
  go_enter Try.func7, Try.ntmps7
  go_wp2_with (go_at_call 11; refine (sanity_any _).mono ?_; rintro e w1 ⟨rfl, hb1⟩; obtain ⟨hc1, hf1⟩ := bcell hb1; have hz1 := hb1.size; (try simp at hz1); have hv1 : w.heap.size < w1.heap.size := (by omega); have hu1 : w.heap.size + 1 < w1.heap.size := (by omega))
  have q0 : w1.cell? ⟨w.heap.size, 0, none⟩ = some (.int .i64 a0) := by rw [hc1 _ _ (by simp; omega)]; rw [World.cell?_alloc_past _ _ _ (by simp), World.cell?_alloc_at _ _ _ _ (by simp)]; rfl
  have q1 : w1.cell? ⟨w.heap.size, 1, none⟩ = some (.int .i64 b0) := by rw [hc1 _ _ (by simp; omega)]; rw [World.cell?_alloc_past _ _ _ (by simp), World.cell?_alloc_at _ _ _ _ (by simp)]; rfl
  have q2 : w1.cell? ⟨w.heap.size, 2, none⟩ = some (.int .i64 c0) := by rw [hc1 _ _ (by simp; omega)]; rw [World.cell?_alloc_past _ _ _ (by simp), World.cell?_alloc_at _ _ _ _ (by simp)]; rfl
  have q3 : w1.cell? ⟨w.heap.size + 1, 0, none⟩ = some (.int .i64 a1) := by rw [hc1 _ _ (by simp; done)]; rw [World.cell?_alloc_at _ _ _ _ (by simp)]; rfl
  have q4 : w1.cell? ⟨w.heap.size + 1, 1, none⟩ = some (.int .i64 b1) := by rw [hc1 _ _ (by simp; done)]; rw [World.cell?_alloc_at _ _ _ _ (by simp)]; rfl
  have q5 : w1.cell? ⟨w.heap.size + 1, 2, none⟩ = some (.int .i64 c1) := by rw [hc1 _ _ (by simp; done)]; rw [World.cell?_alloc_at _ _ _ _ (by simp)]; rfl
  have hbw : Below w.heap.size w w1 := by repeat' (first | exact Below.refl _ _ | (with_reducible assumption) | (refine bnext ?_ (by with_reducible assumption)) | (refine balloc ?_ _) | (refine below_drewN ?_ _) | (refine Below.drew ?_) | (refine bset ?_ (by simp; try omega) _))
  clear hc1 hf1 hb1 wa0 wb0 wc0 wa1 wb1 wc1
  go_cut [6, 7, 8] (fun s6 s7 s8 wx => Cut2 w (FP.madeN a0 a1) (FP.madeD a0 a1) (FP.madeN b0 b1) (FP.madeD b0 b1) (FP.madeN c0 c1) (FP.madeD c0 c1) s6 s7 s8 wx)
  case first =>
    refine wp_region_held_drew (S := fun w' => Below w1.heap.size w1 w' ∧ w'.cell? ⟨w.heap.size, 0, none⟩ = some (.int .i64 a0) ∧ w'.cell? ⟨w.heap.size, 1, none⟩ = some (.int .i64 b0) ∧ w'.cell? ⟨w.heap.size, 2, none⟩ = some (.int .i64 c0) ∧ w'.cell? ⟨w.heap.size + 1, 0, none⟩ = some (.int .i64 a1) ∧ w'.cell? ⟨w.heap.size + 1, 1, none⟩ = some (.int .i64 b1) ∧ w'.cell? ⟨w.heap.size + 1, 2, none⟩ = some (.int .i64 c1)) (by kernel_rfl) ?_ (fun hHeld => ?_)
    · exact kp q0 q1 q2 q3 q4 q5 hv1 hu1 (Below.refl _ _).drew
    refine wpAnyH_take (i := 0) (oi := { dst := some 24, op := Op.indexAddr 42 (Operand.tmp 2) (Operand.const (Value.int IntKind.i64 0)), type := 0, pos := "law.go:109", after := #[], guard := none }) (v := ?_) rfl (by kernel_rfl) (by kernel_rfl) (by kernel_rfl) (fun _ _ _ h => h) (Or.inl ⟨by rfl, ?_⟩) (by assumption) ?_
    rotate_left
    · ((intro w hSw; (try dsimp only at hSw); go_simp); try with_reducible rfl)
    (try simp only [Act.put, List.setIfInBounds_toArray, List.set_cons_zero, List.set_cons_succ])
    refine wpAnyH_take (i := 1) (oi := { dst := some 25, op := Op.load 3 (Operand.tmp 24), type := 3, pos := "law.go:109", after := #[{ on := 0, ground := Ground.data }], guard := none }) (v := ?_) rfl (by kernel_rfl) (by kernel_rfl) (by kernel_rfl) (fun _ _ _ h => h) (Or.inl ⟨by rfl, ?_⟩) (by assumption) ?_
    rotate_left
    · ((intro w hSw; (try dsimp only at hSw); go_simp); try with_reducible rfl)
    (try simp only [Act.put, List.setIfInBounds_toArray, List.set_cons_zero, List.set_cons_succ])
    refine wpAnyH_take (i := 2) (oi := { dst := some 26, op := Op.indexAddr 42 (Operand.tmp 3) (Operand.const (Value.int IntKind.i64 0)), type := 0, pos := "law.go:109", after := #[], guard := none }) (v := ?_) rfl (by kernel_rfl) (by kernel_rfl) (by kernel_rfl) (fun _ _ _ h => h) (Or.inl ⟨by rfl, ?_⟩) (by assumption) ?_
    rotate_left
    · ((intro w hSw; (try dsimp only at hSw); go_simp); try with_reducible rfl)
    (try simp only [Act.put, List.setIfInBounds_toArray, List.set_cons_zero, List.set_cons_succ])
    refine wpAnyH_take (i := 3) (oi := { dst := some 27, op := Op.load 3 (Operand.tmp 26), type := 3, pos := "law.go:109", after := #[{ on := 2, ground := Ground.data }], guard := none }) (v := ?_) rfl (by kernel_rfl) (by kernel_rfl) (by kernel_rfl) (fun _ _ _ h => h) (Or.inl ⟨by rfl, ?_⟩) (by assumption) ?_
    rotate_left
    · ((intro w hSw; (try dsimp only at hSw); go_simp); try with_reducible rfl)
    (try simp only [Act.put, List.setIfInBounds_toArray, List.set_cons_zero, List.set_cons_succ])
    refine wpAnyH_take (i := 5) (oi := { dst := some 29, op := Op.indexAddr 42 (Operand.tmp 2) (Operand.const (Value.int IntKind.i64 1)), type := 0, pos := "law.go:109", after := #[], guard := none }) (v := ?_) rfl (by kernel_rfl) (by kernel_rfl) (by kernel_rfl) (fun _ _ _ h => h) (Or.inl ⟨by rfl, ?_⟩) (by assumption) ?_
    rotate_left
    · ((intro w hSw; (try dsimp only at hSw); go_simp); try with_reducible rfl)
    (try simp only [Act.put, List.setIfInBounds_toArray, List.set_cons_zero, List.set_cons_succ])
    refine wpAnyH_take (i := 6) (oi := { dst := some 30, op := Op.load 3 (Operand.tmp 29), type := 3, pos := "law.go:109", after := #[{ on := 5, ground := Ground.data }], guard := none }) (v := ?_) rfl (by kernel_rfl) (by kernel_rfl) (by kernel_rfl) (fun _ _ _ h => h) (Or.inl ⟨by rfl, ?_⟩) (by assumption) ?_
    rotate_left
    · ((intro w hSw; (try dsimp only at hSw); go_simp); try with_reducible rfl)
    (try simp only [Act.put, List.setIfInBounds_toArray, List.set_cons_zero, List.set_cons_succ])
    refine wpAnyH_take (i := 7) (oi := { dst := some 31, op := Op.indexAddr 42 (Operand.tmp 3) (Operand.const (Value.int IntKind.i64 1)), type := 0, pos := "law.go:109", after := #[], guard := none }) (v := ?_) rfl (by kernel_rfl) (by kernel_rfl) (by kernel_rfl) (fun _ _ _ h => h) (Or.inl ⟨by rfl, ?_⟩) (by assumption) ?_
    rotate_left
    · ((intro w hSw; (try dsimp only at hSw); go_simp); try with_reducible rfl)
    (try simp only [Act.put, List.setIfInBounds_toArray, List.set_cons_zero, List.set_cons_succ])
    refine wpAnyH_take (i := 8) (oi := { dst := some 32, op := Op.load 3 (Operand.tmp 31), type := 3, pos := "law.go:109", after := #[{ on := 7, ground := Ground.data }], guard := none }) (v := ?_) rfl (by kernel_rfl) (by kernel_rfl) (by kernel_rfl) (fun _ _ _ h => h) (Or.inl ⟨by rfl, ?_⟩) (by assumption) ?_
    rotate_left
    · ((intro w hSw; (try dsimp only at hSw); go_simp); try with_reducible rfl)
    (try simp only [Act.put, List.setIfInBounds_toArray, List.set_cons_zero, List.set_cons_succ])
    refine wpAnyH_take (i := 10) (oi := { dst := some 34, op := Op.indexAddr 42 (Operand.tmp 2) (Operand.const (Value.int IntKind.i64 2)), type := 0, pos := "law.go:109", after := #[], guard := none }) (v := ?_) rfl (by kernel_rfl) (by kernel_rfl) (by kernel_rfl) (fun _ _ _ h => h) (Or.inl ⟨by rfl, ?_⟩) (by assumption) ?_
    rotate_left
    · ((intro w hSw; (try dsimp only at hSw); go_simp); try with_reducible rfl)
    (try simp only [Act.put, List.setIfInBounds_toArray, List.set_cons_zero, List.set_cons_succ])
    refine wpAnyH_take (i := 11) (oi := { dst := some 35, op := Op.load 3 (Operand.tmp 34), type := 3, pos := "law.go:109", after := #[{ on := 10, ground := Ground.data }], guard := none }) (v := ?_) rfl (by kernel_rfl) (by kernel_rfl) (by kernel_rfl) (fun _ _ _ h => h) (Or.inl ⟨by rfl, ?_⟩) (by assumption) ?_
    rotate_left
    · ((intro w hSw; (try dsimp only at hSw); go_simp); try with_reducible rfl)
    (try simp only [Act.put, List.setIfInBounds_toArray, List.set_cons_zero, List.set_cons_succ])
    refine wpAnyH_take (i := 12) (oi := { dst := some 36, op := Op.indexAddr 42 (Operand.tmp 3) (Operand.const (Value.int IntKind.i64 2)), type := 0, pos := "law.go:109", after := #[], guard := none }) (v := ?_) rfl (by kernel_rfl) (by kernel_rfl) (by kernel_rfl) (fun _ _ _ h => h) (Or.inl ⟨by rfl, ?_⟩) (by assumption) ?_
    rotate_left
    · ((intro w hSw; (try dsimp only at hSw); go_simp); try with_reducible rfl)
    (try simp only [Act.put, List.setIfInBounds_toArray, List.set_cons_zero, List.set_cons_succ])
    refine wpAnyH_take (i := 13) (oi := { dst := some 37, op := Op.load 3 (Operand.tmp 36), type := 3, pos := "law.go:109", after := #[{ on := 12, ground := Ground.data }], guard := none }) (v := ?_) rfl (by kernel_rfl) (by kernel_rfl) (by kernel_rfl) (fun _ _ _ h => h) (Or.inl ⟨by rfl, ?_⟩) (by assumption) ?_
    rotate_left
    · ((intro w hSw; (try dsimp only at hSw); go_simp); try with_reducible rfl)
    (try simp only [Act.put, List.setIfInBounds_toArray, List.set_cons_zero, List.set_cons_succ])
    refine nd0_ w w1 a0 b0 c0 a1 b1 c1 (fun V hV => kp q0 q1 q2 q3 q4 q5 hv1 hu1 hV) ?_ w1.drew _ (by kernel_rfl) (Below.refl _ _).drew
    intro V listed hl hV g6 l6 z6 g7 l7 z7 g8 l8 z8 n67 n68 n78
    refine stores w w1 a0 b0 c0 a1 b1 c1 (fun V hV => kp q0 q1 q2 q3 q4 q5 hv1 hu1 hV) ?_ V listed hl hV g6 l6 z6 g7 l7 z7 g8 l8 z8 n67 n68 n78
    intro V3 g6 g7 g8 hb3 p6 p7 p8
    go_wp2_with fail
    go_meet
    exact ⟨g6, g7, g8, rfl, rfl, rfl, p6.pair, p7.pair, p8.pair, bnext hbw hb3⟩
  case rest =>
    obtain ⟨g, h, m, rfl, rfl, rfl, ⟨gs, g0, g1⟩, ⟨hs, h0, h1⟩, ⟨ms, m0, m1⟩, hbd⟩ := hcut
    clear q0 q1 q2 q3 q4 q5 hbw hu1 hv1 hz1
    obtain ⟨k0, k0'⟩ := FP.made_rgt a0 a1
    obtain ⟨k1, k1'⟩ := FP.made_rgt b0 b1
    obtain ⟨k2, k2'⟩ := FP.made_rgt c0 c1
    generalize FP.madeN a0 a1 = N0 at *
    generalize FP.madeD a0 a1 = D0 at *
    generalize FP.madeN b0 b1 = N1 at *
    generalize FP.madeD b0 b1 = D1 at *
    generalize FP.madeN c0 c1 = N2 at *
    generalize FP.madeD c0 c1 = D2 at *
    rename World => wd
    obtain ⟨p, q, r, s, u, v, e1, e2, e3, e4, e5, hpq, hq, huv, hf⟩ := FP.times_assoc N0 D0 N1 D1 N2 D2 k0 k1 k2 k0' k1' k2'
    have e6 := FP.times_one N0 D0 k0
    have e7 := FP.times_zero N0 D0 k0
    obtain ⟨x1, x2, x3, x4, x5⟩ := hpq
    obtain ⟨i1, i2, i3, i4, i5⟩ := k0
    obtain ⟨j1, j2, j3, j4, j5⟩ := k1
    obtain ⟨f0, f1⟩ := FP.mul_bd p D0 4096 64 (by omega) (by omega)
    obtain ⟨f2, f3⟩ := FP.mul_bd (p * D0) D1 262144 64 (by omega) (by omega)
    obtain ⟨f4, f5⟩ := FP.mul_bd q N0 4096 64 (by omega) (by omega)
    obtain ⟨f6, f7⟩ := FP.mul_bd (q * N0) N1 262144 64 (by omega) (by omega)
    have hprod : (p * D0 * D1 == q * N0 * N1) = true := by
      rw [beq_iff_eq, Int.mul_assoc, hf, Int.mul_comm _ q, Int.mul_assoc]
    clear x5 i5 j5 hf k2 k2'
    go_wp2_with fail
    refine (times_any _ _ _ _ _).mono ?_
    rintro e t1 ⟨rfl, hb1⟩
    obtain ⟨hc1, _⟩ := bcell hb1
    have hz1 := hb1.size
    (try simp at hz1)
    have ga1 : g < t1.heap.size := by omega
    have ha1 : h < t1.heap.size := by omega
    have ma1 : m < t1.heap.size := by omega
    go_wp2_with fail
    refine (times_any _ _ _ _ _).mono ?_
    rintro e t2 ⟨rfl, hb2⟩
    obtain ⟨hc2, _⟩ := bcell hb2
    have hz2 := hb2.size
    (try simp at hz2)
    have ga2 : g < t2.heap.size := by omega
    have ha2 : h < t2.heap.size := by omega
    have ma2 : m < t2.heap.size := by omega
    have y12 : t1.heap.size < t2.heap.size := by omega
    go_wp2_with fail
    refine (times_any _ _ _ _ _).mono ?_
    rintro e t3 ⟨rfl, hb3⟩
    obtain ⟨hc3, _⟩ := bcell hb3
    have hz3 := hb3.size
    (try simp at hz3)
    have ga3 : g < t3.heap.size := by omega
    have ha3 : h < t3.heap.size := by omega
    have ma3 : m < t3.heap.size := by omega
    have y13 : t1.heap.size < t3.heap.size := by omega
    have y23 : t2.heap.size < t3.heap.size := by omega
    go_wp2_with fail
    refine (times_any _ _ _ _ _).mono ?_
    rintro e t4 ⟨rfl, hb4⟩
    obtain ⟨hc4, _⟩ := bcell hb4
    have hz4 := hb4.size
    (try simp at hz4)
    have ga4 : g < t4.heap.size := by omega
    have ha4 : h < t4.heap.size := by omega
    have ma4 : m < t4.heap.size := by omega
    have y14 : t1.heap.size < t4.heap.size := by omega
    have y24 : t2.heap.size < t4.heap.size := by omega
    have y34 : t3.heap.size < t4.heap.size := by omega
    go_wp2_with fail
    refine (times_any _ _ _ _ _).mono ?_
    rintro e t5 ⟨rfl, hb5⟩
    obtain ⟨hc5, _⟩ := bcell hb5
    have hz5 := hb5.size
    (try simp at hz5)
    have ga5 : g < t5.heap.size := by omega
    have ha5 : h < t5.heap.size := by omega
    have ma5 : m < t5.heap.size := by omega
    have y15 : t1.heap.size < t5.heap.size := by omega
    have y25 : t2.heap.size < t5.heap.size := by omega
    have y35 : t3.heap.size < t5.heap.size := by omega
    have y45 : t4.heap.size < t5.heap.size := by omega
    go_wp2_with fail
    refine (times_any _ _ _ _ _).mono ?_
    rintro e t6 ⟨rfl, hb6⟩
    obtain ⟨hc6, _⟩ := bcell hb6
    have hz6 := hb6.size
    (try simp at hz6)
    have ga6 : g < t6.heap.size := by omega
    have ha6 : h < t6.heap.size := by omega
    have ma6 : m < t6.heap.size := by omega
    have y16 : t1.heap.size < t6.heap.size := by omega
    have y26 : t2.heap.size < t6.heap.size := by omega
    have y36 : t3.heap.size < t6.heap.size := by omega
    have y46 : t4.heap.size < t6.heap.size := by omega
    have y56 : t5.heap.size < t6.heap.size := by omega
    go_wp2_with fail
    refine (times_any _ _ _ _ _).mono ?_
    rintro e t7 ⟨rfl, hb7⟩
    obtain ⟨hc7, _⟩ := bcell hb7
    have hz7 := hb7.size
    (try simp at hz7)
    have ga7 : g < t7.heap.size := by omega
    have ha7 : h < t7.heap.size := by omega
    have ma7 : m < t7.heap.size := by omega
    have y17 : t1.heap.size < t7.heap.size := by omega
    have y27 : t2.heap.size < t7.heap.size := by omega
    have y37 : t3.heap.size < t7.heap.size := by omega
    have y47 : t4.heap.size < t7.heap.size := by omega
    have y57 : t5.heap.size < t7.heap.size := by omega
    have y67 : t6.heap.size < t7.heap.size := by omega
    go_wp2
    all_goals
      go_ret
      exact ⟨by first | rfl | (apply retb; simp; done) | (apply retb; simp; omega), by repeat' (first | exact Below.refl _ _ | (with_reducible assumption) | (refine bnext ?_ (by with_reducible assumption)) | (refine balloc ?_ _) | (refine below_drewN ?_ _) | (refine Below.drew ?_) | (refine bset ?_ (by simp; try omega) _))⟩

set_option maxRecDepth 100000 in
theorem lifted (os : Os) (started : os.Started) (H : Type) (enc : TypeId × Value → H) :
    ReturnsInHanded {} Try.checked os 7 .any (Rows.fixScalarsSpec.pre6 enc Try.prog Try.f7 Rows.fixScalarsRow.domain false) (Rows.fixScalarsSpec.post enc Try.prog Try.f7 false true false false) := by
  refine returnsInHanded_of_change (C := Try.checked) ownKnob_none started (by kernel_rfl) Try.func7
    (ChangeSpec.witness6 (enc := enc) (C := Try.checked) false ⟨#[], #[.agg #[.int .i64 0, .int .i64 0, .int .i64 0], .agg #[.int .i64 0, .int .i64 0, .int .i64 0]], []⟩ 8 (by kernel_rfl) (by kernel_rfl) (by kernel_rfl) (by kernel_rfl)) ?_
  intro W base args ds gs before hval0 hW hcnd _
  have hval : ∀ (j : Nat) t v, Try.f7.params[j]? = some t → args[j]? = some v → Value.okWide Try.prog W .any base t v := hval0
  have hW' := hW
  obtain ⟨p, q, hA0, hV, rfl, hfz, hnd⟩ := hW
  have hA : DataW.TrodAll enc Try.prog W 0 (fun _ => true) true Try.f7.params.toList args.toList ds p := hA0
  rw [Try.params7] at hA hval
  obtain ⟨v0, vs0, d0, ds0, p0, q0, hargs, rfl, rfl, h0, r0⟩ := trodAll_cons hA
  obtain ⟨v1, vs1, d1, ds1, p1, q1, rfl, rfl, rfl, h1, r1⟩ := trodAll_cons r0
  obtain ⟨rfl, rfl, rfl⟩ := trodAll_nil r1
  obtain rfl : args = #[v0, v1] := by cases args; simp_all
  obtain ⟨rfl, rfl⟩ := trodVars_none hV
  have k0 := h0
  have lt0 : ∀ x ∈ p0, x.block < W.heap.size := by obtain ⟨m, hm⟩ := k0; exact DataW.trod_lt m _ _ _ hm
  have k1 := h1
  have lt1 : ∀ x ∈ p1, x.block < W.heap.size := by obtain ⟨m, hm⟩ := k1; exact DataW.trod_lt m _ _ _ hm
  obtain ⟨a0, b0, c0, rfl, wa0, wb0, wc0⟩ := open_arr3 Try.underlying42 Try.underlying3 (by kernel_rfl) (by kernel_rfl) (hval 0 42 v0 rfl rfl) h0
  obtain ⟨a1, b1, c1, rfl, wa1, wb1, wc1⟩ := open_arr3 Try.underlying42 Try.underlying3 (by kernel_rfl) (by kernel_rfl) (hval 1 42 v1 rfl rfl) h1
  clear hA0 hval0
  refine (walk a0 b0 c0 a1 b1 c1 wa0 wb0 wc0 wa1 wb1 wc1 W).mono fun e W' ⟨he, bel⟩ => ?_
  subst he
  exact ⟨_, rfl, _, _, _, [], _, [], hW', trodAll_mk1 (shut_bool Try.underlying4 _), (trodAll_cons_mk (Below.trod laidOut (by kernel_rfl) (of_decide_eq_true (by kernel_rfl)) k0 bel lt0) (trodAll_cons_mk (Below.trod laidOut (by kernel_rfl) (of_decide_eq_true (by kernel_rfl)) k1 bel lt1) trodAll_mk0)), rfl, bel.frame _, fun h => by cases h⟩

theorem over : Rows.fixScalarsRow.holds Try.pinned (OpenSpec.ofChange Rows.fixScalarsSpec) :=
  OpenClaim.holds_of_wide 7 Try.f7 rfl rfl rfl rfl rfl rfl rfl ⟨rfl, rfl, rfl, rfl, rfl⟩ rfl rfl rfl rfl rfl (by kernel_rfl) Try.func7 (by kernel_rfl)
    (of_decide_eq_true (by kernel_rfl)) (by unfold Func.isWrapper; first | (rw [if_pos (by decide +kernel)]; kernel_rfl) | (rw [if_neg (by decide +kernel)]; exact ⟨rfl, rfl⟩))
    (fun os started H enc _ => lifted os started H enc)

end Go.Proofs.Ytbjikilhfnbniaa.fixScalars
namespace Go.Proofs.Ytbjikilhfnbniaa
theorem fixScalars_proved : Rows.FixScalarsSaid := fixScalars.over
#print axioms fixScalars_proved
end Go.Proofs.Ytbjikilhfnbniaa
