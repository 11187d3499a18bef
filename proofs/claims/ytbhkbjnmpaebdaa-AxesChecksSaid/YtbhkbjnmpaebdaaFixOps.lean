/- The contracts of fix.Mul, fix.Part, fix.Line and fix.Clamp and of the reference's: for every int64 they return what the plain functions below say. -/
import Derived.Test.YtbhkbjnmpaebdaaFixMore
namespace Go.Proofs.Ytbhkbjnmpaebdaa.F
open Go.RowKit

theorem ret2b {a b : Int} {c d : Bool} (h : a = b) (k : c = d) : Ending.returned (.tuple #[.int .i64 a, .bool c]) = .returned (.tuple #[.int .i64 b, .bool d]) := by rw [h, k]
theorem bnext {w w1 w2 : World} (h : Below w.heap.size w w1) (k : Below w1.heap.size w1 w2) : Below w.heap.size w w2 := h.trans (k.mono h.size)
theorem balloc {w w1 : World} (h : Below w.heap.size w w1) (o : Obj) : Below w.heap.size w (w1.alloc o) := h.alloc h.size o
theorem bset {w w1 : World} (h : Below w.heap.size w w1) {p : Addr} (hp : w.heap.size ≤ p.block) (u : Value) : Below w.heap.size w (w1.setCell p u) := h.setCell hp u
theorem bcell {W w1 : World} (hb : Below W.heap.size W w1) : (∀ b o, b < W.heap.size → w1.cell? ⟨b, o, none⟩ = W.cell? ⟨b, o, none⟩) ∧ (∀ b o, b < W.heap.size → w1.frozen? ⟨b, o, none⟩ = W.frozen? ⟨b, o, none⟩) :=
  ⟨fun b o h => hb.cell (p := ⟨b, o, none⟩) h, fun b o h => hb.frozen (p := ⟨b, o, none⟩) h⟩

namespace FP
/-- The product in 1/64. -/
def mulS (a b : Int) : Int × Bool := if sm a ∧ sm b then (rnd (a * b) 64, true) else (0, false)
/-- The part. -/
def partS (a n d : Int) : Int × Bool := if sm a ∧ rgt n d then (rnd (64 * a * n) d, true) else (0, false)
/-- The line. -/
def lineS (x f0 f1 t0 t1 : Int) : Int × Bool := if (sm x ∧ sm f0 ∧ sm f1 ∧ sm t0 ∧ sm t1) ∧ f0 < t0 ∧ f0 ≤ x ∧ x ≤ t0 then (rnd (f1 * (t0 - f0) + (t1 - f1) * (x - f0)) (t0 - f0), true) else (0, false)
theorem mul_bd (a b x y : Int) (ha : -x ≤ a ∧ a ≤ x) (hb : -y ≤ b ∧ b ≤ y) : -(x * y) ≤ a * b ∧ a * b ≤ x * y := by
  have hx : 0 ≤ x := by omega
  have hy : 0 ≤ y := by omega
  have h1 : (a.natAbs : Int) ≤ x := by omega
  have h2 : (b.natAbs : Int) ≤ y := by omega
  have h3 : (a * b).natAbs = a.natAbs * b.natAbs := Int.natAbs_mul a b
  have h4 : ((a.natAbs : Int)) * (b.natAbs : Int) ≤ x * y := Int.mul_le_mul h1 h2 (by omega) hx
  have h5 : ((a * b).natAbs : Int) ≤ x * y := by rw [h3]; push_cast; simpa using h4
  omega
end FP

set_option maxHeartbeats 400000 in
theorem part_any (a n d : Int) (w : World) :
    Calls Try.prog 63 #[.int .i64 a, .agg #[.int .i64 n, .int .i64 d]] w fun e w' => e = .returned (.tuple #[.int .i64 (FP.partS a n d).1, .bool (FP.partS a n d).2]) ∧ Below w.heap.size w w' := by
  by_cases ha : FP.sm a
  · by_cases hr : FP.rgt n d
    · have E : Hid (FP.partS a n d = (FP.rnd (64 * a * n) d, true)) := if_pos ⟨ha, hr⟩
      have HR := Lib.hid hr
      obtain ⟨r1, r2, r3, r4, r5⟩ := hr
      clear r5
      obtain ⟨m0, m1⟩ := FP.mul_bd (64 * a) n 67108864 262144 (by unfold FP.sm at ha; omega) (by omega)
      have b1 : -67108864 ≤ 64 * a ∧ 64 * a ≤ 67108864 := by unfold FP.sm at ha; omega
      obtain ⟨b1, b2⟩ := b1
      go_enter Try.func63, Try.ntmps63
      go_wp2_with fail
      refine (small_yes _ 0 1 1 [a] _ (by omega) (fun j hj => by
                match j, hj with
                | 0, _ => first | (simp; done) | (rw [World.cell?_alloc_at _ _ _ _ (by simp)]; rfl)) (fun j hj => by
                match j, hj with
                | 0, _ => exact ha)).mono ?_
      rintro e w1 ⟨rfl, hb1⟩
      obtain ⟨hc1, hf1⟩ := bcell hb1
      have hz1 := hb1.size
      (try simp at hz1)
      have hv1 : w.heap.size < w1.heap.size := by omega
      go_wp2_with (first
        | (go_at_call 69; refine (right_yes _ _ _ HR.out).mono ?_; rintro e w2 ⟨rfl, hb2⟩; obtain ⟨hc2, hf2⟩ := bcell hb2; have hz2 := hb2.size; (try simp at hz2); have hv2 : w.heap.size < w2.heap.size := by omega)
        | (go_at_call 52; refine (round_yes _ _ _ (by omega) (by omega) (by omega) (by omega)).mono ?_; rintro e w3 ⟨rfl, hb3⟩; obtain ⟨hc3, hf3⟩ := bcell hb3; have hz3 := hb3.size; (try simp at hz3); have hv3 : w.heap.size < w3.heap.size := by omega))
      go_ret2
      exact ⟨ret2b (by rw [E.out]) (by rw [E.out]), by repeat' (first | exact Below.refl _ _ | (with_reducible assumption) | (refine bnext ?_ (by with_reducible assumption)) | (refine balloc ?_ _) | (refine below_drewN ?_ _) | (refine Below.drew ?_) | (refine bset ?_ (by simp; try omega) _))⟩
    · have E : Hid (FP.partS a n d = (0, false)) := if_neg (fun h => hr h.2)
      go_enter Try.func63, Try.ntmps63
      go_wp2_with fail
      refine (small_yes _ 0 1 1 [a] _ (by omega) (fun j hj => by
                match j, hj with
                | 0, _ => first | (simp; done) | (rw [World.cell?_alloc_at _ _ _ _ (by simp)]; rfl)) (fun j hj => by
                match j, hj with
                | 0, _ => exact ha)).mono ?_
      rintro e w1 ⟨rfl, hb1⟩
      obtain ⟨hc1, hf1⟩ := bcell hb1
      have hz1 := hb1.size
      (try simp at hz1)
      have hv1 : w.heap.size < w1.heap.size := by omega
      go_wp2_with (go_at_call 69; refine (right_no _ _ _ hr).mono ?_; rintro e w2 ⟨rfl, hb2⟩; obtain ⟨hc2, hf2⟩ := bcell hb2; have hz2 := hb2.size; (try simp at hz2); have hv2 : w.heap.size < w2.heap.size := by omega)
      go_ret2
      exact ⟨ret2b (by rw [E.out]) (by rw [E.out]), by repeat' (first | exact Below.refl _ _ | (with_reducible assumption) | (refine bnext ?_ (by with_reducible assumption)) | (refine balloc ?_ _) | (refine below_drewN ?_ _) | (refine Below.drew ?_) | (refine bset ?_ (by simp; try omega) _))⟩
  · have E : Hid (FP.partS a n d = (0, false)) := if_neg (fun h => ha h.1)
    go_enter Try.func63, Try.ntmps63
    go_wp2_with fail
    refine (small_no _ 0 1 1 [a] _ (by omega) (fun j hj => by
              match j, hj with
              | 0, _ => first | (simp; done) | (rw [World.cell?_alloc_at _ _ _ _ (by simp)]; rfl)) ⟨0, by omega, ha⟩).mono ?_
    rintro e w1 ⟨rfl, hb1⟩
    obtain ⟨hc1, hf1⟩ := bcell hb1
    have hz1 := hb1.size
    (try simp at hz1)
    have hv1 : w.heap.size < w1.heap.size := by omega
    go_wp2
    go_ret2
    exact ⟨ret2b (by rw [E.out]) (by rw [E.out]), by repeat' (first | exact Below.refl _ _ | (with_reducible assumption) | (refine bnext ?_ (by with_reducible assumption)) | (refine balloc ?_ _) | (refine below_drewN ?_ _) | (refine Below.drew ?_) | (refine bset ?_ (by simp; try omega) _))⟩

set_option maxHeartbeats 400000 in
theorem rpart_any (a n d : Int) (w : World) :
    Calls Try.prog 65 #[.int .i64 a, .agg #[.int .i64 n, .int .i64 d]] w fun e w' => e = .returned (.tuple #[.int .i64 (FP.partS a n d).1, .bool (FP.partS a n d).2]) ∧ Below w.heap.size w w' := by
  by_cases ha : FP.sm a
  · by_cases hr : FP.rgt n d
    · have E : Hid (FP.partS a n d = (FP.rnd (64 * a * n) d, true)) := if_pos ⟨ha, hr⟩
      have HR := Lib.hid hr
      obtain ⟨r1, r2, r3, r4, r5⟩ := hr
      clear r5
      obtain ⟨m0, m1⟩ := FP.mul_bd (64 * a) n 67108864 262144 (by unfold FP.sm at ha; omega) (by omega)
      have b1 : -67108864 ≤ 64 * a ∧ 64 * a ≤ 67108864 := by unfold FP.sm at ha; omega
      obtain ⟨b1, b2⟩ := b1
      go_enter Try.func65, Try.ntmps65
      go_wp2_with fail
      refine (rsmall_yes _ _ ha).mono ?_
      rintro e w1 ⟨rfl, hb1⟩
      obtain ⟨hc1, hf1⟩ := bcell hb1
      have hz1 := hb1.size
      (try simp at hz1)
      have hv1 : w.heap.size < w1.heap.size := by omega
      go_wp2_with (first
        | (go_at_call 75; refine (rright_yes _ _ _ HR.out).mono ?_; rintro e w2 ⟨rfl, hb2⟩; obtain ⟨hc2, hf2⟩ := bcell hb2; have hz2 := hb2.size; (try simp at hz2); have hv2 : w.heap.size < w2.heap.size := by omega)
        | (go_at_call 71; refine (rround_yes _ _ _ (by omega) (by omega) (by omega) (by omega)).mono ?_; rintro e w3 ⟨rfl, hb3⟩; obtain ⟨hc3, hf3⟩ := bcell hb3; have hz3 := hb3.size; (try simp at hz3); have hv3 : w.heap.size < w3.heap.size := by omega))
      go_ret2
      exact ⟨ret2b (by rw [E.out]) (by rw [E.out]), by repeat' (first | exact Below.refl _ _ | (with_reducible assumption) | (refine bnext ?_ (by with_reducible assumption)) | (refine balloc ?_ _) | (refine below_drewN ?_ _) | (refine Below.drew ?_) | (refine bset ?_ (by simp; try omega) _))⟩
    · have E : Hid (FP.partS a n d = (0, false)) := if_neg (fun h => hr h.2)
      go_enter Try.func65, Try.ntmps65
      go_wp2_with fail
      refine (rsmall_yes _ _ ha).mono ?_
      rintro e w1 ⟨rfl, hb1⟩
      obtain ⟨hc1, hf1⟩ := bcell hb1
      have hz1 := hb1.size
      (try simp at hz1)
      have hv1 : w.heap.size < w1.heap.size := by omega
      go_wp2_with (go_at_call 75; refine (rright_no _ _ _ hr).mono ?_; rintro e w2 ⟨rfl, hb2⟩; obtain ⟨hc2, hf2⟩ := bcell hb2; have hz2 := hb2.size; (try simp at hz2); have hv2 : w.heap.size < w2.heap.size := by omega)
      go_ret2
      exact ⟨ret2b (by rw [E.out]) (by rw [E.out]), by repeat' (first | exact Below.refl _ _ | (with_reducible assumption) | (refine bnext ?_ (by with_reducible assumption)) | (refine balloc ?_ _) | (refine below_drewN ?_ _) | (refine Below.drew ?_) | (refine bset ?_ (by simp; try omega) _))⟩
  · have E : Hid (FP.partS a n d = (0, false)) := if_neg (fun h => ha h.1)
    go_enter Try.func65, Try.ntmps65
    go_wp2_with fail
    refine (rsmall_no _ _ ha).mono ?_
    rintro e w1 ⟨rfl, hb1⟩
    obtain ⟨hc1, hf1⟩ := bcell hb1
    have hz1 := hb1.size
    (try simp at hz1)
    have hv1 : w.heap.size < w1.heap.size := by omega
    go_wp2
    go_ret2
    exact ⟨ret2b (by rw [E.out]) (by rw [E.out]), by repeat' (first | exact Below.refl _ _ | (with_reducible assumption) | (refine bnext ?_ (by with_reducible assumption)) | (refine balloc ?_ _) | (refine below_drewN ?_ _) | (refine Below.drew ?_) | (refine bset ?_ (by simp; try omega) _))⟩

set_option maxHeartbeats 1000000 in
theorem line_any (x f0 f1 t0 t1 : Int) (w : World) :
    Calls Try.prog 18 #[.int .i64 x, .agg #[.int .i64 f0, .int .i64 f1], .agg #[.int .i64 t0, .int .i64 t1]] w fun e w' => e = .returned (.tuple #[.int .i64 (FP.lineS x f0 f1 t0 t1).1, .bool (FP.lineS x f0 f1 t0 t1).2]) ∧ Below w.heap.size w w' := by
  by_cases hs : FP.sm x ∧ FP.sm f0 ∧ FP.sm f1 ∧ FP.sm t0 ∧ FP.sm t1
  · have HS := Lib.hid hs
    obtain ⟨hx, hf0, hf1, ht0, ht1⟩ := hs
    unfold FP.sm at hx hf0 hf1 ht0 ht1
    obtain ⟨x0, x1⟩ := hx
    obtain ⟨p0, p1⟩ := hf0
    obtain ⟨q0, q1⟩ := hf1
    obtain ⟨u0, u1⟩ := ht0
    obtain ⟨v0, v1⟩ := ht1
    by_cases c1 : f0 < t0
    · by_cases c2 : f0 ≤ x
      · by_cases c3 : x ≤ t0
        · have E : Hid (FP.lineS x f0 f1 t0 t1 = (FP.rnd (f1 * (t0 - f0) + (t1 - f1) * (x - f0)) (t0 - f0), true)) := if_pos ⟨HS.out, c1, c2, c3⟩
          obtain ⟨m0, m1⟩ := FP.mul_bd f1 (t0 - f0) 1048576 2097152 (by omega) (by omega)
          obtain ⟨k0, k1⟩ := FP.mul_bd (t1 - f1) (x - f0) 2097152 2097152 (by omega) (by omega)
          go_enter Try.func18, Try.ntmps18
          go_wp2_with fail
          refine (small_yes _ 0 5 5 [x, f0, f1, t0, t1] _ (by omega) (fun j hj => by
                    match j, hj with
                    | 0, _ => first | (simp; done) | (rw [World.cell?_alloc_at _ _ _ _ (by simp)]; rfl)
                    | 1, _ => first | (simp; done) | (rw [World.cell?_alloc_at _ _ _ _ (by simp)]; rfl)
                    | 2, _ => first | (simp; done) | (rw [World.cell?_alloc_at _ _ _ _ (by simp)]; rfl)
                    | 3, _ => first | (simp; done) | (rw [World.cell?_alloc_at _ _ _ _ (by simp)]; rfl)
                    | 4, _ => first | (simp; done) | (rw [World.cell?_alloc_at _ _ _ _ (by simp)]; rfl)) (fun j hj => by
                    match j, hj with
                    | 0, _ => exact HS.out.1
                    | 1, _ => exact HS.out.2.1
                    | 2, _ => exact HS.out.2.2.1
                    | 3, _ => exact HS.out.2.2.2.1
                    | 4, _ => exact HS.out.2.2.2.2)).mono ?_
          rintro e w1 ⟨rfl, hb1⟩
          obtain ⟨hc1, hf1⟩ := bcell hb1
          have hz1 := hb1.size
          (try simp at hz1)
          have hv1 : w.heap.size < w1.heap.size := by omega
          have hu1 : w.heap.size + 1 < w1.heap.size := by omega
          go_wp2_with (go_at_call 52; refine (round_yes _ _ _ (by omega) (by omega) (by omega) (by omega)).mono ?_; rintro e w2 ⟨rfl, hb2⟩; obtain ⟨hc2, hf2⟩ := bcell hb2; have hz2 := hb2.size; (try simp at hz2); have hv2 : w.heap.size < w2.heap.size := by omega)
          go_ret2
          exact ⟨ret2b (by rw [E.out]) (by rw [E.out]), by repeat' (first | exact Below.refl _ _ | (with_reducible assumption) | (refine bnext ?_ (by with_reducible assumption)) | (refine balloc ?_ _) | (refine below_drewN ?_ _) | (refine Below.drew ?_) | (refine bset ?_ (by simp; try omega) _))⟩
        · have E : Hid (FP.lineS x f0 f1 t0 t1 = (0, false)) := if_neg (fun h => c3 h.2.2.2)
          go_enter Try.func18, Try.ntmps18
          go_wp2_with fail
          refine (small_yes _ 0 5 5 [x, f0, f1, t0, t1] _ (by omega) (fun j hj => by
                    match j, hj with
                    | 0, _ => first | (simp; done) | (rw [World.cell?_alloc_at _ _ _ _ (by simp)]; rfl)
                    | 1, _ => first | (simp; done) | (rw [World.cell?_alloc_at _ _ _ _ (by simp)]; rfl)
                    | 2, _ => first | (simp; done) | (rw [World.cell?_alloc_at _ _ _ _ (by simp)]; rfl)
                    | 3, _ => first | (simp; done) | (rw [World.cell?_alloc_at _ _ _ _ (by simp)]; rfl)
                    | 4, _ => first | (simp; done) | (rw [World.cell?_alloc_at _ _ _ _ (by simp)]; rfl)) (fun j hj => by
                    match j, hj with
                    | 0, _ => exact HS.out.1
                    | 1, _ => exact HS.out.2.1
                    | 2, _ => exact HS.out.2.2.1
                    | 3, _ => exact HS.out.2.2.2.1
                    | 4, _ => exact HS.out.2.2.2.2)).mono ?_
          rintro e w1 ⟨rfl, hb1⟩
          obtain ⟨hc1, hf1⟩ := bcell hb1
          have hz1 := hb1.size
          (try simp at hz1)
          have hv1 : w.heap.size < w1.heap.size := by omega
          have hu1 : w.heap.size + 1 < w1.heap.size := by omega
          go_wp2
          go_ret2
          exact ⟨ret2b (by rw [E.out]) (by rw [E.out]), by repeat' (first | exact Below.refl _ _ | (with_reducible assumption) | (refine bnext ?_ (by with_reducible assumption)) | (refine balloc ?_ _) | (refine below_drewN ?_ _) | (refine Below.drew ?_) | (refine bset ?_ (by simp; try omega) _))⟩
      · have E : Hid (FP.lineS x f0 f1 t0 t1 = (0, false)) := if_neg (fun h => c2 h.2.2.1)
        go_enter Try.func18, Try.ntmps18
        go_wp2_with fail
        refine (small_yes _ 0 5 5 [x, f0, f1, t0, t1] _ (by omega) (fun j hj => by
                  match j, hj with
                  | 0, _ => first | (simp; done) | (rw [World.cell?_alloc_at _ _ _ _ (by simp)]; rfl)
                  | 1, _ => first | (simp; done) | (rw [World.cell?_alloc_at _ _ _ _ (by simp)]; rfl)
                  | 2, _ => first | (simp; done) | (rw [World.cell?_alloc_at _ _ _ _ (by simp)]; rfl)
                  | 3, _ => first | (simp; done) | (rw [World.cell?_alloc_at _ _ _ _ (by simp)]; rfl)
                  | 4, _ => first | (simp; done) | (rw [World.cell?_alloc_at _ _ _ _ (by simp)]; rfl)) (fun j hj => by
                  match j, hj with
                  | 0, _ => exact HS.out.1
                  | 1, _ => exact HS.out.2.1
                  | 2, _ => exact HS.out.2.2.1
                  | 3, _ => exact HS.out.2.2.2.1
                  | 4, _ => exact HS.out.2.2.2.2)).mono ?_
        rintro e w1 ⟨rfl, hb1⟩
        obtain ⟨hc1, hf1⟩ := bcell hb1
        have hz1 := hb1.size
        (try simp at hz1)
        have hv1 : w.heap.size < w1.heap.size := by omega
        have hu1 : w.heap.size + 1 < w1.heap.size := by omega
        go_wp2
        go_ret2
        exact ⟨ret2b (by rw [E.out]) (by rw [E.out]), by repeat' (first | exact Below.refl _ _ | (with_reducible assumption) | (refine bnext ?_ (by with_reducible assumption)) | (refine balloc ?_ _) | (refine below_drewN ?_ _) | (refine Below.drew ?_) | (refine bset ?_ (by simp; try omega) _))⟩
    · have E : Hid (FP.lineS x f0 f1 t0 t1 = (0, false)) := if_neg (fun h => c1 h.2.1)
      go_enter Try.func18, Try.ntmps18
      go_wp2_with fail
      refine (small_yes _ 0 5 5 [x, f0, f1, t0, t1] _ (by omega) (fun j hj => by
                match j, hj with
                | 0, _ => first | (simp; done) | (rw [World.cell?_alloc_at _ _ _ _ (by simp)]; rfl)
                | 1, _ => first | (simp; done) | (rw [World.cell?_alloc_at _ _ _ _ (by simp)]; rfl)
                | 2, _ => first | (simp; done) | (rw [World.cell?_alloc_at _ _ _ _ (by simp)]; rfl)
                | 3, _ => first | (simp; done) | (rw [World.cell?_alloc_at _ _ _ _ (by simp)]; rfl)
                | 4, _ => first | (simp; done) | (rw [World.cell?_alloc_at _ _ _ _ (by simp)]; rfl)) (fun j hj => by
                match j, hj with
                | 0, _ => exact HS.out.1
                | 1, _ => exact HS.out.2.1
                | 2, _ => exact HS.out.2.2.1
                | 3, _ => exact HS.out.2.2.2.1
                | 4, _ => exact HS.out.2.2.2.2)).mono ?_
      rintro e w1 ⟨rfl, hb1⟩
      obtain ⟨hc1, hf1⟩ := bcell hb1
      have hz1 := hb1.size
      (try simp at hz1)
      have hv1 : w.heap.size < w1.heap.size := by omega
      have hu1 : w.heap.size + 1 < w1.heap.size := by omega
      go_wp2
      go_ret2
      exact ⟨ret2b (by rw [E.out]) (by rw [E.out]), by repeat' (first | exact Below.refl _ _ | (with_reducible assumption) | (refine bnext ?_ (by with_reducible assumption)) | (refine balloc ?_ _) | (refine below_drewN ?_ _) | (refine Below.drew ?_) | (refine bset ?_ (by simp; try omega) _))⟩
  · have E : Hid (FP.lineS x f0 f1 t0 t1 = (0, false)) := if_neg (fun h => hs h.1)
    have ex : ∃ j, j < 5 ∧ ¬ FP.sm ([x, f0, f1, t0, t1].getD j 0) := by
      by_cases a0 : FP.sm x
      · by_cases a1 : FP.sm f0
        · by_cases a2 : FP.sm f1
          · by_cases a3 : FP.sm t0
            · exact ⟨4, by omega, fun a4 => hs ⟨a0, a1, a2, a3, a4⟩⟩
            · exact ⟨3, by omega, a3⟩
          · exact ⟨2, by omega, a2⟩
        · exact ⟨1, by omega, a1⟩
      · exact ⟨0, by omega, a0⟩
    have EX := Lib.hid ex
    clear ex hs
    go_enter Try.func18, Try.ntmps18
    go_wp2_with fail
    refine (small_no _ 0 5 5 [x, f0, f1, t0, t1] _ (by omega) (fun j hj => by
              match j, hj with
              | 0, _ => first | (simp; done) | (rw [World.cell?_alloc_at _ _ _ _ (by simp)]; rfl)
              | 1, _ => first | (simp; done) | (rw [World.cell?_alloc_at _ _ _ _ (by simp)]; rfl)
              | 2, _ => first | (simp; done) | (rw [World.cell?_alloc_at _ _ _ _ (by simp)]; rfl)
              | 3, _ => first | (simp; done) | (rw [World.cell?_alloc_at _ _ _ _ (by simp)]; rfl)
              | 4, _ => first | (simp; done) | (rw [World.cell?_alloc_at _ _ _ _ (by simp)]; rfl)) EX.out).mono ?_
    rintro e w1 ⟨rfl, hb1⟩
    obtain ⟨hc1, hf1⟩ := bcell hb1
    have hz1 := hb1.size
    (try simp at hz1)
    have hv1 : w.heap.size < w1.heap.size := by omega
    go_wp2
    go_ret2
    exact ⟨ret2b (by rw [E.out]) (by rw [E.out]), by repeat' (first | exact Below.refl _ _ | (with_reducible assumption) | (refine bnext ?_ (by with_reducible assumption)) | (refine balloc ?_ _) | (refine below_drewN ?_ _) | (refine Below.drew ?_) | (refine bset ?_ (by simp; try omega) _))⟩

set_option maxHeartbeats 1000000 in
theorem rline_any (x f0 f1 t0 t1 : Int) (w : World) :
    Calls Try.prog 50 #[.int .i64 x, .agg #[.int .i64 f0, .int .i64 f1], .agg #[.int .i64 t0, .int .i64 t1]] w fun e w' => e = .returned (.tuple #[.int .i64 (FP.lineS x f0 f1 t0 t1).1, .bool (FP.lineS x f0 f1 t0 t1).2]) ∧ Below w.heap.size w w' := by
  by_cases hs : FP.sm x ∧ FP.sm f0 ∧ FP.sm f1 ∧ FP.sm t0 ∧ FP.sm t1
  · have HS := Lib.hid hs
    obtain ⟨hx, hf0, hf1, ht0, ht1⟩ := hs
    unfold FP.sm at hx hf0 hf1 ht0 ht1
    obtain ⟨x0, x1⟩ := hx
    obtain ⟨p0, p1⟩ := hf0
    obtain ⟨q0, q1⟩ := hf1
    obtain ⟨u0, u1⟩ := ht0
    obtain ⟨v0, v1⟩ := ht1
    by_cases c1 : f0 < t0
    · by_cases c2 : f0 ≤ x
      · by_cases c3 : x ≤ t0
        · have E : Hid (FP.lineS x f0 f1 t0 t1 = (FP.rnd (f1 * (t0 - f0) + (t1 - f1) * (x - f0)) (t0 - f0), true)) := if_pos ⟨HS.out, c1, c2, c3⟩
          obtain ⟨m0, m1⟩ := FP.mul_bd f1 (t0 - f0) 1048576 2097152 (by omega) (by omega)
          obtain ⟨k0, k1⟩ := FP.mul_bd (t1 - f1) (x - f0) 2097152 2097152 (by omega) (by omega)
          have E2 : Hid (f1 * (t0 - f0) + (t1 - f1) * (x - f0) = f1 * (t0 - f0) + (x - f0) * (t1 - f1)) := by show _ = _; rw [Int.mul_comm (t1 - f1)]
          rw [Int.mul_comm (t1 - f1)] at k0 k1
          go_enter Try.func50, Try.ntmps50
          go_wp2_with fail
          refine (rsmall_yes _ _ HS.out.1).mono ?_
          rintro e w1 ⟨rfl, hb1⟩
          obtain ⟨hc1, hf1⟩ := bcell hb1
          have hz1 := hb1.size
          (try simp at hz1)
          have hv1 : w.heap.size < w1.heap.size := by omega
          have hu1 : w.heap.size + 1 < w1.heap.size := by omega
          go_wp2_with fail
          refine (rsmall_yes _ _ HS.out.2.1).mono ?_
          rintro e w2 ⟨rfl, hb2⟩
          obtain ⟨hc2, hf2⟩ := bcell hb2
          have hz2 := hb2.size
          (try simp at hz2)
          have hv2 : w.heap.size < w2.heap.size := by omega
          have hu2 : w.heap.size + 1 < w2.heap.size := by omega
          go_wp2_with fail
          refine (rsmall_yes _ _ HS.out.2.2.1).mono ?_
          rintro e w3 ⟨rfl, hb3⟩
          obtain ⟨hc3, hf3⟩ := bcell hb3
          have hz3 := hb3.size
          (try simp at hz3)
          have hv3 : w.heap.size < w3.heap.size := by omega
          have hu3 : w.heap.size + 1 < w3.heap.size := by omega
          go_wp2_with fail
          refine (rsmall_yes _ _ HS.out.2.2.2.1).mono ?_
          rintro e w4 ⟨rfl, hb4⟩
          obtain ⟨hc4, hf4⟩ := bcell hb4
          have hz4 := hb4.size
          (try simp at hz4)
          have hv4 : w.heap.size < w4.heap.size := by omega
          have hu4 : w.heap.size + 1 < w4.heap.size := by omega
          go_wp2_with fail
          refine (rsmall_yes _ _ HS.out.2.2.2.2).mono ?_
          rintro e w5 ⟨rfl, hb5⟩
          obtain ⟨hc5, hf5⟩ := bcell hb5
          have hz5 := hb5.size
          (try simp at hz5)
          have hv5 : w.heap.size < w5.heap.size := by omega
          have hu5 : w.heap.size + 1 < w5.heap.size := by omega
          go_wp2_with (go_at_call 71; refine (rround_yes _ _ _ (by omega) (by omega) (by omega) (by omega)).mono ?_; rintro e w6 ⟨rfl, hb6⟩; obtain ⟨hc6, hf6⟩ := bcell hb6; have hz6 := hb6.size; (try simp at hz6); have hv6 : w.heap.size < w6.heap.size := by omega)
          go_ret2
          exact ⟨ret2b (by rw [E.out, E2.out]) (by rw [E.out]), by repeat' (first | exact Below.refl _ _ | (with_reducible assumption) | (refine bnext ?_ (by with_reducible assumption)) | (refine balloc ?_ _) | (refine below_drewN ?_ _) | (refine Below.drew ?_) | (refine bset ?_ (by simp; try omega) _))⟩
        · have E : Hid (FP.lineS x f0 f1 t0 t1 = (0, false)) := if_neg (fun h => c3 h.2.2.2)
          go_enter Try.func50, Try.ntmps50
          go_wp2_with fail
          refine (rsmall_yes _ _ HS.out.1).mono ?_
          rintro e w1 ⟨rfl, hb1⟩
          obtain ⟨hc1, hf1⟩ := bcell hb1
          have hz1 := hb1.size
          (try simp at hz1)
          have hv1 : w.heap.size < w1.heap.size := by omega
          have hu1 : w.heap.size + 1 < w1.heap.size := by omega
          go_wp2_with fail
          refine (rsmall_yes _ _ HS.out.2.1).mono ?_
          rintro e w2 ⟨rfl, hb2⟩
          obtain ⟨hc2, hf2⟩ := bcell hb2
          have hz2 := hb2.size
          (try simp at hz2)
          have hv2 : w.heap.size < w2.heap.size := by omega
          have hu2 : w.heap.size + 1 < w2.heap.size := by omega
          go_wp2_with fail
          refine (rsmall_yes _ _ HS.out.2.2.1).mono ?_
          rintro e w3 ⟨rfl, hb3⟩
          obtain ⟨hc3, hf3⟩ := bcell hb3
          have hz3 := hb3.size
          (try simp at hz3)
          have hv3 : w.heap.size < w3.heap.size := by omega
          have hu3 : w.heap.size + 1 < w3.heap.size := by omega
          go_wp2_with fail
          refine (rsmall_yes _ _ HS.out.2.2.2.1).mono ?_
          rintro e w4 ⟨rfl, hb4⟩
          obtain ⟨hc4, hf4⟩ := bcell hb4
          have hz4 := hb4.size
          (try simp at hz4)
          have hv4 : w.heap.size < w4.heap.size := by omega
          have hu4 : w.heap.size + 1 < w4.heap.size := by omega
          go_wp2_with fail
          refine (rsmall_yes _ _ HS.out.2.2.2.2).mono ?_
          rintro e w5 ⟨rfl, hb5⟩
          obtain ⟨hc5, hf5⟩ := bcell hb5
          have hz5 := hb5.size
          (try simp at hz5)
          have hv5 : w.heap.size < w5.heap.size := by omega
          have hu5 : w.heap.size + 1 < w5.heap.size := by omega
          go_wp2
          go_ret2
          exact ⟨ret2b (by rw [E.out]) (by rw [E.out]), by repeat' (first | exact Below.refl _ _ | (with_reducible assumption) | (refine bnext ?_ (by with_reducible assumption)) | (refine balloc ?_ _) | (refine below_drewN ?_ _) | (refine Below.drew ?_) | (refine bset ?_ (by simp; try omega) _))⟩
      · have E : Hid (FP.lineS x f0 f1 t0 t1 = (0, false)) := if_neg (fun h => c2 h.2.2.1)
        go_enter Try.func50, Try.ntmps50
        go_wp2_with fail
        refine (rsmall_yes _ _ HS.out.1).mono ?_
        rintro e w1 ⟨rfl, hb1⟩
        obtain ⟨hc1, hf1⟩ := bcell hb1
        have hz1 := hb1.size
        (try simp at hz1)
        have hv1 : w.heap.size < w1.heap.size := by omega
        have hu1 : w.heap.size + 1 < w1.heap.size := by omega
        go_wp2_with fail
        refine (rsmall_yes _ _ HS.out.2.1).mono ?_
        rintro e w2 ⟨rfl, hb2⟩
        obtain ⟨hc2, hf2⟩ := bcell hb2
        have hz2 := hb2.size
        (try simp at hz2)
        have hv2 : w.heap.size < w2.heap.size := by omega
        have hu2 : w.heap.size + 1 < w2.heap.size := by omega
        go_wp2_with fail
        refine (rsmall_yes _ _ HS.out.2.2.1).mono ?_
        rintro e w3 ⟨rfl, hb3⟩
        obtain ⟨hc3, hf3⟩ := bcell hb3
        have hz3 := hb3.size
        (try simp at hz3)
        have hv3 : w.heap.size < w3.heap.size := by omega
        have hu3 : w.heap.size + 1 < w3.heap.size := by omega
        go_wp2_with fail
        refine (rsmall_yes _ _ HS.out.2.2.2.1).mono ?_
        rintro e w4 ⟨rfl, hb4⟩
        obtain ⟨hc4, hf4⟩ := bcell hb4
        have hz4 := hb4.size
        (try simp at hz4)
        have hv4 : w.heap.size < w4.heap.size := by omega
        have hu4 : w.heap.size + 1 < w4.heap.size := by omega
        go_wp2_with fail
        refine (rsmall_yes _ _ HS.out.2.2.2.2).mono ?_
        rintro e w5 ⟨rfl, hb5⟩
        obtain ⟨hc5, hf5⟩ := bcell hb5
        have hz5 := hb5.size
        (try simp at hz5)
        have hv5 : w.heap.size < w5.heap.size := by omega
        have hu5 : w.heap.size + 1 < w5.heap.size := by omega
        go_wp2
        go_ret2
        exact ⟨ret2b (by rw [E.out]) (by rw [E.out]), by repeat' (first | exact Below.refl _ _ | (with_reducible assumption) | (refine bnext ?_ (by with_reducible assumption)) | (refine balloc ?_ _) | (refine below_drewN ?_ _) | (refine Below.drew ?_) | (refine bset ?_ (by simp; try omega) _))⟩
    · have E : Hid (FP.lineS x f0 f1 t0 t1 = (0, false)) := if_neg (fun h => c1 h.2.1)
      go_enter Try.func50, Try.ntmps50
      go_wp2_with fail
      refine (rsmall_yes _ _ HS.out.1).mono ?_
      rintro e w1 ⟨rfl, hb1⟩
      obtain ⟨hc1, hf1⟩ := bcell hb1
      have hz1 := hb1.size
      (try simp at hz1)
      have hv1 : w.heap.size < w1.heap.size := by omega
      have hu1 : w.heap.size + 1 < w1.heap.size := by omega
      go_wp2_with fail
      refine (rsmall_yes _ _ HS.out.2.1).mono ?_
      rintro e w2 ⟨rfl, hb2⟩
      obtain ⟨hc2, hf2⟩ := bcell hb2
      have hz2 := hb2.size
      (try simp at hz2)
      have hv2 : w.heap.size < w2.heap.size := by omega
      have hu2 : w.heap.size + 1 < w2.heap.size := by omega
      go_wp2_with fail
      refine (rsmall_yes _ _ HS.out.2.2.1).mono ?_
      rintro e w3 ⟨rfl, hb3⟩
      obtain ⟨hc3, hf3⟩ := bcell hb3
      have hz3 := hb3.size
      (try simp at hz3)
      have hv3 : w.heap.size < w3.heap.size := by omega
      have hu3 : w.heap.size + 1 < w3.heap.size := by omega
      go_wp2_with fail
      refine (rsmall_yes _ _ HS.out.2.2.2.1).mono ?_
      rintro e w4 ⟨rfl, hb4⟩
      obtain ⟨hc4, hf4⟩ := bcell hb4
      have hz4 := hb4.size
      (try simp at hz4)
      have hv4 : w.heap.size < w4.heap.size := by omega
      have hu4 : w.heap.size + 1 < w4.heap.size := by omega
      go_wp2_with fail
      refine (rsmall_yes _ _ HS.out.2.2.2.2).mono ?_
      rintro e w5 ⟨rfl, hb5⟩
      obtain ⟨hc5, hf5⟩ := bcell hb5
      have hz5 := hb5.size
      (try simp at hz5)
      have hv5 : w.heap.size < w5.heap.size := by omega
      have hu5 : w.heap.size + 1 < w5.heap.size := by omega
      go_wp2
      go_ret2
      exact ⟨ret2b (by rw [E.out]) (by rw [E.out]), by repeat' (first | exact Below.refl _ _ | (with_reducible assumption) | (refine bnext ?_ (by with_reducible assumption)) | (refine balloc ?_ _) | (refine below_drewN ?_ _) | (refine Below.drew ?_) | (refine bset ?_ (by simp; try omega) _))⟩
  · have E : Hid (FP.lineS x f0 f1 t0 t1 = (0, false)) := if_neg (fun h => hs h.1)
    by_cases a0 : FP.sm x
    · by_cases a1 : FP.sm f0
      · by_cases a2 : FP.sm f1
        · by_cases a3 : FP.sm t0
          · have a4 : ¬ FP.sm t1 := fun a4 => hs ⟨a0, a1, a2, a3, a4⟩
            clear hs
            go_enter Try.func50, Try.ntmps50
            go_wp2_with fail
            refine (rsmall_yes _ _ a0).mono ?_
            rintro e w1 ⟨rfl, hb1⟩
            obtain ⟨hc1, hf1⟩ := bcell hb1
            have hz1 := hb1.size
            (try simp at hz1)
            have hv1 : w.heap.size < w1.heap.size := by omega
            have hu1 : w.heap.size + 1 < w1.heap.size := by omega
            go_wp2_with fail
            refine (rsmall_yes _ _ a1).mono ?_
            rintro e w2 ⟨rfl, hb2⟩
            obtain ⟨hc2, hf2⟩ := bcell hb2
            have hz2 := hb2.size
            (try simp at hz2)
            have hv2 : w.heap.size < w2.heap.size := by omega
            have hu2 : w.heap.size + 1 < w2.heap.size := by omega
            go_wp2_with fail
            refine (rsmall_yes _ _ a2).mono ?_
            rintro e w3 ⟨rfl, hb3⟩
            obtain ⟨hc3, hf3⟩ := bcell hb3
            have hz3 := hb3.size
            (try simp at hz3)
            have hv3 : w.heap.size < w3.heap.size := by omega
            have hu3 : w.heap.size + 1 < w3.heap.size := by omega
            go_wp2_with fail
            refine (rsmall_yes _ _ a3).mono ?_
            rintro e w4 ⟨rfl, hb4⟩
            obtain ⟨hc4, hf4⟩ := bcell hb4
            have hz4 := hb4.size
            (try simp at hz4)
            have hv4 : w.heap.size < w4.heap.size := by omega
            have hu4 : w.heap.size + 1 < w4.heap.size := by omega
            go_wp2_with fail
            refine (rsmall_no _ _ a4).mono ?_
            rintro e w5 ⟨rfl, hb5⟩
            obtain ⟨hc5, hf5⟩ := bcell hb5
            have hz5 := hb5.size
            (try simp at hz5)
            have hv5 : w.heap.size < w5.heap.size := by omega
            go_wp2
            go_ret2
            exact ⟨ret2b (by rw [E.out]) (by rw [E.out]), by repeat' (first | exact Below.refl _ _ | (with_reducible assumption) | (refine bnext ?_ (by with_reducible assumption)) | (refine balloc ?_ _) | (refine below_drewN ?_ _) | (refine Below.drew ?_) | (refine bset ?_ (by simp; try omega) _))⟩
          · clear hs
            go_enter Try.func50, Try.ntmps50
            go_wp2_with fail
            refine (rsmall_yes _ _ a0).mono ?_
            rintro e w1 ⟨rfl, hb1⟩
            obtain ⟨hc1, hf1⟩ := bcell hb1
            have hz1 := hb1.size
            (try simp at hz1)
            have hv1 : w.heap.size < w1.heap.size := by omega
            have hu1 : w.heap.size + 1 < w1.heap.size := by omega
            go_wp2_with fail
            refine (rsmall_yes _ _ a1).mono ?_
            rintro e w2 ⟨rfl, hb2⟩
            obtain ⟨hc2, hf2⟩ := bcell hb2
            have hz2 := hb2.size
            (try simp at hz2)
            have hv2 : w.heap.size < w2.heap.size := by omega
            have hu2 : w.heap.size + 1 < w2.heap.size := by omega
            go_wp2_with fail
            refine (rsmall_yes _ _ a2).mono ?_
            rintro e w3 ⟨rfl, hb3⟩
            obtain ⟨hc3, hf3⟩ := bcell hb3
            have hz3 := hb3.size
            (try simp at hz3)
            have hv3 : w.heap.size < w3.heap.size := by omega
            have hu3 : w.heap.size + 1 < w3.heap.size := by omega
            go_wp2_with fail
            refine (rsmall_no _ _ a3).mono ?_
            rintro e w4 ⟨rfl, hb4⟩
            obtain ⟨hc4, hf4⟩ := bcell hb4
            have hz4 := hb4.size
            (try simp at hz4)
            have hv4 : w.heap.size < w4.heap.size := by omega
            go_wp2
            go_ret2
            exact ⟨ret2b (by rw [E.out]) (by rw [E.out]), by repeat' (first | exact Below.refl _ _ | (with_reducible assumption) | (refine bnext ?_ (by with_reducible assumption)) | (refine balloc ?_ _) | (refine below_drewN ?_ _) | (refine Below.drew ?_) | (refine bset ?_ (by simp; try omega) _))⟩
        · clear hs
          go_enter Try.func50, Try.ntmps50
          go_wp2_with fail
          refine (rsmall_yes _ _ a0).mono ?_
          rintro e w1 ⟨rfl, hb1⟩
          obtain ⟨hc1, hf1⟩ := bcell hb1
          have hz1 := hb1.size
          (try simp at hz1)
          have hv1 : w.heap.size < w1.heap.size := by omega
          have hu1 : w.heap.size + 1 < w1.heap.size := by omega
          go_wp2_with fail
          refine (rsmall_yes _ _ a1).mono ?_
          rintro e w2 ⟨rfl, hb2⟩
          obtain ⟨hc2, hf2⟩ := bcell hb2
          have hz2 := hb2.size
          (try simp at hz2)
          have hv2 : w.heap.size < w2.heap.size := by omega
          have hu2 : w.heap.size + 1 < w2.heap.size := by omega
          go_wp2_with fail
          refine (rsmall_no _ _ a2).mono ?_
          rintro e w3 ⟨rfl, hb3⟩
          obtain ⟨hc3, hf3⟩ := bcell hb3
          have hz3 := hb3.size
          (try simp at hz3)
          have hv3 : w.heap.size < w3.heap.size := by omega
          go_wp2
          go_ret2
          exact ⟨ret2b (by rw [E.out]) (by rw [E.out]), by repeat' (first | exact Below.refl _ _ | (with_reducible assumption) | (refine bnext ?_ (by with_reducible assumption)) | (refine balloc ?_ _) | (refine below_drewN ?_ _) | (refine Below.drew ?_) | (refine bset ?_ (by simp; try omega) _))⟩
      · clear hs
        go_enter Try.func50, Try.ntmps50
        go_wp2_with fail
        refine (rsmall_yes _ _ a0).mono ?_
        rintro e w1 ⟨rfl, hb1⟩
        obtain ⟨hc1, hf1⟩ := bcell hb1
        have hz1 := hb1.size
        (try simp at hz1)
        have hv1 : w.heap.size < w1.heap.size := by omega
        have hu1 : w.heap.size + 1 < w1.heap.size := by omega
        go_wp2_with fail
        refine (rsmall_no _ _ a1).mono ?_
        rintro e w2 ⟨rfl, hb2⟩
        obtain ⟨hc2, hf2⟩ := bcell hb2
        have hz2 := hb2.size
        (try simp at hz2)
        have hv2 : w.heap.size < w2.heap.size := by omega
        go_wp2
        go_ret2
        exact ⟨ret2b (by rw [E.out]) (by rw [E.out]), by repeat' (first | exact Below.refl _ _ | (with_reducible assumption) | (refine bnext ?_ (by with_reducible assumption)) | (refine balloc ?_ _) | (refine below_drewN ?_ _) | (refine Below.drew ?_) | (refine bset ?_ (by simp; try omega) _))⟩
    · clear hs
      go_enter Try.func50, Try.ntmps50
      go_wp2_with fail
      refine (rsmall_no _ _ a0).mono ?_
      rintro e w1 ⟨rfl, hb1⟩
      obtain ⟨hc1, hf1⟩ := bcell hb1
      have hz1 := hb1.size
      (try simp at hz1)
      have hv1 : w.heap.size < w1.heap.size := by omega
      go_wp2
      go_ret2
      exact ⟨ret2b (by rw [E.out]) (by rw [E.out]), by repeat' (first | exact Below.refl _ _ | (with_reducible assumption) | (refine bnext ?_ (by with_reducible assumption)) | (refine balloc ?_ _) | (refine below_drewN ?_ _) | (refine Below.drew ?_) | (refine bset ?_ (by simp; try omega) _))⟩

theorem clamp_any (a l h : Int) (w : World) :
    Calls Try.prog 47 #[.int .i64 a, .int .i64 l, .int .i64 h] w fun e w' => e = .returned (.int .i64 (max l (min a h))) ∧ Below w.heap.size w w' := by
  go_enter Try.func47, Try.ntmps47
  go_wp2
  all_goals
    go_ret
    exact ⟨ret1 (by omega), Below.refl _ _⟩

end Go.Proofs.Ytbhkbjnmpaebdaa.F
