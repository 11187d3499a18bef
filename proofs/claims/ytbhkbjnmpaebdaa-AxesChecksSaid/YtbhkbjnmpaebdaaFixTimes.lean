/- The contracts of fix.Times and of the reference's Times and Made: for every pair of int64 they return what the plain functions below say. -/
import Derived.Test.YtbhkbjnmpaebdaaFixOps
namespace Go.Proofs.Ytbhkbjnmpaebdaa.F
open Go.RowKit

namespace FP
/-- The product of two scalars. -/
def timesS (an ad bn bd : Int) : (Int × Int) × Bool :=
  if (rgt an ad ∧ rgt bn bd) ∧ ad * bd / gc (an * bn) (ad * bd) ≤ 262144 then ((an * bn / gc (an * bn) (ad * bd), ad * bd / gc (an * bn) (ad * bd)), true) else ((0, 0), false)

/-- What is left of two numbers, the first not greater than the second, by their greatest common divisor. -/
theorem gc_parts (n d : Int) (h0 : 0 ≤ n) (h1 : n ≤ d) (h2 : 1 ≤ d) :
    1 ≤ gc n d ∧ gc n d ≤ d ∧ 0 ≤ n / gc n d ∧ n / gc n d ≤ d / gc n d ∧ 1 ≤ d / gc n d ∧ d / gc n d ≤ d ∧ gc (n / gc n d) (d / gc n d) = 1 ∧ n / gc n d ≤ n ∧ n / gc n d * gc n d = n ∧ d / gc n d * gc n d = d := by
  obtain ⟨a, rfl⟩ := Int.eq_ofNat_of_zero_le h0
  obtain ⟨b, rfl⟩ := Int.eq_ofNat_of_zero_le (show 0 ≤ d by omega)
  have hb : 0 < b := by omega
  have hg : 0 < Nat.gcd a b := Nat.gcd_pos_of_pos_right _ hb
  have hle : Nat.gcd a b ≤ b := Nat.gcd_le_right _ hb
  have e : gc (a : Int) (b : Int) = ((Nat.gcd a b : Nat) : Int) := by unfold gc; simp
  have c : Nat.gcd (a / Nat.gcd a b) (b / Nat.gcd a b) = 1 := Nat.coprime_div_gcd_div_gcd hg
  have e1 : (a : Int) / ((Nat.gcd a b : Nat) : Int) = ((a / Nat.gcd a b : Nat) : Int) := by simp
  have e2 : (b : Int) / ((Nat.gcd a b : Nat) : Int) = ((b / Nat.gcd a b : Nat) : Int) := by simp
  have l1 : a / Nat.gcd a b ≤ b / Nat.gcd a b := Nat.div_le_div_right (by omega)
  have l2 : 0 < b / Nat.gcd a b := Nat.div_pos hle hg
  have l3 : b / Nat.gcd a b ≤ b := Nat.div_le_self _ _
  have l4 : a / Nat.gcd a b ≤ a := Nat.div_le_self _ _
  have m1 : a / Nat.gcd a b * Nat.gcd a b = a := Nat.div_mul_cancel (Nat.gcd_dvd_left a b)
  have m2 : b / Nat.gcd a b * Nat.gcd a b = b := Nat.div_mul_cancel (Nat.gcd_dvd_right a b)
  rw [e, e1, e2]
  clear e e1 e2
  generalize a / Nat.gcd a b = p at *
  generalize b / Nat.gcd a b = q at *
  generalize Nat.gcd a b = g at *
  refine ⟨by omega, by omega, by omega, by omega, by omega, by omega, ?_, by omega, ?_, ?_⟩
  · unfold gc; simp only [Int.toNat_natCast]; rw [c]; rfl
  · rw [← Int.natCast_mul, m1]
  · rw [← Int.natCast_mul, m2]

/-- The product of the parts of two right scalars. -/
theorem rgt_mul (an ad bn bd : Int) (ha : rgt an ad) (hb : rgt bn bd) : 0 ≤ an * bn ∧ an * bn ≤ ad * bd ∧ 1 ≤ ad * bd ∧ ad * bd ≤ 68719476736 := by
  obtain ⟨a1, a2, a3, a4, _⟩ := ha
  obtain ⟨b1, b2, b3, b4, _⟩ := hb
  have h1 : 0 ≤ an * bn := Int.mul_nonneg a3 b3
  have h2 : an * bn ≤ ad * bd := Int.mul_le_mul a4 b4 b3 (by omega)
  have h3 : 1 * 1 ≤ ad * bd := Int.mul_le_mul a1 b1 (by omega) (by omega)
  have h4 : ad * bd ≤ 262144 * 262144 := Int.mul_le_mul a2 b2 (by omega) (by omega)
  omega
theorem rgt_red (n d : Int) (h0 : 0 ≤ n) (h1 : n ≤ d) (h2 : 1 ≤ d) (h : d / gc n d ≤ 262144) : rgt (n / gc n d) (d / gc n d) := by
  obtain ⟨g1, g2, g3, g4, g5, g6, g7, g8, _⟩ := gc_parts n d h0 h1 h2
  exact ⟨g5, h, g3, g4, g7⟩
/-- The right scalar that two numbers make. -/
def madeN (n d : Int) : Int := (n % (1 + d % 64 + 1)) / gc (n % (1 + d % 64 + 1)) (1 + d % 64)
def madeD (n d : Int) : Int := (1 + d % 64) / gc (n % (1 + d % 64 + 1)) (1 + d % 64)
theorem made_rgt (n d : Int) : rgt (madeN n d) (madeD n d) ∧ madeD n d ≤ 64 := by
  have d0 := Int.emod_nonneg d (show (64 : Int) ≠ 0 by omega)
  have d1 := Int.emod_lt_of_pos d (show (0 : Int) < 64 by omega)
  have n0 := Int.emod_nonneg n (show (1 + d % 64 + 1 : Int) ≠ 0 by omega)
  have n1 := Int.emod_lt_of_pos n (show (0 : Int) < 1 + d % 64 + 1 by omega)
  unfold madeN madeD
  obtain ⟨g1, g2, g3, g4, g5, g6, g7, g8, _⟩ := gc_parts (n % (1 + d % 64 + 1)) (1 + d % 64) n0 (by omega) (by omega)
  exact ⟨⟨g5, by omega, g3, g4, g7⟩, by omega⟩
end FP

theorem bcellD {W w1 : World} {n : Nat} (hb : Below (W.drewN n).heap.size (W.drewN n) w1) : (∀ b o, b < W.heap.size → w1.cell? ⟨b, o, none⟩ = W.cell? ⟨b, o, none⟩) ∧ (∀ b o, b < W.heap.size → w1.frozen? ⟨b, o, none⟩ = W.frozen? ⟨b, o, none⟩) :=
  ⟨fun b o h => hb.cell (p := ⟨b, o, none⟩) h, fun b o h => hb.frozen (p := ⟨b, o, none⟩) h⟩
theorem ret_ag {a b c d : Int} {x y : Bool} (h : a = b) (k : c = d) (l : x = y) : Ending.returned (.tuple #[.agg #[.int .i64 a, .int .i64 c], .bool x]) = .returned (.tuple #[.agg #[.int .i64 b, .int .i64 d], .bool y]) := by rw [h, k, l]
theorem ret_ag1 {a b c d : Int} (h : a = b) (k : c = d) : Ending.returned (.agg #[.int .i64 a, .int .i64 c]) = .returned (.agg #[.int .i64 b, .int .i64 d]) := by rw [h, k]

set_option maxHeartbeats 1000000 in
theorem times_any (an ad bn bd : Int) (w : World) :
    Calls Try.prog 38 #[.agg #[.int .i64 an, .int .i64 ad], .agg #[.int .i64 bn, .int .i64 bd]] w fun e w' => e = .returned (.tuple #[.agg #[.int .i64 (FP.timesS an ad bn bd).1.1, .int .i64 (FP.timesS an ad bn bd).1.2], .bool (FP.timesS an ad bn bd).2]) ∧ Below w.heap.size w w' := by
  by_cases ha : FP.rgt an ad
  · by_cases hb : FP.rgt bn bd
    · obtain ⟨m0, m1, m2, m3⟩ := FP.rgt_mul an ad bn bd ha hb
      obtain ⟨g1, g2, g3, g4, g5, g6, g7, g8, g9⟩ := FP.gc_parts _ _ m0 m1 m2
      clear g7 g9
      by_cases hc : ad * bd / FP.gc (an * bn) (ad * bd) ≤ 262144
      · have HR := Lib.hid (FP.rgt_red _ _ m0 m1 m2 hc)
        have E : Hid (FP.timesS an ad bn bd = ((an * bn / FP.gc (an * bn) (ad * bd), ad * bd / FP.gc (an * bn) (ad * bd)), true)) := if_pos ⟨⟨ha, hb⟩, hc⟩
        go_enter Try.func38, Try.ntmps38
        go_wp2_with fail
        refine (right_yes _ _ _ ha).mono ?_
        rintro e w1 ⟨rfl, hb1⟩
        obtain ⟨hc1, hf1⟩ := bcell hb1
        have hz1 := hb1.size
        (try simp at hz1)
        have hv1 : w.heap.size < w1.heap.size := by omega
        have hu1 : w.heap.size + 1 < w1.heap.size := by omega
        have hx1 : w.heap.size + 1 + 1 < w1.heap.size := by omega
        have hl1 : w.heap.size + 1 + 1 ≤ w1.heap.size := by omega
        go_wp2_with fail
        refine (right_yes _ _ _ hb).mono ?_
        rintro e w2 ⟨rfl, hb2⟩
        obtain ⟨hc2, hf2⟩ := bcell hb2
        have hz2 := hb2.size
        (try simp at hz2)
        have hv2 : w.heap.size < w2.heap.size := by omega
        have hu2 : w.heap.size + 1 < w2.heap.size := by omega
        have hx2 : w.heap.size + 1 + 1 < w2.heap.size := by omega
        have hl2 : w.heap.size + 1 + 1 ≤ w2.heap.size := by omega
        go_wp2_with fail
        go_quiet (fail)
        go_wp2_with fail
        refine (divisor_any _ _ _ (by omega) (by omega) (by omega) (by omega)).mono ?_
        rintro e w3 ⟨rfl, hb3⟩
        obtain ⟨hc3, hf3⟩ := bcellD hb3
        have hz3 := hb3.size
        (try simp at hz3)
        have hv3 : w.heap.size < w3.heap.size := by omega
        have hu3 : w.heap.size + 1 < w3.heap.size := by omega
        have hx3 : w.heap.size + 1 + 1 < w3.heap.size := by omega
        have hl3 : w.heap.size + 1 + 1 ≤ w3.heap.size := by omega
        go_wp2_with fail
        go_region
        go_wp2_with fail
        refine (right_yes _ _ _ HR.out).mono ?_
        rintro e w4 ⟨rfl, hb4⟩
        obtain ⟨hc4, hf4⟩ := bcell hb4
        have hz4 := hb4.size
        (try simp at hz4)
        have hv4 : w.heap.size < w4.heap.size := by omega
        have hu4 : w.heap.size + 1 < w4.heap.size := by omega
        have hx4 : w.heap.size + 1 + 1 < w4.heap.size := by omega
        have hl4 : w.heap.size + 1 + 1 ≤ w4.heap.size := by omega
        go_wp2
        refine bodyPost_ret (v := .tuple #[.agg #[.int .i64 (an * bn / FP.gc (an * bn) (ad * bd)), .int .i64 (ad * bd / FP.gc (an * bn) (ad * bd))], .bool true]) (by simp [results, Try.results38, go_sem, hc1, hv1, hu1, hx1, hc2, hv2, hu2, hx2, hc3, hv3, hu3, hx3, hc4, hv4, hu4, hx4]) rfl ?_
        exact ⟨ret_ag (by rw [E.out]) (by rw [E.out]) (by rw [E.out]), by repeat' (first | exact Below.refl _ _ | (with_reducible assumption) | (refine bnext ?_ (by with_reducible assumption)) | (refine balloc ?_ _) | (refine below_drewN ?_ _) | (refine Below.drew ?_) | (refine bset ?_ (by simp; try omega) _))⟩
      · have HR := Lib.hid (fun h : FP.rgt (an * bn / FP.gc (an * bn) (ad * bd)) (ad * bd / FP.gc (an * bn) (ad * bd)) => hc h.d2)
        have E : Hid (FP.timesS an ad bn bd = ((0, 0), false)) := if_neg (fun h => hc h.2)
        go_enter Try.func38, Try.ntmps38
        go_wp2_with fail
        refine (right_yes _ _ _ ha).mono ?_
        rintro e w1 ⟨rfl, hb1⟩
        obtain ⟨hc1, hf1⟩ := bcell hb1
        have hz1 := hb1.size
        (try simp at hz1)
        have hv1 : w.heap.size < w1.heap.size := by omega
        have hu1 : w.heap.size + 1 < w1.heap.size := by omega
        have hx1 : w.heap.size + 1 + 1 < w1.heap.size := by omega
        have hl1 : w.heap.size + 1 + 1 ≤ w1.heap.size := by omega
        go_wp2_with fail
        refine (right_yes _ _ _ hb).mono ?_
        rintro e w2 ⟨rfl, hb2⟩
        obtain ⟨hc2, hf2⟩ := bcell hb2
        have hz2 := hb2.size
        (try simp at hz2)
        have hv2 : w.heap.size < w2.heap.size := by omega
        have hu2 : w.heap.size + 1 < w2.heap.size := by omega
        have hx2 : w.heap.size + 1 + 1 < w2.heap.size := by omega
        have hl2 : w.heap.size + 1 + 1 ≤ w2.heap.size := by omega
        go_wp2_with fail
        go_quiet (fail)
        go_wp2_with fail
        refine (divisor_any _ _ _ (by omega) (by omega) (by omega) (by omega)).mono ?_
        rintro e w3 ⟨rfl, hb3⟩
        obtain ⟨hc3, hf3⟩ := bcellD hb3
        have hz3 := hb3.size
        (try simp at hz3)
        have hv3 : w.heap.size < w3.heap.size := by omega
        have hu3 : w.heap.size + 1 < w3.heap.size := by omega
        have hx3 : w.heap.size + 1 + 1 < w3.heap.size := by omega
        have hl3 : w.heap.size + 1 + 1 ≤ w3.heap.size := by omega
        go_wp2_with fail
        go_region
        go_wp2_with fail
        refine (right_no _ _ _ HR.out).mono ?_
        rintro e w4 ⟨rfl, hb4⟩
        obtain ⟨hc4, hf4⟩ := bcell hb4
        have hz4 := hb4.size
        (try simp at hz4)
        have hv4 : w.heap.size < w4.heap.size := by omega
        have hu4 : w.heap.size + 1 < w4.heap.size := by omega
        have hx4 : w.heap.size + 1 + 1 < w4.heap.size := by omega
        have hl4 : w.heap.size + 1 + 1 ≤ w4.heap.size := by omega
        go_wp2
        refine bodyPost_ret (v := .tuple #[.agg #[.int .i64 0, .int .i64 0], .bool false]) (by simp [results, Try.results38, go_sem, hc1, hv1, hu1, hx1, hc2, hv2, hu2, hx2, hc3, hv3, hu3, hx3, hc4, hv4, hu4, hx4]) rfl ?_
        exact ⟨ret_ag (by rw [E.out]) (by rw [E.out]) (by rw [E.out]), by repeat' (first | exact Below.refl _ _ | (with_reducible assumption) | (refine bnext ?_ (by with_reducible assumption)) | (refine balloc ?_ _) | (refine below_drewN ?_ _) | (refine Below.drew ?_) | (refine bset ?_ (by simp; try omega) _))⟩
    · have E : Hid (FP.timesS an ad bn bd = ((0, 0), false)) := if_neg (fun h => hb h.1.2)
      go_enter Try.func38, Try.ntmps38
      go_wp2_with fail
      refine (right_yes _ _ _ ha).mono ?_
      rintro e w1 ⟨rfl, hb1⟩
      obtain ⟨hc1, hf1⟩ := bcell hb1
      have hz1 := hb1.size
      (try simp at hz1)
      have hv1 : w.heap.size < w1.heap.size := by omega
      have hu1 : w.heap.size + 1 < w1.heap.size := by omega
      have hx1 : w.heap.size + 1 + 1 < w1.heap.size := by omega
      have hl1 : w.heap.size + 1 + 1 ≤ w1.heap.size := by omega
      go_wp2_with fail
      refine (right_no _ _ _ hb).mono ?_
      rintro e w2 ⟨rfl, hb2⟩
      obtain ⟨hc2, hf2⟩ := bcell hb2
      have hz2 := hb2.size
      (try simp at hz2)
      have hv2 : w.heap.size < w2.heap.size := by omega
      have hu2 : w.heap.size + 1 < w2.heap.size := by omega
      have hx2 : w.heap.size + 1 + 1 < w2.heap.size := by omega
      have hl2 : w.heap.size + 1 + 1 ≤ w2.heap.size := by omega
      go_wp2
      refine bodyPost_ret (v := .tuple #[.agg #[.int .i64 0, .int .i64 0], .bool false]) (by simp [results, Try.results38, go_sem, hc1, hv1, hu1, hx1, hc2, hv2, hu2, hx2]) rfl ?_
      exact ⟨ret_ag (by rw [E.out]) (by rw [E.out]) (by rw [E.out]), by repeat' (first | exact Below.refl _ _ | (with_reducible assumption) | (refine bnext ?_ (by with_reducible assumption)) | (refine balloc ?_ _) | (refine below_drewN ?_ _) | (refine Below.drew ?_) | (refine bset ?_ (by simp; try omega) _))⟩
  · have E : Hid (FP.timesS an ad bn bd = ((0, 0), false)) := if_neg (fun h => ha h.1.1)
    go_enter Try.func38, Try.ntmps38
    go_wp2_with fail
    refine (right_no _ _ _ ha).mono ?_
    rintro e w1 ⟨rfl, hb1⟩
    obtain ⟨hc1, hf1⟩ := bcell hb1
    have hz1 := hb1.size
    (try simp at hz1)
    have hv1 : w.heap.size < w1.heap.size := by omega
    have hu1 : w.heap.size + 1 < w1.heap.size := by omega
    have hx1 : w.heap.size + 1 + 1 < w1.heap.size := by omega
    have hl1 : w.heap.size + 1 + 1 ≤ w1.heap.size := by omega
    go_wp2
    refine bodyPost_ret (v := .tuple #[.agg #[.int .i64 0, .int .i64 0], .bool false]) (by simp [results, Try.results38, go_sem, hc1, hv1, hu1, hx1]) rfl ?_
    exact ⟨ret_ag (by rw [E.out]) (by rw [E.out]) (by rw [E.out]), by repeat' (first | exact Below.refl _ _ | (with_reducible assumption) | (refine bnext ?_ (by with_reducible assumption)) | (refine balloc ?_ _) | (refine below_drewN ?_ _) | (refine Below.drew ?_) | (refine bset ?_ (by simp; try omega) _))⟩

set_option maxHeartbeats 1000000 in
theorem rtimes_any (an ad bn bd : Int) (w : World) :
    Calls Try.prog 61 #[.agg #[.int .i64 an, .int .i64 ad], .agg #[.int .i64 bn, .int .i64 bd]] w fun e w' => e = .returned (.tuple #[.agg #[.int .i64 (FP.timesS an ad bn bd).1.1, .int .i64 (FP.timesS an ad bn bd).1.2], .bool (FP.timesS an ad bn bd).2]) ∧ Below w.heap.size w w' := by
  by_cases ha : FP.rgt an ad
  · by_cases hb : FP.rgt bn bd
    · obtain ⟨m0, m1, m2, m3⟩ := FP.rgt_mul an ad bn bd ha hb
      obtain ⟨g1, g2, g3, g4, g5, g6, g7, g8, g9⟩ := FP.gc_parts _ _ m0 m1 m2
      clear g7 g9
      by_cases hc : ad * bd / FP.gc (an * bn) (ad * bd) ≤ 262144
      · have E : Hid (FP.timesS an ad bn bd = ((an * bn / FP.gc (an * bn) (ad * bd), ad * bd / FP.gc (an * bn) (ad * bd)), true)) := if_pos ⟨⟨ha, hb⟩, hc⟩
        go_enter Try.func61, Try.ntmps61
        go_wp2_with fail
        refine (rright_yes _ _ _ ha).mono ?_
        rintro e w1 ⟨rfl, hb1⟩
        obtain ⟨hc1, hf1⟩ := bcell hb1
        have hz1 := hb1.size
        (try simp at hz1)
        have hv1 : w.heap.size < w1.heap.size := by omega
        have hu1 : w.heap.size + 1 < w1.heap.size := by omega
        have hx1 : w.heap.size + 1 + 1 < w1.heap.size := by omega
        have hl1 : w.heap.size + 1 + 1 ≤ w1.heap.size := by omega
        go_wp2_with fail
        refine (rright_yes _ _ _ hb).mono ?_
        rintro e w2 ⟨rfl, hb2⟩
        obtain ⟨hc2, hf2⟩ := bcell hb2
        have hz2 := hb2.size
        (try simp at hz2)
        have hv2 : w.heap.size < w2.heap.size := by omega
        have hu2 : w.heap.size + 1 < w2.heap.size := by omega
        have hx2 : w.heap.size + 1 + 1 < w2.heap.size := by omega
        have hl2 : w.heap.size + 1 + 1 ≤ w2.heap.size := by omega
        go_wp2_with fail
        refine (common_any _ _ _ (by omega) (by omega) (by omega) (by omega)).mono ?_
        rintro e w3 ⟨rfl, hb3⟩
        obtain ⟨hc3, hf3⟩ := bcell hb3
        have hz3 := hb3.size
        (try simp at hz3)
        have hv3 : w.heap.size < w3.heap.size := by omega
        have hu3 : w.heap.size + 1 < w3.heap.size := by omega
        have hx3 : w.heap.size + 1 + 1 < w3.heap.size := by omega
        have hl3 : w.heap.size + 1 + 1 ≤ w3.heap.size := by omega
        go_wp2_with fail
        go_region
        go_wp2
        refine bodyPost_ret (v := .tuple #[.agg #[.int .i64 (an * bn / FP.gc (an * bn) (ad * bd)), .int .i64 (ad * bd / FP.gc (an * bn) (ad * bd))], .bool true]) (by simp [results, Try.results61, go_sem, hc1, hv1, hu1, hx1, hc2, hv2, hu2, hx2, hc3, hv3, hu3, hx3]) rfl ?_
        exact ⟨ret_ag (by rw [E.out]) (by rw [E.out]) (by rw [E.out]), by repeat' (first | exact Below.refl _ _ | (with_reducible assumption) | (refine bnext ?_ (by with_reducible assumption)) | (refine balloc ?_ _) | (refine below_drewN ?_ _) | (refine Below.drew ?_) | (refine bset ?_ (by simp; try omega) _))⟩
      · have E : Hid (FP.timesS an ad bn bd = ((0, 0), false)) := if_neg (fun h => hc h.2)
        go_enter Try.func61, Try.ntmps61
        go_wp2_with fail
        refine (rright_yes _ _ _ ha).mono ?_
        rintro e w1 ⟨rfl, hb1⟩
        obtain ⟨hc1, hf1⟩ := bcell hb1
        have hz1 := hb1.size
        (try simp at hz1)
        have hv1 : w.heap.size < w1.heap.size := by omega
        have hu1 : w.heap.size + 1 < w1.heap.size := by omega
        have hx1 : w.heap.size + 1 + 1 < w1.heap.size := by omega
        have hl1 : w.heap.size + 1 + 1 ≤ w1.heap.size := by omega
        go_wp2_with fail
        refine (rright_yes _ _ _ hb).mono ?_
        rintro e w2 ⟨rfl, hb2⟩
        obtain ⟨hc2, hf2⟩ := bcell hb2
        have hz2 := hb2.size
        (try simp at hz2)
        have hv2 : w.heap.size < w2.heap.size := by omega
        have hu2 : w.heap.size + 1 < w2.heap.size := by omega
        have hx2 : w.heap.size + 1 + 1 < w2.heap.size := by omega
        have hl2 : w.heap.size + 1 + 1 ≤ w2.heap.size := by omega
        go_wp2_with fail
        refine (common_any _ _ _ (by omega) (by omega) (by omega) (by omega)).mono ?_
        rintro e w3 ⟨rfl, hb3⟩
        obtain ⟨hc3, hf3⟩ := bcell hb3
        have hz3 := hb3.size
        (try simp at hz3)
        have hv3 : w.heap.size < w3.heap.size := by omega
        have hu3 : w.heap.size + 1 < w3.heap.size := by omega
        have hx3 : w.heap.size + 1 + 1 < w3.heap.size := by omega
        have hl3 : w.heap.size + 1 + 1 ≤ w3.heap.size := by omega
        go_wp2
        refine bodyPost_ret (v := .tuple #[.agg #[.int .i64 0, .int .i64 0], .bool false]) (by simp [results, Try.results61, go_sem, hc1, hv1, hu1, hx1, hc2, hv2, hu2, hx2, hc3, hv3, hu3, hx3]) rfl ?_
        exact ⟨ret_ag (by rw [E.out]) (by rw [E.out]) (by rw [E.out]), by repeat' (first | exact Below.refl _ _ | (with_reducible assumption) | (refine bnext ?_ (by with_reducible assumption)) | (refine balloc ?_ _) | (refine below_drewN ?_ _) | (refine Below.drew ?_) | (refine bset ?_ (by simp; try omega) _))⟩
    · have E : Hid (FP.timesS an ad bn bd = ((0, 0), false)) := if_neg (fun h => hb h.1.2)
      go_enter Try.func61, Try.ntmps61
      go_wp2_with fail
      refine (rright_yes _ _ _ ha).mono ?_
      rintro e w1 ⟨rfl, hb1⟩
      obtain ⟨hc1, hf1⟩ := bcell hb1
      have hz1 := hb1.size
      (try simp at hz1)
      have hv1 : w.heap.size < w1.heap.size := by omega
      have hu1 : w.heap.size + 1 < w1.heap.size := by omega
      have hx1 : w.heap.size + 1 + 1 < w1.heap.size := by omega
      have hl1 : w.heap.size + 1 + 1 ≤ w1.heap.size := by omega
      go_wp2_with fail
      refine (rright_no _ _ _ hb).mono ?_
      rintro e w2 ⟨rfl, hb2⟩
      obtain ⟨hc2, hf2⟩ := bcell hb2
      have hz2 := hb2.size
      (try simp at hz2)
      have hv2 : w.heap.size < w2.heap.size := by omega
      have hu2 : w.heap.size + 1 < w2.heap.size := by omega
      have hx2 : w.heap.size + 1 + 1 < w2.heap.size := by omega
      have hl2 : w.heap.size + 1 + 1 ≤ w2.heap.size := by omega
      go_wp2
      refine bodyPost_ret (v := .tuple #[.agg #[.int .i64 0, .int .i64 0], .bool false]) (by simp [results, Try.results61, go_sem, hc1, hv1, hu1, hx1, hc2, hv2, hu2, hx2]) rfl ?_
      exact ⟨ret_ag (by rw [E.out]) (by rw [E.out]) (by rw [E.out]), by repeat' (first | exact Below.refl _ _ | (with_reducible assumption) | (refine bnext ?_ (by with_reducible assumption)) | (refine balloc ?_ _) | (refine below_drewN ?_ _) | (refine Below.drew ?_) | (refine bset ?_ (by simp; try omega) _))⟩
  · have E : Hid (FP.timesS an ad bn bd = ((0, 0), false)) := if_neg (fun h => ha h.1.1)
    go_enter Try.func61, Try.ntmps61
    go_wp2_with fail
    refine (rright_no _ _ _ ha).mono ?_
    rintro e w1 ⟨rfl, hb1⟩
    obtain ⟨hc1, hf1⟩ := bcell hb1
    have hz1 := hb1.size
    (try simp at hz1)
    have hv1 : w.heap.size < w1.heap.size := by omega
    have hu1 : w.heap.size + 1 < w1.heap.size := by omega
    have hx1 : w.heap.size + 1 + 1 < w1.heap.size := by omega
    have hl1 : w.heap.size + 1 + 1 ≤ w1.heap.size := by omega
    go_wp2
    refine bodyPost_ret (v := .tuple #[.agg #[.int .i64 0, .int .i64 0], .bool false]) (by simp [results, Try.results61, go_sem, hc1, hv1, hu1, hx1]) rfl ?_
    exact ⟨ret_ag (by rw [E.out]) (by rw [E.out]) (by rw [E.out]), by repeat' (first | exact Below.refl _ _ | (with_reducible assumption) | (refine bnext ?_ (by with_reducible assumption)) | (refine balloc ?_ _) | (refine below_drewN ?_ _) | (refine Below.drew ?_) | (refine bset ?_ (by simp; try omega) _))⟩

end Go.Proofs.Ytbhkbjnmpaebdaa.F
