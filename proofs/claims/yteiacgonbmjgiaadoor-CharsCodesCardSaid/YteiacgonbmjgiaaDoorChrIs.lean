/- The contracts of the law's helper 'is' and of both Codes: which characters a script has. -/
import Derived.Test.YteiacgonbmjgiaaDoorChrOps
namespace Go.Proofs.YteiacgonbmjgiaaDoor
open Go.RowKit

def isB (c k s g : Int) (x : Bool) : Bool := decide (FC.cls c = k ∧ FC.scr c = s ∧ FC.stg c = g ∧ FC.extB c = x)

set_option maxHeartbeats 400000 in
theorem is_any (c k s t : Int) (x : Bool) (g : Nat × Nat) (w : World) (hl : Laid w g) :
    Calls Tryd.prog 11 #[.int .i64 c, .int .i64 k, .int .i64 s, .int .i64 t, .bool x] w fun e w' => e = .returned (.bool (isB c k s t x)) ∧ Below w.heap.size w w' := by
  have HL := Lib.hid hl
  clear hl
  go_enter Tryd.func11, Tryd.ntmps11
  go_wp2_with (first
    | (go_at_call 19; refine (class_any _ g _ (HL.out.mono (by (repeat' (first | exact Below.refl _ _ | (with_reducible assumption) | (refine bnext ?_ (by with_reducible assumption)) | (refine balloc ?_ _) | (refine below_drewN ?_ _) | (refine Below.drew ?_) | (refine bset ?_ (by simp; try omega) _)))))).mono ?_; rintro e w1 ⟨rfl, hb1⟩)
    | (go_at_call 18; refine (script_any _ g _ (HL.out.mono (by (repeat' (first | exact Below.refl _ _ | (with_reducible assumption) | (refine bnext ?_ (by with_reducible assumption)) | (refine balloc ?_ _) | (refine below_drewN ?_ _) | (refine Below.drew ?_) | (refine bset ?_ (by simp; try omega) _)))))).mono ?_; rintro e w2 ⟨rfl, hb2⟩)
    | (go_at_call 20; refine (strong_any _ g _ (HL.out.mono (by (repeat' (first | exact Below.refl _ _ | (with_reducible assumption) | (refine bnext ?_ (by with_reducible assumption)) | (refine balloc ?_ _) | (refine below_drewN ?_ _) | (refine Below.drew ?_) | (refine bset ?_ (by simp; try omega) _)))))).mono ?_; rintro e w3 ⟨rfl, hb3⟩)
    | (go_at_call 21; refine (extends_any _ g _ (HL.out.mono (by (repeat' (first | exact Below.refl _ _ | (with_reducible assumption) | (refine bnext ?_ (by with_reducible assumption)) | (refine balloc ?_ _) | (refine below_drewN ?_ _) | (refine Below.drew ?_) | (refine bset ?_ (by simp; try omega) _)))))).mono ?_; rintro e w4 ⟨rfl, hb4⟩))
  all_goals
    go_ret
    exact ⟨retb (by unfold isB; rw [Bool.eq_iff_iff]; simp [*]), by (repeat' (first | exact Below.refl _ _ | (with_reducible assumption) | (refine bnext ?_ (by with_reducible assumption)) | (refine balloc ?_ _) | (refine below_drewN ?_ _) | (refine Below.drew ?_) | (refine bset ?_ (by simp; try omega) _)))⟩

theorem info_int : (Tryd.prog.info? 3).map (fun i => (i.zero, i.size, i.bytes)) = some (some (.int .i64 0), 1, 8) := by kernel_rfl

theorem own_below {w w' : World} {B e size n : Nat} {v : Value} {xs : List Value} (h : w.ownsRow B e size v n xs) (hb : Below w.heap.size w w') : w'.ownsRow B e size v n xs := by
  refine ⟨h.1, ?_⟩
  rcases h.2 with hn | ⟨g, cap, cur, rfl, hg, hgg, rest⟩
  · exact .inl hn
  · exact .inr ⟨g, cap, cur, rfl, hg, by rw [hb.block g (Array.getElem?_eq_some_iff.1 hgg).1]; exact hgg, rest⟩
theorem cell_one_new (w : World) (u : Value) (T : TypeId) : ∀ j v, [u][j]? = some v → (w.alloc (.cells #[u] T)).cell? ((⟨w.heap.size, 0, none⟩ : Addr).add j) = some v := by
  intro j v h
  match j, h with
  | 0, h => simp at h; subst h; rw [show ((⟨w.heap.size, 0, none⟩ : Addr).add 0) = ⟨w.heap.size, 0, none⟩ by simp [Addr.add]]; rw [World.cell?_alloc_at _ _ _ _ rfl]; rfl

namespace FC
/-- The characters below k of a script, in order. -/
def upto (s : Int) (k : Nat) : List Int := ((List.range k).map (fun n : Nat => (n : Int))).filter (fun c => decide (scr c = s))
def codes (s : Int) : List Int := upto s 256
theorem upto_hit {s : Int} {k : Nat} (h : scr k = s) : upto s (k + 1) = upto s k ++ [(k : Int)] := by simp [upto, List.range_succ, List.filter_append, h]
theorem upto_miss {s : Int} {k : Nat} (h : ¬ scr k = s) : upto s (k + 1) = upto s k := by simp [upto, List.range_succ, List.filter_append, h]
theorem upto_le (s : Int) (k : Nat) : (upto s k).length ≤ k := by
  have := List.length_filter_le (fun c => decide (scr c = s)) ((List.range k).map (fun n : Nat => (n : Int)))
  simpa [upto] using this
end FC

set_option maxRecDepth 100000 in
set_option maxHeartbeats 400000 in
theorem codes_any (s : Int) (g : Nat × Nat) (w : World) (hl : Laid w g) :
    Calls Tryd.prog 16 #[.int .i64 s] w fun e w' => ∃ v, e = .returned v ∧ w'.ownsRow w.heap.size 3 1 v (FC.codes s).length ((FC.codes s).map (Value.int .i64)) ∧ Below w.heap.size w w' := by
  have HL := Lib.hid hl
  clear hl
  obtain ⟨i0, hi, hz0, hz1, hz2⟩ := info_parts info_int
  go_enter Tryd.func16, Tryd.ntmps16
  go_wp2
  go_loopw [3, 5] (fun v i wr => ∃ k : Nat, k ≤ 256 ∧ i = .int .i64 k ∧ wr.ownsRow w.heap.size 3 1 v (FC.upto s k).length ((FC.upto s k).map (Value.int .i64)) ∧ Below w.heap.size w wr) (fun _ i _ => 256 - (intOf i).toNat)
  case atStart => exact ⟨0, Nat.zero_le _, rfl, World.ownsRow_nil _ _ _ _, Below.refl _ _⟩
  case round =>
    obtain ⟨k, hk, rfl, hown, hb⟩ := hrel
    by_cases hk2 : k < 256
    · have hle := FC.upto_le s k
      by_cases hs : FC.scr k = s
      · have H := Lib.hid hs
        have hq : (FC.scr k == s) = true := by simp [hs]
        clear hs
        go_wp2_with (first
          | (go_at_call 18; refine (script_any _ g _ (HL.out.mono (by (repeat' (first | exact Below.refl _ _ | (with_reducible assumption) | (refine bnext ?_ (by with_reducible assumption)) | (refine balloc ?_ _) | (refine below_drewN ?_ _) | (refine Below.drew ?_) | (refine bset ?_ (by simp; try omega) _)))))).mono ?_; rintro e w1 ⟨rfl, hb1⟩; have hown1 := own_below hown hb1; clear hown)
          | (at_builtin; refine wpList_append_own _ rfl _ _ 29 rfl w.heap.size 3 i0 (.int .i64 0) 1 8 Tryd.underlying29 hi hz0 hz1 hz2 rfl (by decide) _ _ _ rfl (hown1.alloc _) ⟨w1.heap.size, 0, none⟩ 1 1 [.int .i64 k] rfl rfl ?c1 ?c2 ?c3 ?c4 ?c5 ?_))
        case c1 => exact cell_one_new _ _ _
        case c2 => intro u hu; simp at hu; subst hu; rfl
        case c3 => unfold maxLen; omega
        case c4 => omega
        case c5 => have := hb.size; have := hb1.size; simp; omega
        intro v' w2 hown2 hgrow _
        have hB := hb.trans (hb1.mono hb.size)
        have hB2 := (hB.alloc (by have := hb.size; have := hb1.size; omega) (.cells #[.int .i64 k] 3)).grown hgrow (by have := hb.size; have := hb1.size; simp; omega) (fun j hj => (hown1.lt j hj).1)
        clear hgrow hown1
        go_wp2
        go_roundw
        case rel => exact ⟨k + 1, by omega, by go_num, by rw [FC.upto_hit H.out]; simpa using hown2, hB2⟩
        case measure => simp [intOf]; omega
      · have H := Lib.hid hs
        have hq : (FC.scr k == s) = false := by simp [hs]
        clear hs
        go_wp2_with (go_at_call 18; refine (script_any _ g _ (HL.out.mono (by (repeat' (first | exact Below.refl _ _ | (with_reducible assumption) | (refine bnext ?_ (by with_reducible assumption)) | (refine balloc ?_ _) | (refine below_drewN ?_ _) | (refine Below.drew ?_) | (refine bset ?_ (by simp; try omega) _)))))).mono ?_; rintro e w1 ⟨rfl, hb1⟩)
        go_roundw
        case rel => exact ⟨k + 1, by omega, by go_num, by rw [FC.upto_miss H.out]; exact own_below hown hb1, by (repeat' (first | exact Below.refl _ _ | (with_reducible assumption) | (refine bnext ?_ (by with_reducible assumption)) | (refine balloc ?_ _) | (refine below_drewN ?_ _) | (refine Below.drew ?_) | (refine bset ?_ (by simp; try omega) _)))⟩
        case measure => simp [intOf]; omega
    · obtain rfl : k = 256 := by omega
      go_wp2
      go_ret
      exact ⟨_, rfl, hown, hb⟩

set_option maxRecDepth 100000 in
set_option maxHeartbeats 400000 in
theorem rcodes_any (s : Int) (w : World) :
    Calls Tryd.prog 17 #[.int .i64 s] w fun e w' => ∃ v, e = .returned v ∧ w'.ownsRow w.heap.size 3 1 v (FC.codes s).length ((FC.codes s).map (Value.int .i64)) ∧ Below w.heap.size w w' := by
  obtain ⟨i0, hi, hz0, hz1, hz2⟩ := info_parts info_int
  go_enter Tryd.func17, Tryd.ntmps17
  go_wp2
  go_loopw [3, 4] (fun v i wr => ∃ k : Nat, k ≤ 256 ∧ i = .int .i64 k ∧ wr.ownsRow w.heap.size 3 1 v (FC.upto s k).length ((FC.upto s k).map (Value.int .i64)) ∧ Below w.heap.size w wr) (fun _ i _ => 256 - (intOf i).toNat)
  case atStart => exact ⟨0, Nat.zero_le _, rfl, World.ownsRow_nil _ _ _ _, Below.refl _ _⟩
  case round =>
    obtain ⟨k, hk, rfl, hown, hb⟩ := hrel
    by_cases hk2 : k < 256
    · have hle := FC.upto_le s k
      by_cases hs : FC.scr k = s
      · have H := Lib.hid hs
        have hq : (FC.scr k == s) = true := by simp [hs]
        clear hs
        go_wp2_with (first
          | (go_at_call 13; refine (rscript_any _ _).mono ?_; rintro e w1 ⟨rfl, rfl⟩)
          | (at_builtin; refine wpList_append_own _ rfl _ _ 29 rfl w.heap.size 3 i0 (.int .i64 0) 1 8 Tryd.underlying29 hi hz0 hz1 hz2 rfl (by decide) _ _ _ rfl (hown.alloc _) ⟨wr.heap.size, 0, none⟩ 1 1 [.int .i64 k] rfl rfl ?c1 ?c2 ?c3 ?c4 ?c5 ?_))
        case c1 => exact cell_one_new _ _ _
        case c2 => intro u hu; simp at hu; subst hu; rfl
        case c3 => unfold maxLen; omega
        case c4 => omega
        case c5 => have := hb.size; simp; omega
        intro v' w2 hown2 hgrow _
        have hB2 := (hb.alloc (by have := hb.size; omega) (.cells #[.int .i64 k] 3)).grown hgrow (by have := hb.size; simp; omega) (fun j hj => (hown.lt j hj).1)
        clear hgrow hown
        go_wp2
        go_roundw
        case rel => exact ⟨k + 1, by omega, by go_num, by rw [FC.upto_hit H.out]; simpa using hown2, hB2⟩
        case measure => simp [intOf]; omega
      · have H := Lib.hid hs
        have hq : (FC.scr k == s) = false := by simp [hs]
        clear hs
        go_wp2_with (go_at_call 13; refine (rscript_any _ _).mono ?_; rintro e w1 ⟨rfl, rfl⟩)
        go_roundw
        case rel => exact ⟨k + 1, by omega, by go_num, by rw [FC.upto_miss H.out]; exact hown, hb⟩
        case measure => simp [intOf]; omega
    · obtain rfl : k = 256 := by omega
      go_wp2
      go_ret
      exact ⟨_, rfl, hown, hb⟩

theorem own_shape {w : World} {B e size n : Nat} {v : Value} {xs : List Value} (h : w.ownsRow B e size v n xs) : ∃ a cap, v = .slice a n cap := by
  rcases h.2 with ⟨rfl, rfl⟩ | ⟨g, cap, cur, rfl, _⟩
  · exact ⟨_, _, rfl⟩
  · exact ⟨_, _, rfl⟩

set_option maxRecDepth 100000 in
set_option maxHeartbeats 2000000 in
theorem sanity_any (g : Nat × Nat) (w : World) (hl : Laid w g) : Calls Tryd.prog 8 #[] w fun e w' => e = .returned (.bool true) ∧ Below w.heap.size w w' := by
  have HL := Lib.hid hl
  clear hl
  have acc : Below w.heap.size w w := Below.refl _ _
  have e1 : isB 10 1 0 0 false = true := by decide +kernel
  have e2 : isB 32 2 0 0 false = true := by decide +kernel
  have e3 : isB 48 3 0 3 false = true := by decide +kernel
  have e4 : isB 58 0 0 0 false = true := by decide +kernel
  have e5 : isB 64 5 1 1 false = true := by decide +kernel
  have e6 : isB 103 6 1 1 true = true := by decide +kernel
  have e7 : isB 104 7 2 2 false = true := by decide +kernel
  have e8 : isB 128 8 2 2 false = true := by decide +kernel
  have e9 : isB 184 10 3 1 true = true := by decide +kernel
  have e10 : isB 192 12 3 1 true = true := by decide +kernel
  have e11 : isB 240 13 0 0 true = true := by decide +kernel
  have e12 : isB 256 0 0 0 false = true := by decide +kernel
  have j1 : FC.joinB 104 = true := by decide +kernel
  have j2 : FC.dualB 104 = true := by decide +kernel
  have j3 : FC.joinB 128 = true := by decide +kernel
  have j4 : FC.dualB 128 = false := by decide +kernel
  have j5 : FC.joinB 64 = false := by decide +kernel
  have j6 : FC.dualB 64 = false := by decide +kernel
  have l1 : (FC.codes 1).length = 40 := by decide +kernel
  have l2 : (FC.codes 2).length = 48 := by decide +kernel
  have l3 : (FC.codes 3).length = 56 := by decide +kernel
  go_enter Tryd.func8, Tryd.ntmps8
  go_wp2_with (first
    | (go_at_call 11; refine (is_any _ _ _ _ _ g _ (HL.out.mono acc)).mono ?_; rintro e w1 ⟨rfl, hb1⟩; replace acc := bnext acc hb1; clear hb1)
    | (go_at_call 9; refine (joins_any _ g _ (HL.out.mono acc)).mono ?_; rintro e w1 ⟨rfl, hb1⟩; replace acc := bnext acc hb1; clear hb1)
    | (go_at_call 16; refine (codes_any _ g _ (HL.out.mono acc)).mono ?_; rintro e w1 ⟨v, rfl, hown, hb1⟩; obtain ⟨a, cap, rfl⟩ := own_shape hown; clear hown; replace acc := bnext acc hb1; clear hb1))
  go_ret
  exact ⟨rfl, acc⟩
end Go.Proofs.YteiacgonbmjgiaaDoor
