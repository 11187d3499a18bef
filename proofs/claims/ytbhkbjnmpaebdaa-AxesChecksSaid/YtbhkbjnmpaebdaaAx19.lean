/- What numbers make: plain. No conditions. -/
import Derived.Test.YtbhkbjnmpaebdaaAx14
import Derived.Test.YtbhkbjnmpaebdaaAx17
import Derived.Test.YtbhkbjnmpaebdaaAx16
namespace Go.Proofs.Ytbhkbjnmpaebdaa.AX
set_option linter.unusedVariables false
def num (l : List Int) (k : Nat) : Int := l.getD k 0 % 65536
theorem num_bd (l : List Int) (k : Nat) : 0 ≤ num l k ∧ num l k ≤ 65535 := by unfold num; omega
def peakOf (a : Int) : Int := [0, 0, 64, -64, 32, -16, a % 129 - 64].getD (a / 129 % 7).toNat 0
def mkTent (a b c : Int) : Tn := if 0 < peakOf a then (min (b % 65) (peakOf a), peakOf a, max (c % 65) (peakOf a)) else if peakOf a < 0 then (min (-(b % 65)) (peakOf a), peakOf a, max (-(c % 65)) (peakOf a)) else (-(b % 65), 0, c % 65)
theorem peak_bd (a : Int) : -64 ≤ peakOf a ∧ peakOf a ≤ 64 := by
  unfold peakOf
  obtain ⟨n, hn⟩ : ∃ n : Nat, (a / 129 % 7).toNat = n := ⟨_, rfl⟩
  have h7 : n < 7 := by omega
  rw [hn]
  have : n = 0 ∨ n = 1 ∨ n = 2 ∨ n = 3 ∨ n = 4 ∨ n = 5 ∨ n = 6 := by omega
  rcases this with h | h | h | h | h | h | h <;> subst h <;> simp <;> omega
theorem tent_mk (a b c : Int) : tent (mkTent a b c) = true := by
  rw [tent_iff]
  have := peak_bd a
  unfold mkTent
  obtain ⟨p, hp⟩ : ∃ p, peakOf a = p := ⟨_, rfl⟩
  rw [hp] at this ⊢
  have h1 : 0 ≤ b % 65 ∧ b % 65 < 65 := by omega
  have h2 : 0 ≤ c % 65 ∧ c % 65 < 65 := by omega
  obtain ⟨x, hx⟩ : ∃ x, b % 65 = x := ⟨_, rfl⟩
  obtain ⟨y, hy⟩ : ∃ y, c % 65 = y := ⟨_, rfl⟩
  rw [hx] at h1
  rw [hy] at h2
  rw [hx, hy]
  by_cases h3 : 0 < p
  · rw [if_pos h3]
    simp only
    omega
  · rw [if_neg h3]
    by_cases h4 : p < 0
    · rw [if_pos h4]
      simp only
      omega
    · rw [if_neg h4]
      refine ⟨by simp only; omega, by simp only; omega, by simp only; omega, by simp only; omega, .inl rfl⟩
def mkTn (l : List Int) (k : Nat) : Tn := mkTent (num l (3 * k)) (num l (3 * k + 1)) (num l (3 * k + 2))
def mkReg (l : List Int) (n : Nat) : List Tn := (List.range n).map (mkTn l)
theorem mkReg_succ (l : List Int) (n : Nat) : mkReg l (n + 1) = mkReg l n ++ [mkTn l n] := by unfold mkReg; rw [List.range_succ, List.map_append]; rfl
theorem mkReg_len (l : List Int) (n : Nat) : (mkReg l n).length = n := by unfold mkReg; simp
theorem mkReg_right (l : List Int) {n : Nat} (hn : n ≤ 3) : right (mkReg l n) (n : Int) = true := by
  rw [right_iff]
  refine ⟨⟨by omega, by omega, by rw [mkReg_len]⟩, fun t ht => ?_⟩
  unfold mkReg at ht
  obtain ⟨k, -, rfl⟩ := List.mem_map.1 ht
  exact tent_mk _ _ _
def mkC (l : List Int) (k : Nat) : Int := num l k % 129 - 64
def mkAt (l : List Int) (n : Nat) : List Int := (List.range n).map (mkC l)
theorem mkAt_len (l : List Int) (n : Nat) : (mkAt l n).length = n := by unfold mkAt; simp
theorem mkC_coord (l : List Int) (k : Nat) : coord (mkC l k) = true := by rw [coord_iff]; unfold mkC; have := num_bd l k; omega
theorem mkAt_coords (l : List Int) {n : Nat} (hn : n ≤ 3) : coords (mkAt l n) = true := by
  rw [coords_iff]
  refine ⟨fun t ht => ?_, by rw [mkAt_len]; omega⟩
  unfold mkAt at ht
  obtain ⟨k, -, rfl⟩ := List.mem_map.1 ht
  exact mkC_coord l k
def mkP (l : List Int) (k : Nat) : Pr := (num l (2 * k) % 129 - 64, min 64 (num l (2 * k) % 129 - 64 + num l (2 * k + 1) % 65))
def mkRanges (l : List Int) (n : Nat) : List Pr := (List.range n).map (mkP l)
theorem mkRanges_succ (l : List Int) (n : Nat) : mkRanges l (n + 1) = mkRanges l n ++ [mkP l n] := by unfold mkRanges; rw [List.range_succ, List.map_append]; rfl
theorem mkRanges_len (l : List Int) (n : Nat) : (mkRanges l n).length = n := by unfold mkRanges; simp
theorem mkP_rng (l : List Int) (k : Nat) : rng (mkP l k) = true := by
  rw [rng_iff]
  unfold mkP
  have h1 := num_bd l (2 * k)
  have h2 := num_bd l (2 * k + 1)
  simp only
  omega
theorem mkRanges_right (l : List Int) {n : Nat} (hn : n ≤ 3) : ranges (mkRanges l n) (n : Int) = true := by
  rw [ranges_iff]
  refine ⟨⟨by omega, by omega, by rw [mkRanges_len]⟩, fun t ht => ?_⟩
  unfold mkRanges at ht
  obtain ⟨k, -, rfl⟩ := List.mem_map.1 ht
  exact mkP_rng l k
/-- The points to the left: the least one, its coordinate, all of them. -/
def lows (l : List Int) (d : Int) : Nat → Int × Int × List Pr
  | 0 => (d, 0, [])
  | k + 1 => ((lows l d k).1 - 1 - num l (3 + k) % 200, max (-64) ((lows l d k).2.1 - num l (5 + k) % 65), ((lows l d k).1 - 1 - num l (3 + k) % 200, max (-64) ((lows l d k).2.1 - num l (5 + k) % 65)) :: (lows l d k).2.2)
def highs (l : List Int) (d : Int) (m : List Pr) : Nat → Int × Int × List Pr
  | 0 => (d, 0, m)
  | k + 1 => ((highs l d m k).1 + 1 + num l (7 + k) % 200, min 64 ((highs l d m k).2.1 + num l (9 + k) % 65), (highs l d m k).2.2 ++ [((highs l d m k).1 + 1 + num l (7 + k) % 200, min 64 ((highs l d m k).2.1 + num l (9 + k) % 65))])
def mkD (l : List Int) : Int := num l 0 % 41 * 25 - 500
def mkLow (l : List Int) : Nat := (num l 1 % 3).toNat
def mkHigh (l : List Int) : Nat := (num l 2 % 3).toNat
def mkAxis (l : List Int) (s : ByteArray) : Ax := ⟨s, (lows l (mkD l) (mkLow l)).1, mkD l, (highs l (mkD l) ((lows l (mkD l) (mkLow l)).2.2 ++ [(mkD l, 0)]) (mkHigh l)).1, (highs l (mkD l) ((lows l (mkD l) (mkLow l)).2.2 ++ [(mkD l, 0)]) (mkHigh l)).2.2⟩
theorem mkD_bd (l : List Int) : -500 ≤ mkD l ∧ mkD l ≤ 500 := by unfold mkD; have := num_bd l 0; omega
theorem mkAxis_check (l : List Int) {s : ByteArray} (hs : isName s = true) : check (mkAxis l s) = 0 := by
  have hd := mkD_bd l
  have n3 := num_bd l 3
  have n4 := num_bd l 4
  have n5 := num_bd l 5
  have n6 := num_bd l 6
  have n7 := num_bd l 7
  have n8 := num_bd l 8
  have n9 := num_bd l 9
  have n10 := num_bd l 10
  have hl : mkLow l = 0 ∨ mkLow l = 1 ∨ mkLow l = 2 := by unfold mkLow; have := num_bd l 1; omega
  have hh : mkHigh l = 0 ∨ mkHigh l = 1 ∨ mkHigh l = 2 := by unfold mkHigh; have := num_bd l 2; omega
  unfold mkAxis
  obtain ⟨d, hd'⟩ : ∃ d, mkD l = d := ⟨_, rfl⟩
  rw [hd'] at hd ⊢
  have g3 : 0 ≤ num l 3 % 200 ∧ num l 3 % 200 < 200 := by omega
  have g4 : 0 ≤ num l 4 % 200 ∧ num l 4 % 200 < 200 := by omega
  have g5 : 0 ≤ num l 5 % 65 ∧ num l 5 % 65 < 65 := by omega
  have g6 : 0 ≤ num l 6 % 65 ∧ num l 6 % 65 < 65 := by omega
  have g7 : 0 ≤ num l 7 % 200 ∧ num l 7 % 200 < 200 := by omega
  have g8 : 0 ≤ num l 8 % 200 ∧ num l 8 % 200 < 200 := by omega
  have g9 : 0 ≤ num l 9 % 65 ∧ num l 9 % 65 < 65 := by omega
  have g10 : 0 ≤ num l 10 % 65 ∧ num l 10 % 65 < 65 := by omega
  rcases hl with hl | hl | hl <;> rcases hh with hh | hh | hh <;> rw [hl, hh] <;> simp only [lows, highs, Nat.zero_add, Nat.reduceAdd, List.nil_append, List.cons_append] <;>
    generalize num l 3 % 200 = x3 at * <;> generalize num l 4 % 200 = x4 at * <;> generalize num l 5 % 65 = x5 at * <;> generalize num l 6 % 65 = x6 at * <;> generalize num l 7 % 200 = x7 at * <;> generalize num l 8 % 200 = x8 at * <;> generalize num l 9 % 65 = x9 at * <;> generalize num l 10 % 65 = x10 at * <;>
    (refine check_ok hs ?_
     rw [not_or, not_or, not_or, not_or]
     refine ⟨by simp only; omega, by simp only; omega, by simp only; omega, by simp only; omega, ?_⟩
     rw [Bool.not_eq_false]
     unfold isMap
     rw [Bool.and_eq_true, Bool.and_eq_true, ends_iff]
     refine ⟨⟨by simp, by simp, by simp, by simp⟩, ?_, ?_⟩
     · simp only [List.length_cons, List.length_nil, Nat.reduceAdd, Nat.zero_add]
       rw [List.all_eq_true]
       intro j hj
       rw [List.mem_range] at hj
       unfold ptOk
       rw [Bool.and_eq_true, coord_iff, Bool.or_eq_true, decide_eq_true_iff, decide_eq_true_iff]
       have hj5 : j = 0 ∨ j = 1 ∨ j = 2 ∨ j = 3 ∨ j = 4 := by omega
       rcases hj5 with h | h | h | h | h <;> subst h <;> first | (exfalso; omega) | (simp; done) | (simp; omega)
     · unfold mid
       rw [decide_eq_true_iff]
       simp)
theorem mkLow_lt (l : List Int) : mkLow l ≤ 2 := by unfold mkLow; have := num_bd l 1; omega
theorem mkHigh_lt (l : List Int) : mkHigh l ≤ 2 := by unfold mkHigh; have := num_bd l 2; omega
theorem lows_len (l : List Int) (d : Int) : ∀ k, (lows l d k).2.2.length = k
  | 0 => rfl
  | k + 1 => by show ((_ : Pr) :: (lows l d k).2.2).length = k + 1; rw [List.length_cons, lows_len l d k]
theorem highs_len (l : List Int) (d : Int) (m : List Pr) : ∀ k, (highs l d m k).2.2.length = m.length + k
  | 0 => rfl
  | k + 1 => by show ((highs l d m k).2.2 ++ [_]).length = m.length + (k + 1); rw [List.length_append, highs_len l d m k]; simp; omega
theorem mkAxis_len (l : List Int) (s : ByteArray) : 1 ≤ (mkAxis l s).map.length ∧ (mkAxis l s).map.length ≤ 5 := by
  unfold mkAxis
  have h1 := mkLow_lt l
  have h2 := mkHigh_lt l
  simp only [highs_len, List.length_append, lows_len, List.length_cons, List.length_nil]
  omega
end Go.Proofs.Ytbhkbjnmpaebdaa.AX
