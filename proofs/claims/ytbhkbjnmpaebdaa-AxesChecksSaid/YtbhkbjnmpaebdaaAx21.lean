/- Coordinates and ranges that numbers make. No conditions. -/
import Derived.Test.YtbhkbjnmpaebdaaAx20
import Derived.Deep.Cut
namespace Go.Proofs.Ytbhkbjnmpaebdaa.AX
theorem mkAt_succ (l : List Int) (n : Nat) : mkAt l (n + 1) = mkAt l n ++ [mkC l n] := by unfold mkAt; rw [List.range_succ, List.map_append]; rfl
end Go.Proofs.Ytbhkbjnmpaebdaa.AX
namespace Go.Proofs.Ytbhkbjnmpaebdaa
set_option maxRecDepth 100000
set_option linter.unusedVariables false
open Go.RowKit Go.Deep
theorem make_ints (w : World) (n B : Nat) (hB : B ≤ w.heap.size) (hn : n ≤ 1000000000) :
    ∃ w', (Instr.makeSlice 25 (.int .i64 (n : Int)) (.int .i64 (n : Int))).run Try.prog w = .ok (.slice (some ⟨w.heap.size, 0, none⟩) n n) w' ∧
      w'.ownsRow B 3 1 (.slice (some ⟨w.heap.size, 0, none⟩) n n) n ((List.replicate n (0 : Int)).map (Value.int .i64)) ∧ Below w.heap.size w w' ∧ w.heap.size < w'.heap.size := by
  obtain ⟨i0, hi, hz0, hz1, hz2⟩ := info_parts info_int
  have h := run_make (P := Try.prog) w 25 3 i0 (.int .i64 0) Try.underlying25 hi hz0 .i64 .i64 n n (by omega) (by omega) (by rw [hz2]; omega) (by omega)
  simp only [Int.toNat_natCast] at h
  refine ⟨_, h, ?_, balloc (Below.refl _ _) _, by simp⟩
  have := World.ownsRow_lit (base := B) (e := 3) (size := 1) w (madeCells #[.int .i64 0] (n * i0.size)) n hB (by unfold maxLen; omega) (by rw [size_madeCells, hz1])
  rw [toList_madeCells_one, hz1, Nat.mul_one] at this
  rw [show (Value.int .i64 0).cells = #[.int .i64 0] from rfl, hz1, Nat.mul_one, List.map_replicate]
  exact this
theorem set_mid (a b : List Int) (x y : Int) : ((a ++ x :: b).map (Value.int .i64)).set a.length (.int .i64 y) = ((a ++ [y]) ++ b).map (Value.int .i64) := by
  simp
set_option maxHeartbeats 4000000 in
theorem madeat_any (l : List Int) (n : Nat) (v : Value) (w : World) (hv : InAt w v l) (hl : l.length ≤ maxLen) (hn : n ≤ 3) :
    Calls Try.prog 22 #[v, .int .i64 (n : Int)] w fun e w' => ∃ v', e = .returned v' ∧ w'.ownsRow w.heap.size 3 1 v' n ((AX.mkAt l n).map (Value.int .i64)) ∧ Below w.heap.size w w' := by
  have HV : Hid (∀ V, Below w.heap.size w V → InAt V v l) := Lib.hid fun V hV => hv.keep hV
  obtain ⟨a, c, rfl, -⟩ := hv
  obtain ⟨w1, hmk, hown, hb1, hw1⟩ := make_ints w n w.heap.size (Nat.le_refl _) (by omega)
  have HLL := Lib.hid hl
  clear hl
  go_enter Try.func22, Try.ntmps22
  go_wp2
  go_loopw [6] (fun v6 wr => ∃ k : Nat, v6 = .int .i64 k ∧ k ≤ n ∧ wr.ownsRow w.heap.size 3 1 (.slice (some ⟨w.heap.size, 0, none⟩) n n) n ((AX.mkAt l k ++ List.replicate (n - k) 0).map (Value.int .i64)) ∧ Below w.heap.size w wr) (fun v _ => n - (intOf v).toNat)
  case atStart => exact ⟨0, rfl, Nat.zero_le _, by simpa [AX.mkAt] using hown, hb1⟩
  case round =>
    obtain ⟨k, rfl, hk, hrow, hb⟩ := hrel
    have hbs := hb.size
    by_cases h1 : k < n
    · have h1i : (k : Int) < (n : Int) := by omega
      have hk0 : (0 : Int) ≤ (k : Int) := by omega
      have hrep : List.replicate (n - k) (0 : Int) = 0 :: List.replicate (n - (k + 1)) 0 := by rw [← List.replicate_succ]; congr 1; omega
      rw [hrep] at hrow
      have HA := Lib.hid (AX.mkAt_succ l k)
      have HK := Lib.hid (AX.mkAt_len l k)
      obtain ⟨r, hr⟩ : ∃ r, AX.num l k = r := ⟨_, rfl⟩
      have hrb := AX.num_bd l k
      rw [hr] at hrb
      obtain ⟨q, hq⟩ : ∃ q, r % 129 = q := ⟨_, rfl⟩
      have hq2 : q = r % 129 := hq.symm
      have hqb : 0 ≤ q ∧ q < 129 := by omega
      have HQ : Hid (AX.mkC l k = q - 64) := Lib.hid (by unfold AX.mkC; rw [hr, hq2])
      have HR := Lib.hid hr
      generalize AX.mkAt l k = A at hrow HA HK
      generalize hR : List.replicate (n - (k + 1)) (0 : Int) = R at hrow
      have HRR := Lib.hid hR
      have hcell := hrow.cellAt k (by omega)
      have hfr := hrow.frozenAt k
      have hst := hrow.stored k (.int .i64 (q - 64))
      have HB3 := Lib.hid hb
      rw [show ((A ++ 0 :: R).map (Value.int .i64))[k]? = some (.int .i64 0) by rw [← HK.out]; simp] at hcell
      have HST := Lib.hid hst
      clear hst hrow hb hR hr hq2 hrep hmk hown
      go_wp2_with fail
      refine (number_c HR.out rfl _ _ (HV.out _ HB3.out) HLL.out (by omega)).mono ?_
      rintro e w3 ⟨rfl, he⟩
      have he' := he.symm
      subst he'
      go_wp2_with fail
      go_roundw
      case rel =>
        refine ⟨k + 1, by go_num, h1, ?_, bset HB3.out (Nat.le_refl _) _⟩
        have h2 := HST.out.1
        have h3 := set_mid A R 0 (q - 64)
        rw [HK.out] at h3
        rw [h3] at h2
        rw [HA.out, HQ.out, HRR.out]
        exact h2
      case measure => simp [intOf]; omega
    · obtain rfl : k = n := by omega
      rw [Nat.sub_self, List.replicate_zero, List.append_nil] at hrow
      clear hmk hown
      go_wp2
      go_ret
      exact ⟨_, rfl, hrow, hb⟩
set_option maxHeartbeats 4000000 in
theorem maderanges_any (l : List Int) (n : Nat) (v : Value) (w : World) (hv : InAt w v l) (hl : l.length ≤ maxLen) (hn : n ≤ 3) :
    Calls Try.prog 31 #[v, .int .i64 (n : Int)] w fun e w' => ∃ v', e = .returned v' ∧ w'.ownsRow w.heap.size 30 2 v' n (AX.prc (AX.mkRanges l n)) ∧ Below w.heap.size w w' := by
  obtain ⟨i0, hi, hz0, hz1, hz2⟩ := info_parts info_pr
  have HV : Hid (∀ V, Below w.heap.size w V → InAt V v l) := Lib.hid fun V hV => hv.keep hV
  obtain ⟨a, c, rfl, -⟩ := hv
  have HLL := Lib.hid hl
  clear hl
  go_enter Try.func31, Try.ntmps31
  go_wp2_with fail
  go_loopw [5, 6] (fun v5 v6 wr => ∃ k : Nat, v6 = .int .i64 k ∧ k ≤ n ∧ wr.ownsRow w.heap.size 30 2 v5 k (AX.prc (AX.mkRanges l k)) ∧ Below w.heap.size w wr) (fun _ v _ => n - (intOf v).toNat)
  case atStart => exact ⟨0, rfl, Nat.zero_le _, ⟨rfl, .inl ⟨rfl, rfl⟩⟩, Below.refl _ _⟩
  case round =>
    obtain ⟨k, rfl, hk, hrow, hb⟩ := hrel
    obtain ⟨ra, rc, rfl⟩ := own_shape hrow
    have HOWN := Lib.hid hrow
    have HB := Lib.hid hb
    clear hrow hb
    by_cases h1 : k < n
    · have h1i : (k : Int) < (n : Int) := by omega
      have hk0 : (0 : Int) ≤ (k : Int) := by omega
      obtain ⟨r, hr⟩ : ∃ r, AX.num l (2 * k) = r := ⟨_, rfl⟩
      obtain ⟨s, hs⟩ : ∃ s, AX.num l (2 * k + 1) = s := ⟨_, rfl⟩
      have hrb := AX.num_bd l (2 * k)
      rw [hr] at hrb
      have hsb := AX.num_bd l (2 * k + 1)
      rw [hs] at hsb
      obtain ⟨q, hq⟩ : ∃ q, r % 129 = q := ⟨_, rfl⟩
      have hq2 : q = r % 129 := hq.symm
      obtain ⟨p, hp⟩ : ∃ p, s % 65 = p := ⟨_, rfl⟩
      have hp2 : p = s % 65 := hp.symm
      have hqb : 0 ≤ q ∧ q < 129 := by omega
      have hpb : 0 ≤ p ∧ p < 65 := by omega
      obtain ⟨m, hm⟩ : ∃ m, (if q - 64 + p < 64 then q - 64 + p else 64) = m := ⟨_, rfl⟩
      have HQ : Hid (AX.mkP l k = (q - 64, m)) := Lib.hid (by unfold AX.mkP; rw [hr, hs, ← hq2, ← hp2, ← hm]; simp only [Prod.mk.injEq, true_and]; split <;> omega)
      have HR := Lib.hid hr
      have HS := Lib.hid hs
      have HA := Lib.hid (AX.mkRanges_succ l k)
      clear hr hs hq2 hp2
      go_wp2_with fail
      refine (number_c (k := 2 * k) HR.out (by omega) _ _ (HV.out _ HB.out) HLL.out (by omega)).mono ?_
      rintro e w3 ⟨rfl, he⟩
      have he' := he.symm
      subst he'
      go_wp2_with fail
      refine (number_c (k := 2 * k + 1) HS.out (by omega) _ _ (HV.out _ HB.out) HLL.out (by omega)).mono ?_
      rintro e w3 ⟨rfl, he⟩
      have he' := he.symm
      subst he'
      go_upto_region 4 with (at_builtin; refine wpList_appN _ rfl _ _ 22 rfl w.heap.size 30 i0 (.agg #[.int .i64 0, .int .i64 0]) 2 16 Try.underlying22 hi hz0 hz1 hz2 rfl (by decide) _ _ _ rfl (HOWN.out.alloc _) _ 1 (AX.prc [(q - 64, m)]) rfl (srcN_new _ (AX.prc [(q - 64, m)]) _ 2 1 1 rfl) (AX.prc_one _) (by unfold maxLen; omega) (by omega) (by have := HB.out.size; simp; omega) ?_; intro v' w1 hown' hgrow hat; obtain ⟨g', cap', rfl⟩ := ownsRow_succ hown')
      have hbw : Below w.heap.size w w1 := (balloc HB.out _).grown hgrow (by have := HB.out.size; simp; omega) (fun j ej => by have := (HOWN.out.lt j ej).1; omega)
      have HBW := Lib.hid hbw
      have HO2 := Lib.hid hown'
      clear hbw hown' hgrow hat
      go_wp2_with fail
      go_roundw
      case rel => exact ⟨k + 1, by go_num, h1, by rw [HA.out, HQ.out, AX.prc_app]; exact HO2.out, HBW.out⟩
      case measure => simp [intOf]; omega
    · obtain rfl : k = n := by omega
      go_wp2
      go_ret
      exact ⟨_, rfl, HOWN.out, HB.out⟩
end Go.Proofs.Ytbhkbjnmpaebdaa
