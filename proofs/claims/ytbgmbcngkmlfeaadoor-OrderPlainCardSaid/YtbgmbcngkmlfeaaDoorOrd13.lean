/- A piece of a row turned around; which levels are high. No conditions. -/
import Derived.Test.YtbgmbcngkmlfeaaDoorOrd12
import Derived.Test.YtbgmbcngkmlfeaaDoorOrd10
import Derived.Test.YtbgmbcngkmlfeaaDoorOrd3v
import Derived.Shelf.RegionOpenPlain
import Derived.Deep.LoopGhost
namespace Go.Proofs.YtbgmbcngkmlfeaaDoor
set_option maxRecDepth 100000
set_option linter.unusedVariables false
open Go.RowKit Go.Shelf Go.Deep
set_option maxHeartbeats 4000000 in
theorem oreverse_any (L : List Int) (gl f m N cap c Bs : Nat) (w : World) (hown : w.ownsRow Bs 3 1 (.slice (some ⟨gl, 0, none⟩) N cap) N (L.map (Value.int .i64))) (hL : L.length = N) (hf : f + m ≤ N) (hN : N ≤ 1000000000) :
    Calls Tryd.prog 41 #[.slice (some ⟨gl, f, none⟩) m c] w fun e w' => e = .returned (.tuple #[]) ∧ w'.ownsRow Bs 3 1 (.slice (some ⟨gl, 0, none⟩) N cap) N ((OP.rev L f m).map (Value.int .i64)) ∧ KpR (.slice (some ⟨gl, 0, none⟩) N cap) w w' ∧ Below Bs w w' := by
  have hBg := (hown.lt gl rfl).1
  have HO := Lib.hid hown
  have HLN := Lib.hid hL
  clear hown hL
  go_enter Tryd.func41, Tryd.ntmps41
  go_wp2_with fail
  go_loopw [2, 3] (fun v2 v3 wr => ∃ k : Nat, v2 = .int .i64 (k : Int) ∧ v3 = .int .i64 ((m : Int) - 1 - (k : Int)) ∧ k ≤ m ∧ wr.ownsRow Bs 3 1 (.slice (some ⟨gl, 0, none⟩) N cap) N ((OP.sw L f m k).map (Value.int .i64)) ∧ KpR (.slice (some ⟨gl, 0, none⟩) N cap) w wr ∧ Below Bs w wr) (fun v _ _ => m - (intOf v).toNat)
  case atStart => exact ⟨0, rfl, by go_num, Nat.zero_le _, by rw [OP.sw_zero]; exact HO.out, KpR.refl _ _, Below.refl _ _⟩
  case round =>
    obtain ⟨k, rfl, rfl, hk, hrow, hkp, hb⟩ := hrel
    by_cases h1 : k < m - 1 - k
    · obtain ⟨j, hj⟩ : ∃ j : Nat, m - 1 - k = j := ⟨_, rfl⟩
      have hji : (m : Int) - 1 - (k : Int) = (j : Int) := by omega
      rw [hji]
      have hkj : (k : Int) < (j : Int) := by omega
      have hk0 : (0 : Int) ≤ (k : Int) := by omega
      have hj0 : (0 : Int) ≤ (j : Int) := by omega
      have hkm : (k : Int) < (m : Int) := by omega
      have hjm : (j : Int) < (m : Int) := by omega
      have hkl : f + m ≤ L.length := by rw [HLN.out]; exact hf
      have hlo := OP.sw_lo hkl h1
      have hhi := OP.sw_hi hkl h1
      have hst := OP.sw_step hkl h1
      rw [hj] at hhi hst
      obtain ⟨x, hx⟩ : ∃ x, L.getD (f + k) 0 = x := ⟨_, rfl⟩
      obtain ⟨y, hy⟩ : ∃ y, L.getD (f + j) 0 = y := ⟨_, rfl⟩
      rw [hx] at hlo hst
      rw [hy] at hhi hst
      have c1 := hrow.cellAt (f + k) (by omega)
      have c2 := hrow.cellAt (f + j) (by omega)
      rw [List.getElem?_map, hlo] at c1
      rw [List.getElem?_map, hhi] at c2
      have f1 := hrow.frozenAt (f + k)
      have f2 := hrow.frozenAt (f + j)
      obtain ⟨hs1, hg1⟩ := hrow.stored (f + k) (.int .i64 y)
      obtain ⟨hs2, hg2⟩ := hs1.stored (f + j) (.int .i64 x)
      have hset : (((OP.sw L f m k).map (Value.int .i64)).set (f + k) (.int .i64 y)).set (f + j) (.int .i64 x) = (OP.sw L f m (k + 1)).map (Value.int .i64) := by rw [← hst, List.map_set, List.map_set]
      rw [hset] at hs2
      have hk2 : KpR (.slice (some ⟨gl, 0, none⟩) N cap) w ((wr.setCell ⟨gl, f + k, none⟩ (.int .i64 y)).setCell ⟨gl, f + j, none⟩ (.int .i64 x)) := (hkp.row hg1).row hg2
      have hb2 : Below Bs w ((wr.setCell ⟨gl, f + k, none⟩ (.int .i64 y)).setCell ⟨gl, f + j, none⟩ (.int .i64 x)) := (hb.setCell hBg _).setCell hBg _
      have HS := Lib.hid hs2
      have HK2 := Lib.hid hk2
      have HB2 := Lib.hid hb2
      have hne : f + k ≠ f + j := by omega
      clear hlo hhi hst hx hy hset hs1 hs2 hg1 hg2 hk2 hb2 hrow hkp hb h1 hj
      simp only [Option.map_some] at c1 c2
      have mixed : Tryd.prog.follows .mixedOrders = true := by kernel_rfl
      go_wp2_with fail
      go_region_o
      all_goals
        go_wp2
        go_roundw
        case rel => exact ⟨k + 1, by go_num, by rw [show (m : Int) - 1 - ((k + 1 : Nat) : Int) = (j : Int) - 1 by omega], by omega, HS.out, HK2.out, HB2.out.drew⟩
        case measure => simp [intOf]; omega
    · have HE : Hid (OP.sw L f m k = OP.rev L f m) := Lib.hid (OP.sw_end (by rw [HLN.out]; exact hf) h1)
      rw [HE.out] at hrow
      have HROW := Lib.hid hrow
      have hkj : ¬ (k : Int) < (m : Int) - 1 - (k : Int) := by omega
      clear hrow h1
      go_wp2
      go_end0
      exact ⟨rfl, HROW.out, hkp, hb⟩
set_option maxHeartbeats 1000000 in
theorem ohigh_any (L : List Int) (i n : Nat) (la : Option Addr) (N lc b1 b2 : Nat) (w : World) (hL : L.length = N) (hi : i < N) (hn : n ≤ 9) (c1 : w.cell? ⟨b1, 0, none⟩ = some (.slice la N lc)) (c2 : w.cell? ⟨b2, 0, none⟩ = some (.int .i64 (n : Int))) (hv : RowAt w (.slice la N lc) (L.map (Value.int .i64))) :
    Calls Tryd.prog 39 #[.int .i64 (i : Int), .pointer (some ⟨b1, 0, none⟩), .pointer (some ⟨b2, 0, none⟩)] w fun e w' => e = .returned (.bool (OP.hi L n i)) ∧ Below w.heap.size w w' := by
  have hii : (i : Int) < (N : Int) := by omega
  have hi0 : (0 : Int) ≤ (i : Int) := by omega
  obtain ⟨g, o, rfl, hg, hc⟩ := hv.cell (k := i) (by rw [List.length_map]; omega)
  rw [List.getElem_map] at hc
  obtain ⟨z, hz⟩ : ∃ z, L[i]'(by omega) = z := ⟨_, rfl⟩
  rw [hz] at hc
  have hz' : L.getD i 0 = z := by simp [List.getD, List.getElem?_eq_getElem (show i < L.length by omega), hz]
  obtain ⟨mm, hmm⟩ : ∃ mm, (if (9 : Int) < z then 9 else z) = mm := ⟨_, rfl⟩
  have HR : Hid (decide ((n : Int) ≤ mm) = OP.hi L n i) := Lib.hid (by
    unfold OP.hi
    rw [hz', decide_eq_decide, ← hmm]
    split <;> omega)
  obtain ⟨q, hq⟩ : ∃ q, decide ((n : Int) ≤ mm) = q := ⟨_, rfl⟩
  have HQ := Lib.hid hq
  clear hz hz' hv hL
  go_enter Tryd.func39, Tryd.ntmps39
  go_wp2
  go_quiet (fail)
  go_wp2
  go_ret
  exact ⟨by rw [← HR.out, HQ.out]; rfl, below_drewN (Below.refl _ _) _⟩
end Go.Proofs.YtbgmbcngkmlfeaaDoor
