/- The reference's comparing of lists, at equal lists. -/
import Derived.Test.YtkakjpkgbbpjdaaWireRound
namespace Go.Proofs.Ytkakjpkgbbpjdaa
open Go.RowKit

set_option maxRecDepth 100000 in
set_option maxHeartbeats 1000000 in
theorem same_ints (u v : Value) (L : List Int) (w : World) (hu : RowAt w u (L.map (Value.int .i64))) (hv : RowAt w v (L.map (Value.int .i64))) (hL : L.length ≤ 9223372036854775807) :
    Calls Try.prog 28 #[u, v] w fun e w' => e = .returned (.bool true) ∧ Below w.heap.size w w' := by
  obtain ⟨a1, c1, rfl, h1⟩ := hu.out
  obtain ⟨a2, c2, rfl, h2⟩ := hv.out
  have hml : (L.map (Value.int .i64)).length = L.length := by simp
  rw [hml] at hu hv ⊢
  have HU := Lib.hid hu
  have HV := Lib.hid hv
  clear h1 h2 hu hv
  go_enter Try.func28, Try.ntmps28
  go_wp2
  go_loopw [5] (fun i wr => ∃ k : Nat, k ≤ L.length ∧ i = .int .i64 k ∧ Below w.heap.size w wr) (fun i _ => L.length - (intOf i).toNat)
  case atStart => exact ⟨0, Nat.zero_le _, rfl, Below.refl _ _⟩
  case round =>
    obtain ⟨k, hk, rfl, hb⟩ := hrel
    by_cases hkl : k < L.length
    · obtain ⟨g1, o1, rfl, hg1, hc1⟩ := (HU.out.keep hb).cell (k := k) (by simpa using hkl)
      obtain ⟨g2, o2, rfl, hg2, hc2⟩ := (HV.out.keep hb).cell (k := k) (by simpa using hkl)
      simp only [List.getElem_map] at hc1 hc2
      have hki : (k : Int) < (L.length : Int) := by omega
      go_wp2
      go_quiet (fail)
      go_wp2
      go_roundw
      case rel => exact ⟨k + 1, by omega, by go_num, below_drewN hb _⟩
      case measure => simp [intOf]; omega
    · go_wp2
      go_ret
      exact ⟨rfl, hb⟩

set_option maxRecDepth 100000 in
set_option maxHeartbeats 1000000 in
theorem same_texts (u v : Value) (L : List (List UInt8)) (w : World) (hu : RowAt w u (L.map sv)) (hv : RowAt w v (L.map sv)) (hL : L.length ≤ 9223372036854775807) :
    Calls Try.prog 31 #[u, v] w fun e w' => e = .returned (.bool true) ∧ Below w.heap.size w w' := by
  obtain ⟨a1, c1, rfl, h1⟩ := hu.out
  obtain ⟨a2, c2, rfl, h2⟩ := hv.out
  have hml : (L.map sv).length = L.length := by simp
  rw [hml] at hu hv ⊢
  have HU := Lib.hid hu
  have HV := Lib.hid hv
  clear h1 h2 hu hv
  go_enter Try.func31, Try.ntmps31
  go_wp2
  go_loopw [5] (fun i wr => ∃ k : Nat, k ≤ L.length ∧ i = .int .i64 k ∧ Below w.heap.size w wr) (fun i _ => L.length - (intOf i).toNat)
  case atStart => exact ⟨0, Nat.zero_le _, rfl, Below.refl _ _⟩
  case round =>
    obtain ⟨k, hk, rfl, hb⟩ := hrel
    by_cases hkl : k < L.length
    · obtain ⟨g1, o1, rfl, hg1, hc1⟩ := (HU.out.keep hb).cell (k := k) (by simpa using hkl)
      obtain ⟨g2, o2, rfl, hg2, hc2⟩ := (HV.out.keep hb).cell (k := k) (by simpa using hkl)
      simp only [List.getElem_map] at hc1 hc2
      have hki : (k : Int) < (L.length : Int) := by omega
      go_wp2
      go_quiet (fail)
      go_wp2
      go_roundw
      case rel => exact ⟨k + 1, by omega, by go_num, below_drewN hb _⟩
      case measure => simp [intOf]; omega
    · go_wp2
      go_ret
      exact ⟨rfl, hb⟩
end Go.Proofs.Ytkakjpkgbbpjdaa
