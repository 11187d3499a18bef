/- The reference's public string, and what a signature is made of. No conditions. -/
import Derived.Test.YtinkhgmdeldniaaSgnLvs
import Derived.Test.YtinkhgmdeldniaaWireQC
namespace Go.Proofs.Ytinkhgmdeldniaa.SG
set_option maxRecDepth 100000
open Go.RowKit
/-- The height of the tree of n leaves. -/
def hOf (n : Nat) : Nat := if n ≤ 1 then 0 else if n ≤ 2 then 1 else if n ≤ 4 then 2 else if n ≤ 8 then 3 else 4
theorem hOf_is {n : Nat} (h : n ≤ 16) : DG.IsH n (hOf n) := by
  have key : ∀ n : Fin 17, n.1 ≤ 2 ^ hOf n.1 ∧ hOf n.1 ≤ 4 ∧ ∀ j : Fin 5, j.1 < hOf n.1 → 2 ^ j.1 < n.1 := by decide
  obtain ⟨h1, h2, h3⟩ := key ⟨n, by omega⟩
  exact ⟨h1, fun j hj => h3 ⟨j, by dsimp only at h2; omega⟩ hj⟩
/-- Public: the string and the number of the error. -/
def pub (seed : ByteArray) (n : Int) : ByteArray × Int := if n < 1 ∨ 16 < n then (⟨#[]⟩, 1) else (DG.root (leaves seed n.toNat) (hOf n.toNat), 0)
theorem pub_bad {seed : ByteArray} {n : Int} (h : n < 1 ∨ 16 < n) : pub seed n = (⟨#[]⟩, 1) := if_pos h
theorem pub_good {seed : ByteArray} {n : Nat} (h : 1 ≤ n ∧ n ≤ 16) : pub seed (n : Int) = (DG.root (leaves seed n) (hOf n), 0) := by
  unfold pub
  rw [if_neg (by omega)]
  rfl
end Go.Proofs.Ytinkhgmdeldniaa.SG
namespace Go.Proofs.Ytinkhgmdeldniaa
set_option maxRecDepth 100000
set_option linter.unusedVariables false
open Go.RowKit
set_option maxHeartbeats 4000000 in
theorem rpublic_any (seed : ByteArray) (n : Int) (w : World) (hs : seed.size ≤ 1000000) (hn : -9223372036854775808 ≤ n ∧ n ≤ 9223372036854775807) : Calls Try.prog 14 #[.string seed, .int .i64 n] w fun e w' => e = .returned (.tuple #[.string (SG.pub seed n).1, .int .i64 (SG.pub seed n).2]) ∧ Below w.heap.size w w' := by
  by_cases h1 : n < 1
  · rw [SG.pub_bad (Or.inl h1)]
    go_enter Try.func14, Try.ntmps14
    go_wp2
    go_ret2
    exact ⟨rfl, Below.refl _ _⟩
  · by_cases h2 : 16 < n
    · rw [SG.pub_bad (Or.inr h2)]
      go_enter Try.func14, Try.ntmps14
      go_wp2
      go_ret2
      exact ⟨rfl, Below.refl _ _⟩
    · obtain ⟨m, rfl⟩ : ∃ m : Nat, n = (m : Int) := ⟨n.toNat, by omega⟩
      rw [SG.pub_good (by omega)]
      have HL := Lib.hid (fun V => rleaves_any seed m V hs (by omega))
      have HH := Lib.hid (SG.hOf_is (n := m) (by omega))
      obtain ⟨R, hR⟩ : ∃ R, DG.root (SG.leaves seed m) (SG.hOf m) = R := ⟨_, rfl⟩
      rw [hR]
      have HR := Lib.hid hR
      have hm : m ≤ 16 := by omega
      clear hR hn hs
      go_enter Try.func14, Try.ntmps14
      go_wp2_with fail
      refine (HL.out _).mono ?_
      rintro e w1 ⟨v, rfl, hv, k1⟩
      obtain ⟨va, vc, rfl⟩ := own_shape hv
      have hq := rroot_any va vc (SG.leaves seed m) (SG.hOf m) w1 (by rw [SG.leaves_len]; exact own_src hv (by rw [List.length_map, SG.leaves_len])) (by rw [SG.leaves_len]; omega) (SG.leaves_small seed m) (by rw [SG.leaves_len]; exact HH.out)
      rw [SG.leaves_len, HR.out] at hq
      have HQ := Lib.hid hq
      clear hq hv
      go_wp2_with fail
      refine HQ.out.mono ?_
      rintro e w2 ⟨rfl, k2⟩
      go_wp2
      go_ret2
      exact ⟨rfl, bnext k1 k2⟩
end Go.Proofs.Ytinkhgmdeldniaa
