/- leaves, Public and Sign of the program. No conditions. -/
import Derived.Test.YtinkhgmdeldniaaSgnDigs
namespace Go.Proofs.Ytinkhgmdeldniaa.SG
set_option maxRecDepth 100000
open Go.RowKit
theorem cat_snoc (l : List ByteArray) (x : ByteArray) : cat (l ++ [x]) = cat l ++ x := by
  unfold cat
  rw [List.flatMap_append, ← DG.S_append]
  congr 1
  simp [DG.S]
theorem cat_ends (seed : ByteArray) (i : Int) : ∀ k, cat (pick seed i (fun _ => 15) k) = ends seed i k
  | 0 => rfl
  | k + 1 => by rw [pick_succ, cat_snoc, cat_ends seed i k]; rfl
theorem pick_small (seed : ByteArray) (i : Int) (D : Nat → Nat) (k : Nat) : ∀ s ∈ pick seed i D k, s.size = 8 := by
  intro s hs
  unfold pick at hs
  obtain ⟨c, _, rfl⟩ := List.mem_map.1 hs
  exact link_size _ _ _ _
end Go.Proofs.Ytinkhgmdeldniaa.SG
namespace Go.Proofs.Ytinkhgmdeldniaa
set_option maxRecDepth 100000
set_option linter.unusedVariables false
open Go.RowKit
theorem own_cap {w : World} {b n : Nat} {t : TypeId} {a : Option Addr} {c : Nat} {L : List Value} (h : w.ownsRow b t 1 (.slice a n c) n L) : n ≤ c := by
  rcases h.2 with ⟨e1, e2⟩ | ⟨g, cap, cur, e1, _, _, e2, _⟩
  · omega
  · injection e1 with _ _ e3
    omega
set_option maxHeartbeats 4000000 in
theorem leaves_any (seed : ByteArray) (n : Nat) (w : World) (hs : seed.size ≤ 1000000) (hn : n ≤ 1000) : Calls Try.prog 35 #[.string seed, .int .i64 (n : Int)] w fun e w' => ∃ v, e = .returned v ∧ w'.ownsRow w.heap.size 9 1 v n ((SG.leaves seed n).map Value.string) ∧ Below w.heap.size w w' := by
  obtain ⟨i0, hif, hz0, hz1, hz2⟩ := info_parts info_string
  have HC : Hid (∀ (i : Nat) (V : World), i < n → Calls Try.prog 38 #[.func (.func 39) #[.agg #[.string seed, .int .i64 (i : Int)]] #[], .agg (SG.numA fun _ => 15)] V fun e w' => ∃ v, e = .returned v ∧ w'.ownsRow V.heap.size 9 1 v 18 ((SG.pick seed (i : Int) (fun _ => 15) 18).map Value.string) ∧ Below V.heap.size V w') := Lib.hid fun i V hi => choose_any seed i (fun _ => 15) V hs (by omega) (fun _ _ => Nat.le_refl _)
  clear hs
  go_enter Try.func35, Try.ntmps35
  go_wp2
  go_loopw [5, 8] (fun v5 v8 wr => ∃ i : Nat, wr.ownsRow w.heap.size 9 1 v5 i ((SG.leaves seed i).map Value.string) ∧ v8 = .int .i64 (i : Int) ∧ i ≤ n ∧ Below w.heap.size w wr) (fun _ v _ => n - (intOf v).toNat)
  case atStart => exact ⟨0, World.ownsRow_nil _ _ _ _, rfl, Nat.zero_le _, Below.refl _ _⟩
  case round =>
    obtain ⟨i, hrow, rfl, hi, hb⟩ := hrel
    obtain ⟨va, vc, rfl⟩ := own_shape hrow
    have HROW := Lib.hid hrow
    have HB := Lib.hid hb
    have hbs := hb.size
    clear hrow hb
    by_cases hin : i < n
    · have hki : (i : Int) < (n : Int) := by omega
      obtain ⟨z, hz⟩ : ∃ z, SG.leaf seed (i : Int) = z := ⟨_, rfl⟩
      have HZ : Hid (SG.leaves seed (i + 1) = SG.leaves seed i ++ [z]) := Lib.hid (by rw [SG.leaves_succ, hz])
      have HZ2 : Hid (DG.Of (SG.cat (SG.pick seed (i : Int) (fun _ => 15) 18)) = z) := Lib.hid (by rw [SG.cat_ends, ← hz]; rfl)
      have HCC := Lib.hid (HC.out i · hin)
      clear hz
      go_wp2_with fail
      refine (ends_any _).mono ?_
      rintro e w1 ⟨rfl, k1⟩
      go_wp2_with fail
      refine (HCC.out _).mono ?_
      rintro e w2 ⟨v, rfl, hv, k2⟩
      obtain ⟨la, lc, rfl⟩ := own_shape hv
      have hlf := leaf_any _ 18 la lc w2 (SG.pick_len seed (i : Int) (fun _ => 15) 18) (by omega) (by omega) (own_cap hv) (row_own hv (by rw [List.length_map, SG.pick_len])) (fun s h => by have := SG.pick_small _ _ _ _ s h; omega)
      rw [HZ2.out] at hlf
      have HLF := Lib.hid hlf
      clear hlf hv
      go_wp2_with fail
      refine HLF.out.mono ?_
      rintro e w3 ⟨rfl, k3⟩
      have HR1 := Lib.hid (own_kept (own_kept (own_kept HROW.out k1) k2) k3)
      have HB1 := Lib.hid (bnext (bnext (bnext HB.out k1) k2) k3)
      have hs1 := HB1.out.size
      clear k1 k2 k3
      go_wp2_with (at_builtin; refine wpList_app _ rfl _ _ 42 rfl w.heap.size 9 i0 (.string ⟨#[]⟩) 16 Try.underlying42 hif hz0 hz1 hz2 rfl _ _ _ rfl (HR1.out.alloc _) _ [.string z] rfl (Src.one (World.cell?_alloc_at _ _ _ _ rfl)) (by simp [Value.oneCell']) ?d1 ?d2 ?d3 ?_)
      case d1 => (try unfold maxLen); (try simp only [List.length_cons, List.length_nil]); omega
      case d2 => (try simp only [List.length_cons, List.length_nil]); omega
      case d3 => simp; omega
      intro v7 w7 hown7 hgrow7 _
      have HB7 : Hid (Below w.heap.size w w7) := Lib.hid ((HB1.out.alloc hs1 _).grown hgrow7 (by simp; omega) (fun k e => (HR1.out.lt k e).1))
      have HO7 := Lib.hid hown7
      obtain ⟨g7, c7, rfl⟩ := ownsRow_succ hown7
      clear hown7 hgrow7
      go_wp2
      go_roundw
      case rel => exact ⟨i + 1, by rw [HZ.out, List.map_append]; exact HO7.out, by go_num, hin, HB7.out⟩
      case measure => simp [intOf]; omega
    · have hki : ¬ (i : Int) < (n : Int) := by omega
      obtain rfl : n = i := by omega
      go_wp2
      go_ret
      exact ⟨_, rfl, HROW.out, HB.out⟩
set_option maxHeartbeats 4000000 in
theorem public_any (seed : ByteArray) (n : Int) (w : World) (hs : seed.size ≤ 1000000) (hn : -9223372036854775808 ≤ n ∧ n ≤ 9223372036854775807) : Calls Try.prog 13 #[.string seed, .int .i64 n] w fun e w' => e = .returned (.tuple #[.string (SG.pub seed n).1, .int .i64 (SG.pub seed n).2]) ∧ Below w.heap.size w w' := by
  by_cases h1 : n < 1
  · rw [SG.pub_bad (Or.inl h1)]
    go_enter Try.func13, Try.ntmps13
    go_wp2
    go_ret2
    exact ⟨rfl, Below.refl _ _⟩
  · by_cases h2 : 16 < n
    · rw [SG.pub_bad (Or.inr h2)]
      go_enter Try.func13, Try.ntmps13
      go_wp2
      go_ret2
      exact ⟨rfl, Below.refl _ _⟩
    · obtain ⟨m, rfl⟩ : ∃ m : Nat, n = (m : Int) := ⟨n.toNat, by omega⟩
      rw [SG.pub_good (by omega)]
      have HL := Lib.hid (fun V => leaves_any seed m V hs (by omega))
      have HH := Lib.hid (SG.hOf_is (n := m) (by omega))
      obtain ⟨R, hR⟩ : ∃ R, DG.root (SG.leaves seed m) (SG.hOf m) = R := ⟨_, rfl⟩
      rw [hR]
      have HR := Lib.hid hR
      have hm : m ≤ 16 := by omega
      clear hR hn hs
      go_enter Try.func13, Try.ntmps13
      go_wp2_with fail
      refine (HL.out _).mono ?_
      rintro e w1 ⟨v, rfl, hv, k1⟩
      obtain ⟨va, vc, rfl⟩ := own_shape hv
      have hq := rootP_any (SG.leaves seed m) va vc (SG.hOf m) w1 (by rw [SG.leaves_len]; exact row_own hv (by rw [List.length_map, SG.leaves_len])) (by rw [SG.leaves_len]; omega) (SG.leaves_small seed m) (by rw [SG.leaves_len]; exact HH.out)
      rw [SG.leaves_len, HR.out] at hq
      have HQ := Lib.hid hq
      clear hq hv
      go_wp2_with fail
      refine HQ.out.mono ?_
      rintro e w2 ⟨rfl, k2⟩
      go_wp2
      go_ret2
      exact ⟨rfl, bnext k1 k2⟩
end Go.Proofs.Ytinkhgmdeldniaa
