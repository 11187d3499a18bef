/- Verify, the program's and the reference's. -/
import Derived.Test.YtinkhgmdeldniaaDigRef
namespace Go.Proofs.Ytinkhgmdeldniaa.DG
def step (s : Nat × ByteArray) (p : ByteArray) : Nat × ByteArray := (s.1 / 2, if s.1 % 2 = 0 then Pair s.2 p else Pair p s.2)
def climb (l : List ByteArray) (i : Nat) (x : ByteArray) : Nat × ByteArray := l.foldl step (i, x)
theorem climb_succ {l : List ByteArray} {k i : Nat} {x : ByteArray} (h : k < l.length) : climb (l.take (k + 1)) i x = step (climb (l.take k) i x) l[k] := by
  unfold climb
  rw [List.take_add_one, List.foldl_append, List.getElem?_eq_getElem h]
  rfl
/-- Does the proof lead from the leaf at i to the root? -/
def verify (root leaf : ByteArray) (i : Int) (l : List ByteArray) : Bool :=
  decide (l.length ≤ 20) && decide (0 ≤ i) && decide (i < 2 ^ l.length) && decide (root = S (dig (rootL l.length (climb l i.toNat leaf).2)))
end Go.Proofs.Ytinkhgmdeldniaa.DG
namespace Go.Proofs.Ytinkhgmdeldniaa
set_option linter.unusedVariables false
open Go.RowKit
theorem pow_int {n : Nat} (h : n ≤ 20) : ∃ P : Nat, (2 : Int) ^ n = (P : Int) ∧ 2 ^ n = P ∧ 0 < P ∧ P ≤ 1048576 :=
  ⟨2 ^ n, by simp, rfl, Nat.two_pow_pos n, by have := Nat.pow_le_pow_right (n := 2) (by decide) h; simpa using this⟩
theorem str_ok (a b : ByteArray) : (a.toList == b.toList) = decide (a = b) := by
  rw [Bool.eq_iff_iff, beq_iff_eq, decide_eq_true_eq, ByteArray.toList_eq, ByteArray.toList_eq]
  exact ⟨fun h => ByteArray.ext (Array.toList_inj.mp h), fun h => by rw [h]⟩
set_option maxRecDepth 100000 in
set_option maxHeartbeats 4000000 in
theorem rverify_any (root leaf : ByteArray) (i : Int) (a : Option Addr) (c : Nat) (l : List ByteArray) (w : World) (hi : -9223372036854775808 ≤ i ∧ i ≤ 9223372036854775807) (hf : leaf.size < 2147483648) (hr : RowAt w (.slice a l.length c) (l.map Value.string)) (hs : ∀ s ∈ l, s.size < 2147483648) :
    Calls Try.prog 27 #[.string root, .string leaf, .int .i64 i, .slice a l.length c] w fun e w' => e = .returned (.bool (DG.verify root leaf i l)) ∧ Below w.heap.size w w' := by
  have HR : Hid (∀ wr, Below w.heap.size w wr → ∀ k, ∀ hk : k < l.length, ∃ g o, a = some ⟨g, o, none⟩ ∧ g < wr.heap.size ∧ wr.cell? ⟨g, o + k, none⟩ = some (.string l[k])) := Lib.hid (fun wr hb k hk => by
    have := (hr.keep hb).cell (a := a) (k := k) (by simpa using hk)
    simpa using this)
  have HS := Lib.hid hs
  clear hr hs
  obtain ⟨i0, i1⟩ := hi
  obtain ⟨n, hn⟩ : ∃ n, l.length = n := ⟨_, rfl⟩
  have HN := Lib.hid hn
  rw [hn]
  by_cases h20 : n ≤ 20
  · have h20i : (n : Int) ≤ 20 := by omega
    obtain ⟨P, hP, hP', hP0, hP1⟩ := pow_int h20
    by_cases hi0 : 0 ≤ i
    · by_cases hip : i < P
      · obtain ⟨j, rfl⟩ : ∃ j : Nat, i = (j : Int) := ⟨i.toNat, by omega⟩
        have HV : Hid (DG.verify root leaf j l = decide (root = DG.S (DG.dig (DG.rootL n (DG.climb l j leaf).2)))) := Lib.hid (by
          unfold DG.verify
          rw [hn, hP]
          simp [h20, hip])
        have hd0 : decide ((20 : Int) < (n : Int)) = false := by simp; omega
        have hd1 : decide ((j : Int) < 0) = false := by simp
        have hd2 : decide ((P : Int) ≤ (j : Int)) = false := by simp; omega
        have hd3 : decide (P ≤ j) = false := by simp; omega
        clear hn
        go_enter Try.func27, Try.ntmps27
        go_wp2
        go_loopw [2, 9, 10] (fun v2 v9 v10 wr => ∃ (k : Nat) (s : Nat × ByteArray), k ≤ n ∧ Hid (DG.climb (l.take k) j leaf = s) ∧ v2 = .int .i64 s.1 ∧ v9 = .string s.2 ∧ v10 = .int .i64 k ∧ s.1 ≤ j ∧ s.2.size < 2147483648 ∧ Below w.heap.size w wr) (fun _ _ v _ => n - (intOf v).toNat)
        case atStart => exact ⟨0, (j, leaf), Nat.zero_le _, Lib.hid rfl, rfl, rfl, rfl, Nat.le_refl _, hf, Below.refl _ _⟩
        case round =>
          obtain ⟨k, ⟨m, x⟩, hk, HC, rfl, rfl, rfl, hm, hx, hb⟩ := hrel
          simp only at hm hx
          by_cases hkl : k < n
          · have hki : (k : Int) < (n : Int) := by omega
            have hkl' : k < l.length := by rw [HN.out]; exact hkl
            obtain ⟨g, o, rfl, hg, hc⟩ := HR.out _ hb k hkl'
            have hp : l[k].size < 2147483648 := HS.out _ (List.getElem_mem hkl')
            have HC2 : Hid (DG.climb (l.take (k + 1)) j leaf = DG.step (m, x) l[k]) := Lib.hid (by rw [DG.climb_succ hkl', HC.out])
            obtain ⟨p, hpp⟩ : ∃ p, l[k] = p := ⟨_, rfl⟩
            rw [hpp] at hc hp HC2
            clear hpp
            unfold DG.step at HC2
            by_cases hev : m % 2 = 0
            · have hev' : (m : Int).tmod 2 = 0 := by rw [Int.tmod_eq_emod_of_nonneg (by omega)]; omega
              simp only [hev, ↓reduceIte] at HC2
              go_wp2_with (first | (go_at_call 55; refine (rPair_any x p _ hx hp).mono ?_; rintro e w2 ⟨rfl, hb2⟩))
              go_roundw
              case rel => exact ⟨k + 1, _, hkl, HC2, by rw [show ((m : Int) / 2) = ((m / 2 : Nat) : Int) by omega], rfl, by go_num, (by show m / 2 ≤ j; omega), (by show (DG.Pair _ _).size < _; rw [DG.Pair_size]; omega), bnext hb hb2⟩
              case measure => simp [intOf]; omega
            · have hev' : (m : Int).tmod 2 = 1 := by rw [Int.tmod_eq_emod_of_nonneg (by omega)]; omega
              simp only [hev, ↓reduceIte] at HC2
              go_wp2_with (first | (go_at_call 55; refine (rPair_any p x _ hp hx).mono ?_; rintro e w2 ⟨rfl, hb2⟩))
              go_roundw
              case rel => exact ⟨k + 1, _, hkl, HC2, by rw [show ((m : Int) / 2) = ((m / 2 : Nat) : Int) by omega], rfl, by go_num, (by show m / 2 ≤ j; omega), (by show (DG.Pair _ _).size < _; rw [DG.Pair_size]; omega), bnext hb hb2⟩
              case measure => simp [intOf]; omega
          · have hke : k = n := by omega
            subst hke
            have hki : ¬ (k : Int) < (k : Int) := by omega
            have htk : l.take k = l := List.take_of_length_le (by rw [HN.out]; exact Nat.le_refl _)
            rw [htk] at HC
            have HVX : Hid (DG.verify root leaf j l = decide (root = DG.S (DG.dig (DG.rootL k x)))) := Lib.hid (by rw [HV.out, HC.out])
            clear htk
            go_wp2_with (first | (go_at_call 56; refine (rtop_any k x _ (by omega) hx).mono ?_; rintro e w2 ⟨rfl, hb2⟩))
            go_ret
            refine ⟨?_, bnext hb hb2⟩
            rw [HVX.out]
            exact retb (str_ok _ _)
      · have HV : Hid (DG.verify root leaf i l = false) := Lib.hid (by
          unfold DG.verify
          rw [hn, hP]
          simp [h20, hip])
        clear hn
        go_enter Try.func27, Try.ntmps27
        go_wp2
        go_ret
        exact ⟨by rw [HV.out]; rfl, Below.refl _ _⟩
    · have HV : Hid (DG.verify root leaf i l = false) := Lib.hid (by
        unfold DG.verify
        rw [hn]
        simp [h20, hi0])
      clear hn
      go_enter Try.func27, Try.ntmps27
      go_wp2
      go_ret
      exact ⟨by rw [HV.out]; rfl, Below.refl _ _⟩
  · have h20i : ¬ (n : Int) ≤ 20 := by omega
    have HV : Hid (DG.verify root leaf i l = false) := Lib.hid (by
      unfold DG.verify
      rw [hn]
      simp [h20])
    clear hn
    go_enter Try.func27, Try.ntmps27
    go_wp2
    go_ret
    exact ⟨by rw [HV.out]; rfl, Below.refl _ _⟩
end Go.Proofs.Ytinkhgmdeldniaa
