/- Same, of lists of strings; the law's cut. -/
import Derived.Test.YtfikbcgadpbblaaDigVerP
namespace Go.Proofs.Ytfikbcgadpbblaa
set_option linter.unusedVariables false
open Go.RowKit
set_option maxRecDepth 100000 in
set_option maxHeartbeats 4000000 in
theorem rsame_any (a b : Option Addr) (c d : Nat) (L M : List ByteArray) (w : World) (hr : RowAt w (.slice a L.length c) (L.map Value.string)) (hr2 : RowAt w (.slice b M.length d) (M.map Value.string)) (hL : L.length ≤ maxLen) (hM : M.length ≤ maxLen) :
    Calls Try.prog 18 #[.slice a L.length c, .slice b M.length d] w fun e w' => e = .returned (.bool (decide (L = M))) ∧ Below w.heap.size w w' := by
  have HR : Hid (∀ wr, Below w.heap.size w wr → ∀ k, ∀ hk : k < L.length, ∃ g o, a = some ⟨g, o, none⟩ ∧ g < wr.heap.size ∧ wr.cell? ⟨g, o + k, none⟩ = some (.string L[k])) := Lib.hid (fun wr hb k hk => by
    have := (hr.keep hb).cell (a := a) (k := k) (by simpa using hk)
    simpa using this)
  have HR2 : Hid (∀ wr, Below w.heap.size w wr → ∀ k, ∀ hk : k < M.length, ∃ g o, b = some ⟨g, o, none⟩ ∧ g < wr.heap.size ∧ wr.cell? ⟨g, o + k, none⟩ = some (.string M[k])) := Lib.hid (fun wr hb k hk => by
    have := (hr2.keep hb).cell (a := b) (k := k) (by simpa using hk)
    simpa using this)
  clear hr hr2
  unfold maxLen at hL hM
  obtain ⟨n, hn⟩ : ∃ n, L.length = n := ⟨_, rfl⟩
  obtain ⟨m, hm⟩ : ∃ m, M.length = m := ⟨_, rfl⟩
  rw [hn] at hL
  rw [hm] at hM
  have HN := Lib.hid hn
  have HM := Lib.hid hm
  rw [hn, hm]
  by_cases hnm : n = m
  · subst hnm
    clear hn hm
    go_enter Try.func18, Try.ntmps18
    go_wp2
    go_loopw [5] (fun v wr => ∃ k : Nat, k ≤ n ∧ v = .int .i64 k ∧ Hid (L.take k = M.take k) ∧ Below w.heap.size w wr) (fun v _ => n - (intOf v).toNat)
    case atStart => exact ⟨0, Nat.zero_le _, rfl, Lib.hid rfl, Below.refl _ _⟩
    case round =>
      obtain ⟨k, hk, rfl, HT, hb⟩ := hrel
      by_cases hkn : k < n
      · have hki : (k : Int) < (n : Int) := by omega
        obtain ⟨g, o, rfl, hg, hc⟩ := HR.out _ hb k (by rw [HN.out]; exact hkn)
        obtain ⟨g2, o2, rfl, hg2, hc2⟩ := HR2.out _ hb k (by rw [HM.out]; exact hkn)
        have hkl : k < L.length := by rw [HN.out]; exact hkn
        have hkm : k < M.length := by rw [HM.out]; exact hkn
        obtain ⟨x, hx⟩ : ∃ x, L[k] = x := ⟨_, rfl⟩
        obtain ⟨y, hy⟩ : ∃ y, M[k] = y := ⟨_, rfl⟩
        rw [hx] at hc
        rw [hy] at hc2
        have HX := Lib.hid hx
        have HY := Lib.hid hy
        clear hx hy
        by_cases hxy : x = y
        · subst hxy
          have e0 : (x.toList == x.toList) = true := by rw [str_ok]; simp
          have e1 : (x.toList != x.toList) = false := by simp
          have HT2 : Hid (L.take (k + 1) = M.take (k + 1)) := Lib.hid (by
            rw [List.take_add_one, List.take_add_one, HT.out, List.getElem?_eq_getElem hkl, List.getElem?_eq_getElem hkm, HX.out, HY.out])
          clear HX HY hkl hkm
          go_wp2
          go_quiet (fail)
          go_wp2
          go_roundw
          case rel => exact ⟨k + 1, hkn, by go_num, HT2, below_drewN hb _⟩
          case measure => simp [intOf]; omega
        · have e0 : (x.toList == y.toList) = false := by rw [str_ok]; simp [hxy]
          have e1 : (x.toList != y.toList) = true := by simp only [bne, e0]; rfl
          have HV : Hid (decide (L = M) = false) := Lib.hid (by
            rw [decide_eq_false_iff_not]
            intro h
            subst h
            exact hxy (by rw [← HX.out, ← HY.out]))
          clear HX HY hkl hkm
          go_wp2
          go_quiet (fail)
          go_wp2
          go_ret
          exact ⟨by rw [HV.out]; rfl, below_drewN hb _⟩
      · have hke : k = n := by omega
        subst hke
        have hki : ¬ (k : Int) < (k : Int) := by omega
        have HV : Hid (decide (L = M) = true) := Lib.hid (by
          have h1 : L.take k = L := List.take_of_length_le (by rw [HN.out]; exact Nat.le_refl _)
          have h2 : M.take k = M := List.take_of_length_le (by rw [HM.out]; exact Nat.le_refl _)
          rw [decide_eq_true_iff, ← h1, ← h2]
          exact HT.out)
        go_wp2
        go_ret
        exact ⟨by rw [HV.out]; rfl, hb⟩
  · have e0 : ((n : Int) == (m : Int)) = false := by simp; omega
    have e1 : ((n : Int) != (m : Int)) = true := by simp; omega
    have hni : ¬ (n : Int) = (m : Int) := by omega
    have HV : Hid (decide (L = M) = false) := Lib.hid (by
      rw [decide_eq_false_iff_not]
      intro h
      subst h
      omega)
    clear hn hm
    go_enter Try.func18, Try.ntmps18
    go_wp2
    go_ret
    exact ⟨by rw [HV.out]; rfl, Below.refl _ _⟩
end Go.Proofs.Ytfikbcgadpbblaa
