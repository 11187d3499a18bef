/- The search in a map. No conditions. -/
import Derived.Test.YtbhkbjnmpaebdaaAx5
namespace Go.Proofs.Ytbhkbjnmpaebdaa
set_option maxRecDepth 100000
set_option linter.unusedVariables false
open Go.RowKit Go.Deep
theorem ge_any (l : List AX.Pr) (nm : ByteArray) (lo de hi u : Int) (a : Option Addr) (c B C : Nat) (i : Nat) (p : AX.Pr) (w : World) (hl : l.length ≤ 1000000000000) (hi' : l[i]? = some p) (hv : PrAt w (.slice a l.length c) l)
    (hbx : w.heap[B]? = some (.cells #[.string nm, .int .i64 lo, .int .i64 de, .int .i64 hi, .slice a l.length c] 24 (0, 0))) (hcx : w.cell? ⟨C, 0, none⟩ = some (.int .i64 u)) :
    Calls Try.prog 49 #[.int .i64 (i : Int), .pointer (some ⟨B, 0, none⟩), .pointer (some ⟨C, 0, none⟩)] w fun e w' => e = .returned (.bool (decide (u ≤ p.1))) ∧ ∃ n, w' = w.drewN n := by
  have him := (List.getElem?_eq_some_iff.1 hi').1
  obtain ⟨m, hm⟩ : ∃ m, l.length = m := ⟨_, rfl⟩
  rw [hm] at hl hv hbx him
  obtain ⟨a', c', e1, hc⟩ := hv
  injection e1 with e1 e2 e3
  subst e1 e3
  rcases hc with h | ⟨g, o, rfl, hg, hcl⟩
  · rw [h] at hi'
    simp at hi'
  obtain ⟨d0, -⟩ := hcl i p hi'
  have c4 : w.cell? ⟨B, 4, none⟩ = some (.slice (some ⟨g, o, none⟩) m c) := by simp [World.cell?, hbx]
  have hii : (i : Int) < (m : Int) := by omega
  have hi0 : (0 : Int) ≤ (i : Int) := by omega
  clear hcl hm hi' e2
  go_enter Try.func49, Try.ntmps49
  go_wp2_with fail
  go_quiet (fail)
  go_wp2
  go_ret
  exact ⟨rfl, _, rfl⟩
set_option maxHeartbeats 4000000 in
theorem search_any (m : Nat) (B C : Nat) (T : Nat → Bool) (w : World) (hm : m ≤ 1000000) (hmono : ∀ i j, i ≤ j → j < m → T i = true → T j = true)
    (HF : Hid (∀ V, Below w.heap.size w V → ∀ i, i < m → Calls Try.prog 49 #[.int .i64 (i : Int), .pointer (some ⟨B, 0, none⟩), .pointer (some ⟨C, 0, none⟩)] V fun e w' => e = .returned (.bool (T i)) ∧ ∃ n, w' = V.drewN n)) :
    Calls Try.prog 48 #[.int .i64 (m : Int), .func (.func 49) #[] #[.pointer (some ⟨B, 0, none⟩), .pointer (some ⟨C, 0, none⟩)]] w fun e w' => ∃ k : Nat, e = .returned (.int .i64 (k : Int)) ∧ k ≤ m ∧ (∀ j, j < k → T j = false) ∧ (k < m → T k = true) ∧ Below w.heap.size w w' := by
  have HMN := Lib.hid hmono
  clear hmono
  go_enter Try.func48, Try.ntmps48
  go_wp2_with fail
  go_loopw [5, 6] (fun x y wr => ∃ i j : Nat, x = .int .i64 (i : Int) ∧ y = .int .i64 (j : Int) ∧ i ≤ j ∧ j ≤ m ∧ Hid (∀ t, t < i → T t = false) ∧ Hid (j < m → T j = true) ∧ Below w.heap.size w wr) (fun x y _ => (intOf y).toNat - (intOf x).toNat)
  case atStart => exact ⟨0, m, rfl, rfl, Nat.zero_le _, Nat.le_refl _, Lib.hid (fun t ht => absurd ht (Nat.not_lt_zero _)), Lib.hid (fun h => absurd h (Nat.lt_irrefl _)), Below.refl _ _⟩
  case round =>
    obtain ⟨i, j, rfl, rfl, hij, hjm, HLO, HHI, hb⟩ := hrel
    by_cases hlt : i < j
    · have hii : (i : Int) < (j : Int) := by omega
      obtain ⟨h, hh⟩ : ∃ h, (i + j) / 2 = h := ⟨_, rfl⟩
      have HH := Lib.hid hh
      have x1 : IntKind.i64.wrap ((i : Int) + (j : Int)) = (i : Int) + (j : Int) := by rw [IntKind.wrap_i64]; omega
      have hdv : ((i : Int) + (j : Int)) / 2 = (h : Int) := by omega
      have h1 : i ≤ h := by omega
      have h2 : h < j := by omega
      clear hh
      go_wp2_with fail
      obtain ⟨tb, htb⟩ : ∃ tb, T h = tb := ⟨_, rfl⟩
      have HTB := Lib.hid htb
      have hF := HF.out wr hb h (by omega)
      rw [htb] at hF
      clear htb
      refine hF.mono ?_
      rintro e w2 ⟨rfl, nq, rfl⟩
      have HB2 := Lib.hid (below_drewN hb nq)
      cases tb with
      | false =>
        have HN : Hid (∀ t, t < h + 1 → T t = false) := Lib.hid (fun t ht => by
          cases hb : T t with
          | false => rfl
          | true => have := HMN.out t h (by omega) (by omega) hb; rw [HTB.out] at this; cases this)
        go_wp2
        go_roundw
        case rel => exact ⟨h + 1, j, by simp, rfl, by omega, hjm, HN, HHI, HB2.out⟩
        case measure => simp [intOf]; omega
      | true =>
        go_wp2
        go_roundw
        case rel => exact ⟨i, h, rfl, rfl, by omega, by omega, HLO, Lib.hid (fun _ => HTB.out), HB2.out⟩
        case measure => simp [intOf]; omega
    · obtain rfl : i = j := by omega
      go_wp2
      go_ret
      exact ⟨i, rfl, hjm, HLO.out, HHI.out, hb⟩
end Go.Proofs.Ytbhkbjnmpaebdaa
