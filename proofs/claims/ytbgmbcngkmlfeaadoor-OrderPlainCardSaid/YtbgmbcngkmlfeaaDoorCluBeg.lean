/- The contracts of class and of the question whether a cluster begins. -/
import Derived.Test.YtbgmbcngkmlfeaaDoorCluPlain
namespace Go.Proofs.YtbgmbcngkmlfeaaDoor
set_option linter.unusedVariables false
open Go.RowKit
set_option maxHeartbeats 1000000 in
theorem cclass_any (s : ByteArray) (i : Nat) (g : Nat × Nat) (w : World) (hl : Laid w g) (hs : s.size ≤ maxLen) (hi : i < s.size) :
    Calls Tryd.prog 62 #[.string s, .int .i64 i] w fun e w' => e = .returned (.int .i64 (CP.cl s i)) ∧ Below w.heap.size w w' := by
  unfold maxLen at hs
  have HC := Lib.hid (class_any (s[i].toNat : Int) g w hl)
  have HE := Lib.hid (CP.ch_at hi)
  have hii : (i : Int) < (s.size : Int) := by omega
  have hby : (s[i].toNat : Int) ≤ 255 := by have := s[i].toNat_lt; omega
  go_enter Tryd.func62, Tryd.ntmps62
  go_wp2_with (go_at_call 32; refine HC.out.mono ?_; rintro e w1 ⟨rfl, hb1⟩)
  go_ret
  exact ⟨ret1 (by unfold CP.cl; rw [HE.out]), hb1⟩
set_option maxRecDepth 100000 in
set_option maxHeartbeats 2000000 in
theorem begins_any (s : ByteArray) (f i b : Nat) (g : Nat × Nat) (w : World) (hl : Laid w g) (hs : s.size ≤ maxLen) (hi : i < s.size) (hfi : f < i) (hc : w.cell? ⟨b, 0, none⟩ = some (.string s)) :
    Calls Tryd.prog 61 #[.int .i64 f, .int .i64 i, .pointer (some ⟨b, 0, none⟩)] w fun e w' => e = .returned (.bool (CP.beg s f i)) ∧ Below w.heap.size w w' := by
  have hlt := World.block_lt_of_cell? w _ hc
  have HL := Lib.hid hl
  have HS := Lib.hid hs
  unfold maxLen at hs
  have hi1 : i - 1 < s.size := by omega
  have hii : (i : Int) < (s.size : Int) := by omega
  have ei : (i : Int) - 1 = ((i - 1 : Nat) : Int) := by omega
  have HB : Hid (CP.beg s f i = ((decide (CP.cl s (i - 1) = 1) || decide (i = f + 6)) || (!(decide (CP.cl s i = 9) && decide (CP.cl s (i - 1) = 10)) && !CP.ex s i))) := Lib.hid rfl
  have HCH := Lib.hid (CP.ch_at hi)
  have HX : Hid (CP.ex s i = FC.extB (s[i].toNat : Int)) := Lib.hid (by unfold CP.ex; rw [HCH.out])
  clear hl HCH
  have acc : Below w.heap.size w w := Below.refl _ _
  have hsz : w.heap.size ≤ w.heap.size := Nat.le_refl _
  have hby : (s[i].toNat : Int) ≤ 255 := by have := s[i].toNat_lt; omega
  have em : (i : Int) - (f : Int) = ((i - f : Nat) : Int) := by omega
  obtain ⟨x, hx⟩ : ∃ x, CP.cl s (i - 1) = x := ⟨_, rfl⟩
  obtain ⟨y, hy⟩ : ∃ y, CP.cl s i = y := ⟨_, rfl⟩
  have CA : ∀ W, Below w.heap.size w W → Calls Tryd.prog 62 #[.string s, .int .i64 ((i : Int) - 1)] W fun e w' => e = .returned (.int .i64 x) ∧ Below W.heap.size W w' := fun W hW => by
    have := cclass_any s (i - 1) g W (HL.out.mono hW) HS.out hi1
    rwa [hx, ← ei] at this
  have CB : ∀ W, Below w.heap.size w W → Calls Tryd.prog 62 #[.string s, .int .i64 (i : Int)] W fun e w' => e = .returned (.int .i64 y) ∧ Below W.heap.size W w' := fun W hW => by
    have := cclass_any s i g W (HL.out.mono hW) HS.out hi
    rwa [hy] at this
  rw [hx, hy] at HB
  have HCA := Lib.hid CA
  have HCB := Lib.hid CB
  clear CA CB hx hy ei em
  have hfi2 : (f : Int) < (i : Int) := by omega
  by_cases h1 : x = 1
  · have HR : Hid (CP.beg s f i = true) := Lib.hid (by rw [HB.out, h1]; rfl)
    subst h1
    clear HB
    go_enter Tryd.func61, Tryd.ntmps61
    go_wp2_with fail
    refine (HCA.out _ acc).mono ?_
    rintro e w1 ⟨rfl, hb1⟩
    go_wp2_with fail
    go_ret
    exact ⟨retb HR.out.symm, hb1⟩
  · by_cases h6 : i = f + 6
    · have HR : Hid (CP.beg s f i = true) := Lib.hid (by rw [HB.out, decide_eq_true h6]; simp)
      have hx1 : (x == 1) = false := by simpa using h1
      have h6' : ((i : Int) - (f : Int) == 6) = true := by simp; omega
      have h6b : (i : Int) - (f : Int) = 6 := by omega
      clear HB h1 h6
      go_enter Tryd.func61, Tryd.ntmps61
      go_wp2_with fail
      refine (HCA.out _ acc).mono ?_
      rintro e w1 ⟨rfl, hb1⟩
      go_wp2_with fail
      go_ret
      exact ⟨retb HR.out.symm, hb1⟩
    · have hx1 : (x == 1) = false := by simpa using h1
      have h6' : ((i : Int) - (f : Int) == 6) = false := by simp; omega
      have HB2 : Hid (CP.beg s f i = (!(decide (y = 9) && decide (x = 10)) && !CP.ex s i)) := Lib.hid (by rw [HB.out, decide_eq_false h1, decide_eq_false h6]; simp)
      clear HB h1 h6
      have HEX := Lib.hid (fun W (hW : Below w.heap.size w W) => by have := extends_any (s[i].toNat : Int) g W (HL.out.mono hW); rwa [← HX.out] at this)
      by_cases h9 : y = 9
      · subst h9
        by_cases h10 : x = 10
        · have HR : Hid (CP.beg s f i = false) := Lib.hid (by rw [HB2.out, h10]; rfl)
          subst h10
          clear HB2
          go_enter Tryd.func61, Tryd.ntmps61
          go_wp2_with fail
          refine (HCA.out _ acc).mono ?_
          rintro e w1 ⟨rfl, hb1⟩
          have hc1 := (hb1.cell (p := ⟨b, 0, none⟩) hlt).trans hc
          go_wp2_with fail
          refine (HCB.out _ hb1).mono ?_
          rintro e w2 ⟨rfl, hb2⟩
          have hc2 := (hb2.cell (p := ⟨b, 0, none⟩) (Nat.lt_of_lt_of_le hlt hb1.size)).trans hc1
          go_wp2_with fail
          refine (HCA.out _ (bnext hb1 hb2)).mono ?_
          rintro e w3 ⟨rfl, hb3⟩
          go_wp2_with fail
          go_ret
          exact ⟨retb HR.out.symm, bnext (bnext hb1 hb2) hb3⟩
        · have HR : Hid (CP.beg s f i = !CP.ex s i) := Lib.hid (by rw [HB2.out, decide_eq_false h10]; simp)
          have hx10 : (x == 10) = false := by simpa using h10
          clear HB2 h10
          go_enter Tryd.func61, Tryd.ntmps61
          go_wp2_with fail
          refine (HCA.out _ acc).mono ?_
          rintro e w1 ⟨rfl, hb1⟩
          have hc1 := (hb1.cell (p := ⟨b, 0, none⟩) hlt).trans hc
          go_wp2_with fail
          refine (HCB.out _ hb1).mono ?_
          rintro e w2 ⟨rfl, hb2⟩
          have hc2 := (hb2.cell (p := ⟨b, 0, none⟩) (Nat.lt_of_lt_of_le hlt hb1.size)).trans hc1
          go_wp2_with fail
          refine (HCA.out _ (bnext hb1 hb2)).mono ?_
          rintro e w3 ⟨rfl, hb3⟩
          have hc3 := (hb3.cell (p := ⟨b, 0, none⟩) (Nat.lt_of_lt_of_le hlt (Nat.le_trans hb1.size hb2.size))).trans hc2
          go_wp2_with fail
          refine (HEX.out _ (bnext (bnext hb1 hb2) hb3)).mono ?_
          rintro e w4 ⟨rfl, hb4⟩
          go_wp2_with fail
          go_ret
          exact ⟨retb (by rw [HR.out]), bnext (bnext (bnext hb1 hb2) hb3) hb4⟩
      · have HR : Hid (CP.beg s f i = !CP.ex s i) := Lib.hid (by rw [HB2.out, decide_eq_false h9]; simp)
        have hy9 : (y == 9) = false := by simpa using h9
        clear HB2 h9
        go_enter Tryd.func61, Tryd.ntmps61
        go_wp2_with fail
        refine (HCA.out _ acc).mono ?_
        rintro e w1 ⟨rfl, hb1⟩
        have hc1 := (hb1.cell (p := ⟨b, 0, none⟩) hlt).trans hc
        go_wp2_with fail
        refine (HCB.out _ hb1).mono ?_
        rintro e w2 ⟨rfl, hb2⟩
        have hc2 := (hb2.cell (p := ⟨b, 0, none⟩) (Nat.lt_of_lt_of_le hlt hb1.size)).trans hc1
        go_wp2_with fail
        refine (HEX.out _ (bnext hb1 hb2)).mono ?_
        rintro e w3 ⟨rfl, hb3⟩
        go_wp2_with fail
        go_ret
        exact ⟨retb (by rw [HR.out]), bnext (bnext hb1 hb2) hb3⟩
end Go.Proofs.YtbgmbcngkmlfeaaDoor
