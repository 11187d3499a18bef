/- The first anchor of a class, of the reference. No conditions. -/
import Derived.Test.YtpmmincophaaiaaAttOwn
namespace Go.Proofs.Ytpmmincophaaiaa
set_option maxRecDepth 100000
set_option linter.unusedVariables false
open Go.RowKit Go.Deep
set_option maxHeartbeats 4000000 in
theorem rown_any (l : List AT.An) (vc va : Value) (h1 h2 h3 ad c : Int) (w : World) (hl : l.length ≤ 1000000000000) (ha : AnAt w va l) :
    Calls Try.prog 26 #[.agg #[vc, va, .int .i64 h1, .int .i64 h2, .int .i64 h3, .int .i64 ad], .int .i64 c] w fun e w' => e = .returned (.tuple #[anV (AT.ownV l c).1, .bool (AT.ownV l c).2]) ∧ Below w.heap.size w w' := by
  obtain ⟨a, cap, rfl, hc⟩ := ha
  obtain ⟨n, hn⟩ : ∃ n, l.length = n := ⟨_, rfl⟩
  have HN := Lib.hid hn
  rw [hn] at hl ⊢
  have HC := Lib.hid hc
  clear hc hn
  go_enter Try.func26, Try.ntmps26
  go_wp2_with fail
  obtain ⟨R, hR⟩ : ∃ R, w.heap.size + 1 = R := ⟨_, rfl⟩
  obtain ⟨W1, hW1⟩ : ∃ W1, w.alloc (.cells #[vc, .slice a n cap, .int .i64 h1, .int .i64 h2, .int .i64 h3, .int .i64 ad] 35) = W1 := ⟨_, rfl⟩
  have hs1 : W1.heap.size = R := by rw [← hW1, ← hR]; simp
  have hb1 : Below w.heap.size w W1 := by rw [← hW1]; exact balloc (Below.refl _ _) _
  obtain ⟨W0, hW0⟩ : ∃ W0, W1.alloc (.cells #[.int .i64 0, .int .i64 0, .int .i64 0] 33) = W0 := ⟨_, rfl⟩
  have hz0 : W0.heap[R]? = some (.cells #[.int .i64 0, .int .i64 0, .int .i64 0] 33 (0, 0)) := by rw [← hW0, ← hs1]; exact heap_alloc_new W1 _
  have hb0 : Below w.heap.size w W0 := by rw [← hW0]; exact balloc hb1 _
  have hRw : w.heap.size ≤ R := by omega
  rw [hW1]
  rw [hW0, hR]
  have HB0 := Lib.hid hb0
  have HBX : Hid (∀ V, Below W0.heap.size W0 V → V.cell? ⟨w.heap.size, 1, none⟩ = some (.slice a n cap)) := Lib.hid fun V hV => by
    have h1 : W1.heap[w.heap.size]? = some (.cells #[vc, .slice a n cap, .int .i64 h1, .int .i64 h2, .int .i64 h3, .int .i64 ad] 35 (0, 0)) := by rw [← hW1]; exact heap_alloc_new w _
    have hl1 := (Array.getElem?_eq_some_iff.1 h1).1
    have hk : Below W1.heap.size W1 W0 := by rw [← hW0]; exact balloc (Below.refl _ _) _
    have h2 := (hV.block w.heap.size (Nat.lt_of_lt_of_le hl1 hk.size)).trans ((hk.block w.heap.size hl1).trans h1)
    simp [World.cell?, h2]
  have HZ := Lib.hid hz0
  clear hW1 hW0 hs1 hb1 hb0 hz0 hR
  go_loopw [6] (fun v wr => ∃ i : Nat, v = .int .i64 (i : Int) ∧ i ≤ n ∧ (∀ (j : Nat) (b : AT.An), j < i → l[j]? = some b → b.1 ≠ c) ∧ Below W0.heap.size W0 wr) (fun v _ => n - (intOf v).toNat)
  case atStart => exact ⟨0, rfl, Nat.zero_le _, fun j b hj => absurd hj (Nat.not_lt_zero _), Below.refl _ _⟩
  case round =>
    obtain ⟨i, rfl, hi, hno, hb⟩ := hrel
    have HNO := Lib.hid hno
    have HB := Lib.hid hb
    have hbx := HBX.out wr hb
    have hzr : wr.heap[R]? = some (.cells #[.int .i64 0, .int .i64 0, .int .i64 0] 33 (0, 0)) := (hb.block R (Array.getElem?_eq_some_iff.1 HZ.out).1).trans HZ.out
    by_cases hin : i < n
    · have hii : (i : Int) < (n : Int) := by omega
      have hi0 : (0 : Int) ≤ (i : Int) := by omega
      obtain ⟨z, hz⟩ : ∃ z, l[i]? = some z := ⟨l[i]'(by rw [HN.out]; exact hin), List.getElem?_eq_getElem _⟩
      rcases HC.out with h | ⟨g, o, rfl, hg, hcl⟩
      · subst h
        simp at hz
      obtain ⟨c1, c2, c3⟩ := hcl i z hz
      have hgW : g < W0.heap.size := Nat.lt_of_lt_of_le hg HB0.out.size
      replace c1 := (hb.cell (p := ⟨g, o + i * 3, none⟩) hgW).trans ((HB0.out.cell (p := ⟨g, o + i * 3, none⟩) hg).trans c1)
      replace c2 := (hb.cell (p := ⟨g, o + i * 3 + 1, none⟩) hgW).trans ((HB0.out.cell (p := ⟨g, o + i * 3 + 1, none⟩) hg).trans c2)
      replace c3 := (hb.cell (p := ⟨g, o + i * 3 + 2, none⟩) hgW).trans ((HB0.out.cell (p := ⟨g, o + i * 3 + 2, none⟩) hg).trans c3)
      have HZI := Lib.hid hz
      have HZR := Lib.hid hzr
      have hcl' := Lib.hid hcl
      clear hcl hno hb hz hzr
      by_cases hzc : z.1 = c
      · have hq : (z.1 == c) = true := by simpa using hzc
        have HV := Lib.hid (AT.ownV_at HZI.out hzc HNO.out)
        clear hzc
        go_upto_region 5 with fail
        have hz3 : AnB wr R (0, 0, 0) := HZR.out
        obtain ⟨y1, y2, y3⟩ := hz3.cells
        have f0 := hz3.frozen 0
        have f1 := hz3.frozen 1
        have f2 := hz3.frozen 2
        have hp := hz3.put z
        have hbz : Below w.heap.size w (((wr.setCell ⟨R, 0, none⟩ (.int .i64 z.1)).setCell ⟨R, 1, none⟩ (.int .i64 z.2.1)).setCell ⟨R, 2, none⟩ (.int .i64 z.2.2)) := bset (bset (bset (bnext HB0.out HB.out) hRw _) hRw _) hRw _
        have HP := Lib.hid hp
        have HBZ := Lib.hid hbz
        clear hp hbz hz3
        go_wp2_with fail
        refine bodyPost_ret (result_an Try.results26 _ _ R z _ rfl HP.out) rfl ?_
        exact ⟨by rw [HV.out]; rfl, HBZ.out⟩
      · have hq : (z.1 == c) = false := by simpa using hzc
        go_wp2_with fail
        go_roundw
        case rel =>
          refine ⟨i + 1, by go_num, hin, fun j b hj hb' => ?_, HB.out⟩
          by_cases hji : j = i
          · subst hji
            rw [HZI.out] at hb'
            obtain rfl := Option.some.inj hb'
            exact hzc
          · exact HNO.out j b (by omega) hb'
        case measure => simp [intOf]; omega
    · obtain rfl : i = n := by omega
      have HV : Hid (AT.ownV l c = ((0, 0, 0), false)) := Lib.hid (AT.ownV_none fun j b hb' => HNO.out j b (by have := (List.getElem?_eq_some_iff.1 hb').1; rw [HN.out] at this; exact this) hb')
      have HZR := Lib.hid hzr
      clear hno hb hzr
      have hz3 : AnB wr R (0, 0, 0) := HZR.out
      obtain ⟨y1, y2, y3⟩ := hz3.cells
      have f0 := hz3.frozen 0
      have f1 := hz3.frozen 1
      have f2 := hz3.frozen 2
      have hp := hz3.put (0, 0, 0)
      have hbz : Below w.heap.size w (((wr.setCell ⟨R, 0, none⟩ (.int .i64 0)).setCell ⟨R, 1, none⟩ (.int .i64 0)).setCell ⟨R, 2, none⟩ (.int .i64 0)) := bset (bset (bset (bnext HB0.out HB.out) hRw _) hRw _) hRw _
      have HP := Lib.hid hp
      have HBZ := Lib.hid hbz
      clear hp hbz hz3
      go_wp2_with fail
      refine bodyPost_ret (result_an Try.results26 _ _ R (0, 0, 0) _ rfl HP.out) rfl ?_
      exact ⟨by rw [HV.out]; rfl, HBZ.out⟩
end Go.Proofs.Ytpmmincophaaiaa
