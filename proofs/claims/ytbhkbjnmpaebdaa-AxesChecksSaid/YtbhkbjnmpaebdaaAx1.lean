/- Rows of tents and of ranges; Right and Ranges of the program. No conditions. -/
import Derived.Test.YtbhkbjnmpaebdaaAx0
namespace Go.Proofs.Ytbhkbjnmpaebdaa.AX
abbrev Pr := Int × Int
def rng (p : Pr) : Bool := coord p.1 && (coord p.2 && decide (p.1 ≤ p.2))
theorem rng_iff (p : Pr) : rng p = true ↔ (-64 ≤ p.1 ∧ p.1 ≤ 64) ∧ (-64 ≤ p.2 ∧ p.2 ≤ 64) ∧ p.1 ≤ p.2 := by
  unfold rng
  rw [Bool.and_eq_true, Bool.and_eq_true, coord_iff, coord_iff, decide_eq_true_iff]
def ranges (l : List Pr) (n : Int) : Bool := decide (0 ≤ n ∧ n ≤ 3 ∧ (l.length : Int) = n) && l.all rng
theorem right_iff (l : List Tn) (n : Int) : right l n = true ↔ (0 ≤ n ∧ n ≤ 3 ∧ (l.length : Int) = n) ∧ ∀ t ∈ l, tent t = true := by
  unfold right
  rw [Bool.and_eq_true, decide_eq_true_iff, List.all_eq_true]
theorem ranges_iff (l : List Pr) (n : Int) : ranges l n = true ↔ (0 ≤ n ∧ n ≤ 3 ∧ (l.length : Int) = n) ∧ ∀ t ∈ l, rng t = true := by
  unfold ranges
  rw [Bool.and_eq_true, decide_eq_true_iff, List.all_eq_true]
theorem coords_iff (l : List Int) : coords l = true ↔ (∀ n ∈ l, coord n = true) ∧ l.length ≤ 3 := by
  unfold coords
  rw [Bool.and_eq_true, decide_eq_true_iff, List.all_eq_true]
end Go.Proofs.Ytbhkbjnmpaebdaa.AX
namespace Go.Proofs.Ytbhkbjnmpaebdaa
set_option maxRecDepth 100000
set_option linter.unusedVariables false
open Go.RowKit Go.Deep
/-- A row of tents. -/
def TnAt (W : World) (v : Value) (l : List AX.Tn) : Prop := ∃ a cap, v = .slice a l.length cap ∧ (l = [] ∨ ∃ g o, a = some ⟨g, o, none⟩ ∧ g < W.heap.size ∧ ∀ i z, l[i]? = some z → W.cell? ⟨g, o + i * 3, none⟩ = some (.int .i64 z.1) ∧ W.cell? ⟨g, o + i * 3 + 1, none⟩ = some (.int .i64 z.2.1) ∧ W.cell? ⟨g, o + i * 3 + 2, none⟩ = some (.int .i64 z.2.2))
theorem TnAt.keep {W W' : World} {v : Value} {l : List AX.Tn} (h : TnAt W v l) (hb : Below W.heap.size W W') : TnAt W' v l := by
  obtain ⟨a, cap, e, h⟩ := h
  refine ⟨a, cap, e, ?_⟩
  rcases h with h | ⟨g, o, e2, hg, hc⟩
  · exact .inl h
  · refine .inr ⟨g, o, e2, Nat.lt_of_lt_of_le hg hb.size, fun i z hz => ?_⟩
    obtain ⟨c1, c2, c3⟩ := hc i z hz
    exact ⟨(hb.cell (p := ⟨g, o + i * 3, none⟩) hg).trans c1, (hb.cell (p := ⟨g, o + i * 3 + 1, none⟩) hg).trans c2, (hb.cell (p := ⟨g, o + i * 3 + 2, none⟩) hg).trans c3⟩
/-- A row of pairs. -/
def PrAt (W : World) (v : Value) (l : List AX.Pr) : Prop := ∃ a c, v = .slice a l.length c ∧ (l = [] ∨ ∃ g o, a = some ⟨g, o, none⟩ ∧ g < W.heap.size ∧ ∀ i x, l[i]? = some x → W.cell? ⟨g, o + i * 2, none⟩ = some (.int .i64 x.1) ∧ W.cell? ⟨g, o + i * 2 + 1, none⟩ = some (.int .i64 x.2))
theorem PrAt.keep {W W' : World} {v : Value} {l : List AX.Pr} (h : PrAt W v l) (hb : Below W.heap.size W W') : PrAt W' v l := by
  obtain ⟨a, c, e, h⟩ := h
  refine ⟨a, c, e, ?_⟩
  rcases h with h | ⟨g, o, e2, hg, hc⟩
  · exact .inl h
  · exact .inr ⟨g, o, e2, Nat.lt_of_lt_of_le hg hb.size, fun i x hx => ⟨(hb.cell (p := ⟨g, o + i * 2, none⟩) hg).trans (hc i x hx).1, (hb.cell (p := ⟨g, o + i * 2 + 1, none⟩) hg).trans (hc i x hx).2⟩⟩
theorem all_upto {α : Type} {f : α → Bool} {l : List α} {n : Nat} (hn : l.length = n) (h : ∀ (j : Nat) (x : α), j < n → l[j]? = some x → f x = true) : ∀ x ∈ l, f x = true := by
  intro x hx
  obtain ⟨j, hj, rfl⟩ := List.mem_iff_getElem.1 hx
  exact h j _ (by omega) (List.getElem?_eq_getElem hj)
set_option maxHeartbeats 4000000 in
theorem right_any (l : List AX.Tn) (v : Value) (k : Int) (w : World) (hl : l.length ≤ 1000000000000) (hv : TnAt w v l) :
    Calls Try.prog 23 #[.agg #[v], .int .i64 k] w fun e w' => e = .returned (.bool (AX.right l k)) ∧ Below w.heap.size w w' := by
  have HV : Hid (∀ V, Below w.heap.size w V → TnAt V v l) := Lib.hid fun V hV => hv.keep hV
  obtain ⟨a, cap, rfl, hc⟩ := hv
  obtain ⟨n, hn⟩ : ∃ n, l.length = n := ⟨_, rfl⟩
  have HN := Lib.hid hn
  rw [hn] at hl HV ⊢
  clear hc hn
  by_cases k1 : k < 0
  · have HF : Hid (AX.right l k = false) := Lib.hid (by rw [Bool.eq_false_iff]; intro h; have := ((AX.right_iff l k).1 h).1; omega)
    go_enter Try.func23, Try.ntmps23
    go_wp2
    go_ret
    exact ⟨by rw [HF.out]; rfl, balloc (Below.refl _ _) _⟩
  by_cases k2 : 3 < k
  · have HF : Hid (AX.right l k = false) := Lib.hid (by rw [Bool.eq_false_iff]; intro h; have := ((AX.right_iff l k).1 h).1; omega)
    go_enter Try.func23, Try.ntmps23
    go_wp2
    go_ret
    exact ⟨by rw [HF.out]; rfl, balloc (Below.refl _ _) _⟩
  by_cases k3 : (n : Int) = k
  · subst k3
    have k4 : ((n : Int) != (n : Int)) = false := by simp
    go_enter Try.func23, Try.ntmps23
    go_wp2_with fail
    go_loopw [23] (fun v wr => ∃ i : Nat, v = .int .i64 (i : Int) ∧ i ≤ n ∧ Hid (∀ (j : Nat) (x : AX.Tn), j < i → l[j]? = some x → AX.tent x = true) ∧ Below w.heap.size w wr) (fun v _ => n - (intOf v).toNat)
    case atStart => exact ⟨0, rfl, Nat.zero_le _, Lib.hid (fun j x hj => absurd hj (Nat.not_lt_zero _)), balloc (Below.refl _ _) _⟩
    case round =>
      obtain ⟨i, rfl, hi, hyes, hb⟩ := hrel
      have HB := Lib.hid hb
      by_cases hin : i < n
      · have hii : (i : Int) < (n : Int) := by omega
        have hi0 : (0 : Int) ≤ (i : Int) := by omega
        obtain ⟨x, hx⟩ : ∃ x, l[i]? = some x := ⟨l[i]'(by rw [HN.out]; exact hin), List.getElem?_eq_getElem _⟩
        obtain ⟨aw, cw, e1, hcw⟩ := HV.out wr hb
        rw [HN.out] at e1
        injection e1 with e1 e2 e3
        subst e1 e3
        rcases hcw with h | ⟨g, o, rfl, hg, hcl⟩
        · rw [h] at hx
          simp at hx
        obtain ⟨c0, c1, c2⟩ := hcl i x hx
        obtain ⟨r, hr⟩ : ∃ r, AX.tent x = r := ⟨_, rfl⟩
        have HR := Lib.hid hr
        have HX := Lib.hid hx
        have CO := Lib.hid (fun V => tent_c hr V)
        clear hcl hr hx hb
        go_wp2_with fail
        refine (CO.out _).mono ?_
        rintro e w2 ⟨rfl, hb2⟩
        have HB2 := Lib.hid (bnext (balloc HB.out _) hb2)
        clear hb2
        cases r with
        | false =>
          have HF : Hid (AX.right l (n : Int) = false) := Lib.hid (by
            rw [Bool.eq_false_iff]
            intro h
            have := ((AX.right_iff l _).1 h).2 x (List.mem_of_getElem? HX.out)
            rw [HR.out] at this
            cases this)
          go_wp2
          go_ret
          exact ⟨by rw [HF.out]; rfl, HB2.out⟩
        | true =>
          have HYES : Hid (∀ (j : Nat) (y : AX.Tn), j < i + 1 → l[j]? = some y → AX.tent y = true) := Lib.hid (fun j y hj hy => by
            by_cases hji : j = i
            · subst hji
              rw [HX.out] at hy
              rw [← Option.some.inj hy]
              exact HR.out
            · exact hyes.out j y (by omega) hy)
          go_wp2_with fail
          go_roundw
          case rel => exact ⟨i + 1, by go_num, hin, HYES, HB2.out⟩
          case measure => simp [intOf]; omega
      · obtain rfl : i = n := by omega
        have HT : Hid (AX.right l (i : Int) = true) := Lib.hid ((AX.right_iff l _).2 ⟨⟨by omega, by omega, by rw [HN.out]⟩, all_upto HN.out hyes.out⟩)
        clear hb
        go_wp2
        go_ret
        exact ⟨by rw [HT.out]; rfl, HB.out⟩
  · have k4 : ((n : Int) != k) = true := by simpa using k3
    have HF : Hid (AX.right l k = false) := Lib.hid (by rw [Bool.eq_false_iff]; intro h; have := ((AX.right_iff l k).1 h).1; rw [HN.out] at this; omega)
    go_enter Try.func23, Try.ntmps23
    go_wp2
    go_ret
    exact ⟨by rw [HF.out]; rfl, balloc (Below.refl _ _) _⟩
set_option maxHeartbeats 4000000 in
theorem ranges_any (l : List AX.Pr) (v : Value) (k : Int) (w : World) (hl : l.length ≤ 1000000000000) (hv : PrAt w v l) :
    Calls Try.prog 32 #[v, .int .i64 k] w fun e w' => e = .returned (.bool (AX.ranges l k)) ∧ Below w.heap.size w w' := by
  have HV : Hid (∀ V, Below w.heap.size w V → PrAt V v l) := Lib.hid fun V hV => hv.keep hV
  obtain ⟨a, cap, rfl, hc⟩ := hv
  obtain ⟨n, hn⟩ : ∃ n, l.length = n := ⟨_, rfl⟩
  have HN := Lib.hid hn
  rw [hn] at hl HV ⊢
  clear hc hn
  by_cases k1 : k < 0
  · have HF : Hid (AX.ranges l k = false) := Lib.hid (by rw [Bool.eq_false_iff]; intro h; have := ((AX.ranges_iff l k).1 h).1; omega)
    go_enter Try.func32, Try.ntmps32
    go_wp2
    go_ret
    exact ⟨by rw [HF.out]; rfl, Below.refl _ _⟩
  by_cases k2 : 3 < k
  · have HF : Hid (AX.ranges l k = false) := Lib.hid (by rw [Bool.eq_false_iff]; intro h; have := ((AX.ranges_iff l k).1 h).1; omega)
    go_enter Try.func32, Try.ntmps32
    go_wp2
    go_ret
    exact ⟨by rw [HF.out]; rfl, Below.refl _ _⟩
  by_cases k3 : (n : Int) = k
  · subst k3
    have k4 : ((n : Int) != (n : Int)) = false := by simp
    go_enter Try.func32, Try.ntmps32
    go_wp2_with fail
    go_loopw [21] (fun v wr => ∃ i : Nat, v = .int .i64 (i : Int) ∧ i ≤ n ∧ Hid (∀ (j : Nat) (x : AX.Pr), j < i → l[j]? = some x → AX.rng x = true) ∧ Below w.heap.size w wr) (fun v _ => n - (intOf v).toNat)
    case atStart => exact ⟨0, rfl, Nat.zero_le _, Lib.hid (fun j x hj => absurd hj (Nat.not_lt_zero _)), Below.refl _ _⟩
    case round =>
      obtain ⟨i, rfl, hi, hyes, hb⟩ := hrel
      have HB := Lib.hid hb
      by_cases hin : i < n
      · have hii : (i : Int) < (n : Int) := by omega
        have hi0 : (0 : Int) ≤ (i : Int) := by omega
        obtain ⟨x, hx⟩ : ∃ x, l[i]? = some x := ⟨l[i]'(by rw [HN.out]; exact hin), List.getElem?_eq_getElem _⟩
        obtain ⟨aw, cw, e1, hcw⟩ := HV.out wr hb
        rw [HN.out] at e1
        injection e1 with e1 e2 e3
        subst e1 e3
        rcases hcw with h | ⟨g, o, rfl, hg, hcl⟩
        · rw [h] at hx
          simp at hx
        obtain ⟨c0, c1⟩ := hcl i x hx
        have HX := Lib.hid hx
        clear hcl hx hb
        have HBA := Lib.hid (balloc HB.out (.cells #[.int .i64 x.1, .int .i64 x.2] 30))
        by_cases hr : AX.rng x = true
        · obtain ⟨h1, h2, h3⟩ := (AX.rng_iff x).1 hr
          have r1 := (AX.coord_iff x.1).2 h1
          have r2 := (AX.coord_iff x.2).2 h2
          have r3 : ¬ x.2 < x.1 := by omega
          have HYES : Hid (∀ (j : Nat) (y : AX.Pr), j < i + 1 → l[j]? = some y → AX.rng y = true) := Lib.hid (fun j y hj hy => by
            by_cases hji : j = i
            · subst hji
              rw [HX.out] at hy
              rw [← Option.some.inj hy]
              exact hr
            · exact hyes.out j y (by omega) hy)
          go_wp2_with (first | (go_at_call 66; refine (coord_c (by with_reducible assumption) _).mono ?_; rintro e w' ⟨rfl, rfl⟩))
          go_roundw
          case rel => exact ⟨i + 1, by go_num, hin, HYES, HBA.out⟩
          case measure => simp [intOf]; omega
        · have HF : Hid (AX.ranges l (n : Int) = false) := Lib.hid (by
            rw [Bool.eq_false_iff]
            intro h
            exact hr (((AX.ranges_iff l _).1 h).2 x (List.mem_of_getElem? HX.out)))
          cases r1 : AX.coord x.1 with
          | false =>
            go_wp2_with (first | (go_at_call 66; refine (coord_c (by with_reducible assumption) _).mono ?_; rintro e w' ⟨rfl, rfl⟩))
            go_ret
            exact ⟨by rw [HF.out]; rfl, HBA.out⟩
          | true =>
            cases r2 : AX.coord x.2 with
            | false =>
              go_wp2_with (first | (go_at_call 66; refine (coord_c (by with_reducible assumption) _).mono ?_; rintro e w' ⟨rfl, rfl⟩))
              go_ret
              exact ⟨by rw [HF.out]; rfl, HBA.out⟩
            | true =>
              have r3 : x.2 < x.1 := by
                have := (AX.coord_iff x.1).1 r1
                have := (AX.coord_iff x.2).1 r2
                have h4 : ¬ x.1 ≤ x.2 := fun h => hr ((AX.rng_iff x).2 ⟨by omega, by omega, h⟩)
                omega
              go_wp2_with (first | (go_at_call 66; refine (coord_c (by with_reducible assumption) _).mono ?_; rintro e w' ⟨rfl, rfl⟩))
              go_ret
              exact ⟨by rw [HF.out]; rfl, HBA.out⟩
      · obtain rfl : i = n := by omega
        have HT : Hid (AX.ranges l (i : Int) = true) := Lib.hid ((AX.ranges_iff l _).2 ⟨⟨by omega, by omega, by rw [HN.out]⟩, all_upto HN.out hyes.out⟩)
        clear hb
        go_wp2
        go_ret
        exact ⟨by rw [HT.out]; rfl, HB.out⟩
  · have k4 : ((n : Int) != k) = true := by simpa using k3
    have HF : Hid (AX.ranges l k = false) := Lib.hid (by rw [Bool.eq_false_iff]; intro h; have := ((AX.ranges_iff l k).1 h).1; rw [HN.out] at this; omega)
    go_enter Try.func32, Try.ntmps32
    go_wp2
    go_ret
    exact ⟨by rw [HF.out]; rfl, Below.refl _ _⟩
end Go.Proofs.Ytbhkbjnmpaebdaa
