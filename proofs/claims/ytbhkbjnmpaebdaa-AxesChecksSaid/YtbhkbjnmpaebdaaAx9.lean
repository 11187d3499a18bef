/- The reference: coordinates, tents, regions and ranges. No conditions. -/
import Derived.Test.YtbhkbjnmpaebdaaAx1
import Derived.Test.YtbhkbjnmpaebdaaLater
namespace Go.Proofs.Ytbhkbjnmpaebdaa
set_option maxRecDepth 100000
set_option linter.unusedVariables false
open Go.RowKit Go.Deep
theorem rcoord_any (n : Int) (w : World) : Calls Try.prog 19 #[.int .i64 n] w fun e w' => e = .returned (.bool (AX.coord n)) ∧ w' = w := by
  by_cases h1 : -64 ≤ n
  · by_cases h2 : n ≤ 64
    · rw [(AX.coord_iff n).2 ⟨h1, h2⟩]
      go_enter Try.func19, Try.ntmps19
      go_wp2
      go_ret
      exact ⟨rfl, rfl⟩
    · rw [show AX.coord n = false from Bool.eq_false_iff.2 (fun h => h2 ((AX.coord_iff n).1 h).2)]
      go_enter Try.func19, Try.ntmps19
      go_wp2
      go_ret
      exact ⟨rfl, rfl⟩
  · rw [show AX.coord n = false from Bool.eq_false_iff.2 (fun h => h1 ((AX.coord_iff n).1 h).1)]
    go_enter Try.func19, Try.ntmps19
    go_wp2
    go_ret
    exact ⟨rfl, rfl⟩
theorem rcoord_c {n : Int} {r : Bool} (h : AX.coord n = r) (w : World) : Calls Try.prog 19 #[.int .i64 n] w fun e w' => e = .returned (.bool r) ∧ w' = w := by
  have := rcoord_any n w
  rwa [h] at this
theorem rcoords_any (l : List Int) (v : Value) (w : World) (hl : l.length ≤ 1000000000000) (hv : RowAt w v (l.map (Value.int .i64))) :
    Calls Try.prog 60 #[v] w fun e w' => e = .returned (.bool (AX.coords l)) ∧ w' = w := by
  obtain ⟨a, cap, rfl, hc⟩ := hv.out
  rw [List.length_map] at hc ⊢
  obtain ⟨n, hn⟩ : ∃ n, l.length = n := ⟨_, rfl⟩
  have HN := Lib.hid hn
  rw [hn] at hl hc ⊢
  have HC := Lib.hid hc
  clear hc hn hv
  go_enter Try.func60, Try.ntmps60
  go_wp2_with fail
  go_loopw [3] (fun v wr => ∃ i : Nat, v = .int .i64 (i : Int) ∧ i ≤ n ∧ Hid (∀ (j : Nat) (x : Int), j < i → l[j]? = some x → AX.coord x = true) ∧ wr = w) (fun v _ => n - (intOf v).toNat)
  case atStart => exact ⟨0, rfl, Nat.zero_le _, Lib.hid (fun j x hj => absurd hj (Nat.not_lt_zero _)), rfl⟩
  case round =>
    obtain ⟨i, rfl, hi, hyes, rfl⟩ := hrel
    by_cases hin : i < n
    · have hii : (i : Int) < (n : Int) := by omega
      have hi0 : (0 : Int) ≤ (i : Int) := by omega
      obtain ⟨x, hx⟩ : ∃ x, l[i]? = some x := ⟨l[i]'(by rw [HN.out]; exact hin), List.getElem?_eq_getElem _⟩
      rcases HC.out with h | ⟨g, o, rfl, hg, hcl⟩
      · simp at h
        rw [h] at hx
        simp at hx
      have c0 := hcl i hin
      have hgd : (l.map (Value.int .i64)).getD i (.bool false) = .int .i64 x := by simp [List.getD, hx]
      rw [hgd] at c0
      obtain ⟨r, hr⟩ : ∃ r, AX.coord x = r := ⟨_, rfl⟩
      have HR := Lib.hid hr
      have HX := Lib.hid hx
      have CO := Lib.hid (fun V => rcoord_c hr V)
      clear hcl hgd hr hx
      go_wp2_with fail
      refine (CO.out _).mono ?_
      rintro e w2 ⟨rfl, rfl⟩
      cases r with
      | false =>
        have HV : Hid (AX.coords l = false) := Lib.hid (by
          unfold AX.coords
          rw [Bool.and_eq_false_iff]
          left
          rw [List.all_eq_false]
          exact ⟨x, List.mem_of_getElem? HX.out, by rw [HR.out]; simp⟩)
        go_wp2
        go_ret
        exact ⟨by rw [HV.out]; rfl, rfl⟩
      | true =>
        have HYES : Hid (∀ (j : Nat) (y : Int), j < i + 1 → l[j]? = some y → AX.coord y = true) := Lib.hid (fun j y hj hy => by
          by_cases hji : j = i
          · subst hji
            rw [HX.out] at hy
            rw [← Option.some.inj hy]
            exact HR.out
          · exact hyes.out j y (by omega) hy)
        go_wp2_with fail
        go_roundw
        case rel => exact ⟨i + 1, by go_num, hin, HYES, by first | rfl | trivial⟩
        case measure => simp [intOf]; omega
    · obtain rfl : i = n := by omega
      have HV : Hid (AX.coords l = decide ((i : Int) ≤ 3)) := Lib.hid (by
        unfold AX.coords
        have h1 : l.all AX.coord = true := by
          rw [List.all_eq_true]
          intro x hx
          obtain ⟨j, hj, rfl⟩ := List.mem_iff_getElem.1 hx
          exact hyes.out j _ (by rw [HN.out] at hj; exact hj) (List.getElem?_eq_getElem hj)
        rw [h1, HN.out, Bool.true_and]
        exact decide_eq_decide.2 (by omega))
      by_cases h3 : (i : Int) ≤ 3
      · go_wp2
        go_ret
        exact ⟨by rw [HV.out, decide_eq_true h3]; rfl, rfl⟩
      · go_wp2
        go_ret
        exact ⟨by rw [HV.out, decide_eq_false (show ¬ (i : Int) ≤ 3 by omega)]; rfl, rfl⟩
theorem rtent_any (f p q : Int) (w : World) : Calls Try.prog 55 #[.agg #[.int .i64 f, .int .i64 p, .int .i64 q]] w fun e w' => e = .returned (.bool (AX.tent (f, p, q))) ∧ Below w.heap.size w w' := by
  by_cases k1 : -64 ≤ f
  · by_cases k2 : f ≤ p
    · by_cases k3 : p ≤ q
      · by_cases k4 : q ≤ 64
        · by_cases k5 : p = 0
          · have q5 : (p == 0) = true := by simpa using k5
            have HV : Hid (AX.tent (f, p, q) = true) := Lib.hid (by rw [AX.tent_iff]; simp only; omega)
            go_enter Try.func55, Try.ntmps55
            go_wp2
            go_ret
            exact ⟨by rw [HV.out]; first | rfl | (exact retb (by simp <;> omega)), balloc (Below.refl _ _) _⟩
          · have q5 : (p == 0) = false := by simpa using k5
            by_cases k6 : 0 ≤ f
            · have HV : Hid (AX.tent (f, p, q) = true) := Lib.hid (by rw [AX.tent_iff]; simp only; omega)
              go_enter Try.func55, Try.ntmps55
              go_wp2
              go_ret
              exact ⟨by rw [HV.out]; first | rfl | (exact retb (by simp <;> omega)), balloc (Below.refl _ _) _⟩
            · by_cases k7 : q ≤ 0
              · have HV : Hid (AX.tent (f, p, q) = true) := Lib.hid (by rw [AX.tent_iff]; simp only; omega)
                go_enter Try.func55, Try.ntmps55
                go_wp2
                go_ret
                exact ⟨by rw [HV.out]; first | rfl | (exact retb (by simp <;> omega)), balloc (Below.refl _ _) _⟩
              · have HV : Hid (AX.tent (f, p, q) = false) := Lib.hid (by rw [Bool.eq_false_iff]; intro h; obtain ⟨h1, h2, h3, h4, h5⟩ := (AX.tent_iff _).1 h; simp only at h1 h2 h3 h4 h5; omega)
                go_enter Try.func55, Try.ntmps55
                go_wp2
                go_ret
                exact ⟨by rw [HV.out]; first | rfl | (exact retb (by simp <;> omega)), balloc (Below.refl _ _) _⟩
        · have HV : Hid (AX.tent (f, p, q) = false) := Lib.hid (by rw [Bool.eq_false_iff]; intro h; obtain ⟨h1, h2, h3, h4, h5⟩ := (AX.tent_iff _).1 h; simp only at h1 h2 h3 h4 h5; omega)
          go_enter Try.func55, Try.ntmps55
          go_wp2
          go_ret
          exact ⟨by rw [HV.out]; first | rfl | (exact retb (by simp <;> omega)), balloc (Below.refl _ _) _⟩
      · have HV : Hid (AX.tent (f, p, q) = false) := Lib.hid (by rw [Bool.eq_false_iff]; intro h; obtain ⟨h1, h2, h3, h4, h5⟩ := (AX.tent_iff _).1 h; simp only at h1 h2 h3 h4 h5; omega)
        go_enter Try.func55, Try.ntmps55
        go_wp2
        go_ret
        exact ⟨by rw [HV.out]; first | rfl | (exact retb (by simp <;> omega)), balloc (Below.refl _ _) _⟩
    · have HV : Hid (AX.tent (f, p, q) = false) := Lib.hid (by rw [Bool.eq_false_iff]; intro h; obtain ⟨h1, h2, h3, h4, h5⟩ := (AX.tent_iff _).1 h; simp only at h1 h2 h3 h4 h5; omega)
      go_enter Try.func55, Try.ntmps55
      go_wp2
      go_ret
      exact ⟨by rw [HV.out]; first | rfl | (exact retb (by simp <;> omega)), balloc (Below.refl _ _) _⟩
  · have HV : Hid (AX.tent (f, p, q) = false) := Lib.hid (by rw [Bool.eq_false_iff]; intro h; obtain ⟨h1, h2, h3, h4, h5⟩ := (AX.tent_iff _).1 h; simp only at h1 h2 h3 h4 h5; omega)
    go_enter Try.func55, Try.ntmps55
    go_wp2
    go_ret
    exact ⟨by rw [HV.out]; first | rfl | (exact retb (by simp <;> omega)), balloc (Below.refl _ _) _⟩
theorem rtent_c {t : AX.Tn} {r : Bool} (h : AX.tent t = r) (w : World) : Calls Try.prog 55 #[.agg #[.int .i64 t.1, .int .i64 t.2.1, .int .i64 t.2.2]] w fun e w' => e = .returned (.bool r) ∧ Below w.heap.size w w' := by
  have := rtent_any t.1 t.2.1 t.2.2 w
  rwa [show AX.tent (t.1, t.2.1, t.2.2) = r from h] at this
set_option maxHeartbeats 4000000 in
theorem rright_any (l : List AX.Tn) (v : Value) (k : Int) (w : World) (hl : l.length ≤ 1000000000000) (hv : TnAt w v l) :
    Calls Try.prog 24 #[.agg #[v], .int .i64 k] w fun e w' => e = .returned (.bool (AX.right l k)) ∧ Below w.heap.size w w' := by
  have HV : Hid (∀ V, Below w.heap.size w V → TnAt V v l) := Lib.hid fun V hV => hv.keep hV
  obtain ⟨a, cap, rfl, hc⟩ := hv
  obtain ⟨n, hn⟩ : ∃ n, l.length = n := ⟨_, rfl⟩
  have HN := Lib.hid hn
  rw [hn] at hl HV ⊢
  clear hc hn
  by_cases k1 : k < 0
  · have HF : Hid (AX.right l k = false) := Lib.hid (by rw [Bool.eq_false_iff]; intro h; have := ((AX.right_iff l k).1 h).1; omega)
    go_enter Try.func24, Try.ntmps24
    go_wp2
    go_ret
    exact ⟨by rw [HF.out]; rfl, balloc (Below.refl _ _) _⟩
  by_cases k2 : 3 < k
  · have HF : Hid (AX.right l k = false) := Lib.hid (by rw [Bool.eq_false_iff]; intro h; have := ((AX.right_iff l k).1 h).1; omega)
    go_enter Try.func24, Try.ntmps24
    go_wp2
    go_ret
    exact ⟨by rw [HF.out]; rfl, balloc (Below.refl _ _) _⟩
  by_cases k3 : (n : Int) = k
  · subst k3
    have k4 : ((n : Int) != (n : Int)) = false := by simp
    go_enter Try.func24, Try.ntmps24
    go_wp2_with fail
    go_loopw [5] (fun v wr => ∃ i : Nat, v = .int .i64 (i : Int) ∧ i ≤ n ∧ Hid (∀ (j : Nat) (x : AX.Tn), j < i → l[j]? = some x → AX.tent x = true) ∧ Below w.heap.size w wr ∧ wr.heap[w.heap.size]? = some (.cells #[.slice a n cap] 42 (0, 0))) (fun v _ => n - (intOf v).toNat)
    case atStart => exact ⟨0, rfl, Nat.zero_le _, Lib.hid (fun j x hj => absurd hj (Nat.not_lt_zero _)), balloc (Below.refl _ _) _, heap_alloc_new w _⟩
    case round =>
      obtain ⟨i, rfl, hi, hyes, hb, hbox⟩ := hrel
      have HB := Lib.hid hb
      by_cases hin : i < n
      · have hii : (i : Int) < (n : Int) := by omega
        have hi0 : (0 : Int) ≤ (i : Int) := by omega
        obtain ⟨x, hx⟩ : ∃ x, l[i]? = some x := ⟨l[i]'(by rw [HN.out]; exact hin), List.getElem?_eq_getElem _⟩
        obtain ⟨aw, cw, e1, hcw⟩ := HV.out wr hb
        rw [HN.out] at e1
        injection e1 with e1 e2 e3
        subst e1 e3
        rcases hcw with h | ⟨g, o, rfl, hg, hcl⟩
        · rw [h] at hx
          simp at hx
        obtain ⟨c0, c1, c2⟩ := hcl i x hx
        have x0 : wr.cell? ⟨w.heap.size, 0, none⟩ = some (.slice (some ⟨g, o, none⟩) n cap) := by simp [World.cell?, hbox]
        have HBOX := Lib.hid hbox
        clear hbox
        obtain ⟨r, hr⟩ : ∃ r, AX.tent x = r := ⟨_, rfl⟩
        have HR := Lib.hid hr
        have HX := Lib.hid hx
        have CO := Lib.hid (fun V => rtent_c hr V)
        clear hcl hr hx hb
        go_wp2_with fail
        refine (CO.out _).mono ?_
        rintro e w2 ⟨rfl, hb2⟩
        have HB2 := Lib.hid (bnext HB.out hb2)
        have HBO2 := Lib.hid ((hb2.block _ (Array.getElem?_eq_some_iff.1 HBOX.out).1).trans HBOX.out)
        clear hb2
        cases r with
        | false =>
          have HF : Hid (AX.right l (n : Int) = false) := Lib.hid (by
            rw [Bool.eq_false_iff]
            intro h
            have := ((AX.right_iff l _).1 h).2 x (List.mem_of_getElem? HX.out)
            rw [HR.out] at this
            cases this)
          go_wp2
          go_ret
          exact ⟨by rw [HF.out]; rfl, HB2.out⟩
        | true =>
          have HYES : Hid (∀ (j : Nat) (y : AX.Tn), j < i + 1 → l[j]? = some y → AX.tent y = true) := Lib.hid (fun j y hj hy => by
            by_cases hji : j = i
            · subst hji
              rw [HX.out] at hy
              rw [← Option.some.inj hy]
              exact HR.out
            · exact hyes.out j y (by omega) hy)
          go_wp2_with fail
          go_roundw
          case rel => exact ⟨i + 1, by go_num, hin, HYES, HB2.out, HBO2.out⟩
          case measure => simp [intOf]; omega
      · obtain rfl : i = n := by omega
        have HT : Hid (AX.right l (i : Int) = true) := Lib.hid ((AX.right_iff l _).2 ⟨⟨by omega, by omega, by rw [HN.out]⟩, all_upto HN.out hyes.out⟩)
        clear hb
        go_wp2
        go_ret
        exact ⟨by rw [HT.out]; rfl, HB.out⟩
  · have k4 : ((n : Int) != k) = true := by simpa using k3
    have HF : Hid (AX.right l k = false) := Lib.hid (by rw [Bool.eq_false_iff]; intro h; have := ((AX.right_iff l k).1 h).1; rw [HN.out] at this; omega)
    go_enter Try.func24, Try.ntmps24
    go_wp2
    go_ret
    exact ⟨by rw [HF.out]; rfl, balloc (Below.refl _ _) _⟩
set_option maxHeartbeats 4000000 in
theorem rranges_any (l : List AX.Pr) (v : Value) (k : Int) (w : World) (hl : l.length ≤ 1000000000000) (hv : PrAt w v l) :
    Calls Try.prog 33 #[v, .int .i64 k] w fun e w' => e = .returned (.bool (AX.ranges l k)) ∧ Below w.heap.size w w' := by
  have HV : Hid (∀ V, Below w.heap.size w V → PrAt V v l) := Lib.hid fun V hV => hv.keep hV
  obtain ⟨a, cap, rfl, hc⟩ := hv
  obtain ⟨n, hn⟩ : ∃ n, l.length = n := ⟨_, rfl⟩
  have HN := Lib.hid hn
  rw [hn] at hl HV ⊢
  clear hc hn
  by_cases k1 : k < 0
  · have HF : Hid (AX.ranges l k = false) := Lib.hid (by rw [Bool.eq_false_iff]; intro h; have := ((AX.ranges_iff l k).1 h).1; omega)
    go_enter Try.func33, Try.ntmps33
    go_wp2
    go_ret
    exact ⟨by rw [HF.out]; rfl, Below.refl _ _⟩
  by_cases k2 : 3 < k
  · have HF : Hid (AX.ranges l k = false) := Lib.hid (by rw [Bool.eq_false_iff]; intro h; have := ((AX.ranges_iff l k).1 h).1; omega)
    go_enter Try.func33, Try.ntmps33
    go_wp2
    go_ret
    exact ⟨by rw [HF.out]; rfl, Below.refl _ _⟩
  by_cases k3 : (n : Int) = k
  · subst k3
    have k4 : ((n : Int) != (n : Int)) = false := by simp
    go_enter Try.func33, Try.ntmps33
    go_wp2_with fail
    go_loopw [5] (fun v wr => ∃ i : Nat, v = .int .i64 (i : Int) ∧ i ≤ n ∧ Hid (∀ (j : Nat) (x : AX.Pr), j < i → l[j]? = some x → AX.rng x = true) ∧ Below w.heap.size w wr) (fun v _ => n - (intOf v).toNat)
    case atStart => exact ⟨0, rfl, Nat.zero_le _, Lib.hid (fun j x hj => absurd hj (Nat.not_lt_zero _)), Below.refl _ _⟩
    case round =>
      obtain ⟨i, rfl, hi, hyes, hb⟩ := hrel
      have HB := Lib.hid hb
      by_cases hin : i < n
      · have hii : (i : Int) < (n : Int) := by omega
        have hi0 : (0 : Int) ≤ (i : Int) := by omega
        obtain ⟨x, hx⟩ : ∃ x, l[i]? = some x := ⟨l[i]'(by rw [HN.out]; exact hin), List.getElem?_eq_getElem _⟩
        obtain ⟨aw, cw, e1, hcw⟩ := HV.out wr hb
        rw [HN.out] at e1
        injection e1 with e1 e2 e3
        subst e1 e3
        rcases hcw with h | ⟨g, o, rfl, hg, hcl⟩
        · rw [h] at hx
          simp at hx
        obtain ⟨c0, c1⟩ := hcl i x hx
        have HX := Lib.hid hx
        clear hcl hx hb
        by_cases hr : AX.rng x = true
        · obtain ⟨h1, h2, h3⟩ := (AX.rng_iff x).1 hr
          have r1 := (AX.coord_iff x.1).2 h1
          have r2 := (AX.coord_iff x.2).2 h2
          have r3 : ¬ x.2 < x.1 := by omega
          have HYES : Hid (∀ (j : Nat) (y : AX.Pr), j < i + 1 → l[j]? = some y → AX.rng y = true) := Lib.hid (fun j y hj hy => by
            by_cases hji : j = i
            · subst hji
              rw [HX.out] at hy
              rw [← Option.some.inj hy]
              exact hr
            · exact hyes.out j y (by omega) hy)
          go_wp2_with (first | (go_at_call 19; refine (rcoord_c (by with_reducible assumption) _).mono ?_; rintro e w' ⟨rfl, rfl⟩))
          go_quiet (fail)
          go_wp2
          go_roundw
          case rel => exact ⟨i + 1, by go_num, hin, HYES, below_drewN HB.out _⟩
          case measure => simp [intOf]; omega
        · have HF : Hid (AX.ranges l (n : Int) = false) := Lib.hid (by
            rw [Bool.eq_false_iff]
            intro h
            exact hr (((AX.ranges_iff l _).1 h).2 x (List.mem_of_getElem? HX.out)))
          cases r1 : AX.coord x.1 with
          | false =>
            cases r2 : AX.coord x.2 with
            | false =>
              go_wp2_with (first | (go_at_call 19; refine (rcoord_c (by with_reducible assumption) _).mono ?_; rintro e w' ⟨rfl, rfl⟩))
              go_quiet (fail)
              go_wp2
              go_ret
              exact ⟨by rw [HF.out]; rfl, below_drewN HB.out _⟩
            | true =>
              go_wp2_with (first | (go_at_call 19; refine (rcoord_c (by with_reducible assumption) _).mono ?_; rintro e w' ⟨rfl, rfl⟩))
              go_quiet (fail)
              go_wp2
              go_ret
              exact ⟨by rw [HF.out]; rfl, below_drewN HB.out _⟩
          | true =>
            cases r2 : AX.coord x.2 with
            | false =>
              go_wp2_with (first | (go_at_call 19; refine (rcoord_c (by with_reducible assumption) _).mono ?_; rintro e w' ⟨rfl, rfl⟩))
              go_quiet (fail)
              go_wp2
              go_ret
              exact ⟨by rw [HF.out]; rfl, below_drewN HB.out _⟩
            | true =>
              have r3 : x.2 < x.1 := by
                have := (AX.coord_iff x.1).1 r1
                have := (AX.coord_iff x.2).1 r2
                have h4 : ¬ x.1 ≤ x.2 := fun h => hr ((AX.rng_iff x).2 ⟨by omega, by omega, h⟩)
                omega
              go_wp2_with (first | (go_at_call 19; refine (rcoord_c (by with_reducible assumption) _).mono ?_; rintro e w' ⟨rfl, rfl⟩))
              go_quiet (fail)
              go_wp2
              go_ret
              exact ⟨by rw [HF.out]; rfl, below_drewN HB.out _⟩
      · obtain rfl : i = n := by omega
        have HT : Hid (AX.ranges l (i : Int) = true) := Lib.hid ((AX.ranges_iff l _).2 ⟨⟨by omega, by omega, by rw [HN.out]⟩, all_upto HN.out hyes.out⟩)
        clear hb
        go_wp2
        go_ret
        exact ⟨by rw [HT.out]; rfl, HB.out⟩
  · have k4 : ((n : Int) != k) = true := by simpa using k3
    have HF : Hid (AX.ranges l k = false) := Lib.hid (by rw [Bool.eq_false_iff]; intro h; have := ((AX.ranges_iff l k).1 h).1; rw [HN.out] at this; omega)
    go_enter Try.func33, Try.ntmps33
    go_wp2
    go_ret
    exact ⟨by rw [HF.out]; rfl, Below.refl _ _⟩
end Go.Proofs.Ytbhkbjnmpaebdaa
