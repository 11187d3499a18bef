/- Texts merged: Ax0, Ax1. No conditions. -/
import Derived.Test.YtanppbdlcinpfaaApp
import Derived.Test.YtanppbdlcinpfaaFixTimes
import Derived.Stop.BytesEq
import Derived.Deep.Cut
import Derived.Deep.DeepCutAuto
/- Coordinates, tents and their strengths: plain, and of the program. No conditions. -/
section
namespace Go.Proofs.Ytanppbdlcinpfaa.AX
set_option linter.unusedVariables false
abbrev Tn := Int × Int × Int
def coord (n : Int) : Bool := decide (-64 ≤ n ∧ n ≤ 64)
theorem coord_iff (n : Int) : coord n = true ↔ -64 ≤ n ∧ n ≤ 64 := by unfold coord; rw [decide_eq_true_iff]
def tent (t : Tn) : Bool := coord t.1 && (coord t.2.2 && decide (t.1 ≤ t.2.1 ∧ t.2.1 ≤ t.2.2 ∧ (t.2.1 = 0 ∨ 0 ≤ t.1 ∨ t.2.2 ≤ 0)))
theorem tent_iff (t : Tn) : tent t = true ↔ (-64 ≤ t.1 ∧ t.1 ≤ 64) ∧ (-64 ≤ t.2.2 ∧ t.2.2 ≤ 64) ∧ t.1 ≤ t.2.1 ∧ t.2.1 ≤ t.2.2 ∧ (t.2.1 = 0 ∨ 0 ≤ t.1 ∨ t.2.2 ≤ 0) := by
  unfold tent
  rw [Bool.and_eq_true, Bool.and_eq_true, coord_iff, coord_iff, decide_eq_true_iff]
def right (l : List Tn) (n : Int) : Bool := decide (0 ≤ n ∧ n ≤ 3 ∧ (l.length : Int) = n) && l.all tent
def coords (l : List Int) : Bool := l.all coord && decide (l.length ≤ 3)
def fr (a b : Int) : Int × Int := (a / F.FP.gc a b, b / F.FP.gc a b)
def strength (t : Tn) (n : Int) : Int × Int := if t.2.1 = 0 ∨ n = t.2.1 then (1, 1) else if n ≤ t.1 ∨ t.2.2 ≤ n then (0, 1) else if n < t.2.1 then fr (n - t.1) (t.2.1 - t.1) else fr (t.2.2 - n) (t.2.2 - t.2.1)
theorem fr_one : fr 1 1 = (1, 1) := by decide
theorem fr_zero : fr 0 1 = (0, 1) := by decide
end Go.Proofs.Ytanppbdlcinpfaa.AX
namespace Go.Proofs.Ytanppbdlcinpfaa
set_option maxRecDepth 100000
set_option linter.unusedVariables false
open Go.RowKit Go.Deep
theorem coord_any (n : Int) (w : World) : Calls Try.prog 90 #[.int .i64 n] w fun e w' => e = .returned (.bool (AX.coord n)) ∧ w' = w := by
  by_cases h1 : -64 ≤ n
  · by_cases h2 : n ≤ 64
    · rw [(AX.coord_iff n).2 ⟨h1, h2⟩]
      go_enter Try.func90, Try.ntmps90
      go_wp2
      go_ret
      exact ⟨rfl, rfl⟩
    · rw [show AX.coord n = false from Bool.eq_false_iff.2 (fun h => h2 ((AX.coord_iff n).1 h).2)]
      go_enter Try.func90, Try.ntmps90
      go_wp2
      go_ret
      exact ⟨rfl, rfl⟩
  · rw [show AX.coord n = false from Bool.eq_false_iff.2 (fun h => h1 ((AX.coord_iff n).1 h).1)]
    go_enter Try.func90, Try.ntmps90
    go_wp2
    go_ret
    exact ⟨rfl, rfl⟩
theorem coord_c {n : Int} {r : Bool} (h : AX.coord n = r) (w : World) : Calls Try.prog 90 #[.int .i64 n] w fun e w' => e = .returned (.bool r) ∧ w' = w := by
  have := coord_any n w
  rwa [h] at this
theorem coords_any (l : List Int) (v : Value) (w : World) (hl : l.length ≤ 1000000000000) (hv : RowAt w v (l.map (Value.int .i64))) :
    Calls Try.prog 57 #[v] w fun e w' => e = .returned (.bool (AX.coords l)) ∧ w' = w := by
  obtain ⟨a, cap, rfl, hc⟩ := hv.out
  rw [List.length_map] at hc ⊢
  obtain ⟨n, hn⟩ : ∃ n, l.length = n := ⟨_, rfl⟩
  have HN := Lib.hid hn
  rw [hn] at hl hc ⊢
  have HC := Lib.hid hc
  clear hc hn hv
  go_enter Try.func57, Try.ntmps57
  go_wp2_with fail
  go_loopw [7] (fun v wr => ∃ i : Nat, v = .int .i64 (i : Int) ∧ i ≤ n ∧ Hid (∀ (j : Nat) (x : Int), j < i → l[j]? = some x → AX.coord x = true) ∧ wr = w) (fun v _ => n - (intOf v).toNat)
  case atStart => exact ⟨0, rfl, Nat.zero_le _, Lib.hid (fun j x hj => absurd hj (Nat.not_lt_zero _)), rfl⟩
  case round =>
    obtain ⟨i, rfl, hi, hyes, rfl⟩ := hrel
    by_cases hin : i < n
    · have hii : (i : Int) < (n : Int) := by omega
      have hi0 : (0 : Int) ≤ (i : Int) := by omega
      obtain ⟨x, hx⟩ : ∃ x, l[i]? = some x := ⟨l[i]'(by rw [HN.out]; exact hin), List.getElem?_eq_getElem _⟩
      rcases HC.out with h | ⟨g, o, rfl, hg, hcl⟩
      · simp at h
        rw [h] at hx
        simp at hx
      have c0 := hcl i hin
      have hgd : (l.map (Value.int .i64)).getD i (.bool false) = .int .i64 x := by simp [List.getD, hx]
      rw [hgd] at c0
      obtain ⟨r, hr⟩ : ∃ r, AX.coord x = r := ⟨_, rfl⟩
      have HR := Lib.hid hr
      have HX := Lib.hid hx
      have CO := Lib.hid (fun V => coord_c hr V)
      clear hcl hgd hr hx
      go_wp2_with fail
      refine (CO.out _).mono ?_
      rintro e w2 ⟨rfl, rfl⟩
      cases r with
      | false =>
        have HV : Hid (AX.coords l = false) := Lib.hid (by
          unfold AX.coords
          rw [Bool.and_eq_false_iff]
          left
          rw [List.all_eq_false]
          exact ⟨x, List.mem_of_getElem? HX.out, by rw [HR.out]; simp⟩)
        go_wp2
        go_ret
        exact ⟨by rw [HV.out]; rfl, rfl⟩
      | true =>
        have HYES : Hid (∀ (j : Nat) (y : Int), j < i + 1 → l[j]? = some y → AX.coord y = true) := Lib.hid (fun j y hj hy => by
          by_cases hji : j = i
          · subst hji
            rw [HX.out] at hy
            rw [← Option.some.inj hy]
            exact HR.out
          · exact hyes.out j y (by omega) hy)
        go_wp2_with fail
        go_roundw
        case rel => exact ⟨i + 1, by go_num, hin, HYES, by first | rfl | trivial⟩
        case measure => simp [intOf]; omega
    · obtain rfl : i = n := by omega
      have HV : Hid (AX.coords l = decide ((i : Int) ≤ 3)) := Lib.hid (by
        unfold AX.coords
        have h1 : l.all AX.coord = true := by
          rw [List.all_eq_true]
          intro x hx
          obtain ⟨j, hj, rfl⟩ := List.mem_iff_getElem.1 hx
          exact hyes.out j _ (by rw [HN.out] at hj; exact hj) (List.getElem?_eq_getElem hj)
        rw [h1, HN.out, Bool.true_and]
        exact decide_eq_decide.2 (by omega))
      by_cases h3 : (i : Int) ≤ 3
      · go_wp2
        go_ret
        exact ⟨by rw [HV.out, decide_eq_true h3]; rfl, rfl⟩
      · go_wp2
        go_ret
        exact ⟨by rw [HV.out, decide_eq_false (show ¬ (i : Int) ≤ 3 by omega)]; rfl, rfl⟩
theorem tent_any (f p q : Int) (w : World) : Calls Try.prog 73 #[.agg #[.int .i64 f, .int .i64 p, .int .i64 q]] w fun e w' => e = .returned (.bool (AX.tent (f, p, q))) ∧ Below w.heap.size w w' := by
  cases k1 : AX.coord f with
  | false =>
    have HV : Hid (AX.tent (f, p, q) = false) := Lib.hid (by rw [Bool.eq_false_iff]; intro h; obtain ⟨h1, h2, h3, h4, h5⟩ := (AX.tent_iff _).1 h; have := (AX.coord_iff f).2 h1; rw [k1] at this; simp at this)
    go_enter Try.func73, Try.ntmps73
    go_wp2_with (first | (go_at_call 90; refine (coord_c (by with_reducible assumption) _).mono ?_; rintro e w' ⟨rfl, rfl⟩))
    go_ret
    exact ⟨by rw [HV.out]; first | rfl | (exact retb (by simp <;> omega)), balloc (Below.refl _ _) _⟩
  | true =>
    cases k2 : AX.coord q with
    | false =>
      have HV : Hid (AX.tent (f, p, q) = false) := Lib.hid (by rw [Bool.eq_false_iff]; intro h; obtain ⟨h1, h2, h3, h4, h5⟩ := (AX.tent_iff _).1 h; have := (AX.coord_iff q).2 h2; rw [k2] at this; simp at this)
      go_enter Try.func73, Try.ntmps73
      go_wp2_with (first | (go_at_call 90; refine (coord_c (by with_reducible assumption) _).mono ?_; rintro e w' ⟨rfl, rfl⟩))
      go_ret
      exact ⟨by rw [HV.out]; first | rfl | (exact retb (by simp <;> omega)), balloc (Below.refl _ _) _⟩
    | true =>
      by_cases k3 : p < f
      · -- the peak lies before
        have HV : Hid (AX.tent (f, p, q) = false) := Lib.hid (by rw [Bool.eq_false_iff]; intro h; obtain ⟨h1, h2, h3, h4, h5⟩ := (AX.tent_iff _).1 h; simp only at h1 h2 h3 h4 h5; omega)
        go_enter Try.func73, Try.ntmps73
        go_wp2_with (first | (go_at_call 90; refine (coord_c (by with_reducible assumption) _).mono ?_; rintro e w' ⟨rfl, rfl⟩))
        go_ret
        exact ⟨by rw [HV.out]; first | rfl | (exact retb (by simp <;> omega)), balloc (Below.refl _ _) _⟩
      · by_cases k4 : q < p
        · -- the peak lies behind
          have HV : Hid (AX.tent (f, p, q) = false) := Lib.hid (by rw [Bool.eq_false_iff]; intro h; obtain ⟨h1, h2, h3, h4, h5⟩ := (AX.tent_iff _).1 h; simp only at h1 h2 h3 h4 h5; omega)
          go_enter Try.func73, Try.ntmps73
          go_wp2_with (first | (go_at_call 90; refine (coord_c (by with_reducible assumption) _).mono ?_; rintro e w' ⟨rfl, rfl⟩))
          go_ret
          exact ⟨by rw [HV.out]; first | rfl | (exact retb (by simp <;> omega)), balloc (Below.refl _ _) _⟩
        · by_cases k5 : p = 0
          · have q5 : (p == 0) = true := by simpa using k5
            have HV : Hid (AX.tent (f, p, q) = true) := Lib.hid (by rw [AX.tent_iff]; have e1 := (AX.coord_iff f).1 k1; have e2 := (AX.coord_iff q).1 k2; simp only; omega)
            go_enter Try.func73, Try.ntmps73
            go_wp2_with (first | (go_at_call 90; refine (coord_c (by with_reducible assumption) _).mono ?_; rintro e w' ⟨rfl, rfl⟩))
            go_ret
            exact ⟨by rw [HV.out]; first | rfl | (exact retb (by simp <;> omega)), balloc (Below.refl _ _) _⟩
          · have q5 : (p == 0) = false := by simpa using k5
            by_cases k6 : 0 ≤ f
            · -- on one side
              have HV : Hid (AX.tent (f, p, q) = true) := Lib.hid (by rw [AX.tent_iff]; have e1 := (AX.coord_iff f).1 k1; have e2 := (AX.coord_iff q).1 k2; simp only; omega)
              go_enter Try.func73, Try.ntmps73
              go_wp2_with (first | (go_at_call 90; refine (coord_c (by with_reducible assumption) _).mono ?_; rintro e w' ⟨rfl, rfl⟩))
              go_ret
              exact ⟨by rw [HV.out]; first | rfl | (exact retb (by simp <;> omega)), balloc (Below.refl _ _) _⟩
            · by_cases k7 : q ≤ 0
              · -- on the other side
                have HV : Hid (AX.tent (f, p, q) = true) := Lib.hid (by rw [AX.tent_iff]; have e1 := (AX.coord_iff f).1 k1; have e2 := (AX.coord_iff q).1 k2; simp only; omega)
                go_enter Try.func73, Try.ntmps73
                go_wp2_with (first | (go_at_call 90; refine (coord_c (by with_reducible assumption) _).mono ?_; rintro e w' ⟨rfl, rfl⟩))
                go_ret
                exact ⟨by rw [HV.out]; first | rfl | (exact retb (by simp <;> omega)), balloc (Below.refl _ _) _⟩
              · -- on both
                have HV : Hid (AX.tent (f, p, q) = false) := Lib.hid (by rw [Bool.eq_false_iff]; intro h; obtain ⟨h1, h2, h3, h4, h5⟩ := (AX.tent_iff _).1 h; simp only at h1 h2 h3 h4 h5; omega)
                go_enter Try.func73, Try.ntmps73
                go_wp2_with (first | (go_at_call 90; refine (coord_c (by with_reducible assumption) _).mono ?_; rintro e w' ⟨rfl, rfl⟩))
                go_ret
                exact ⟨by rw [HV.out]; first | rfl | (exact retb (by simp <;> omega)), balloc (Below.refl _ _) _⟩
/-- A scalar in a block of its own. -/
def ScB (V : World) (g : Nat) (p : Int × Int) : Prop := V.heap[g]? = some (.cells #[.int .i64 p.1, .int .i64 p.2] 65 (0, 0))
theorem ScB.lt {V : World} {g : Nat} {p : Int × Int} (h : ScB V g p) : g < V.heap.size := (Array.getElem?_eq_some_iff.1 h).1
theorem ScB.keep {V V' : World} {g : Nat} {p : Int × Int} (h : ScB V g p) (hb : Below V.heap.size V V') : ScB V' g p := (hb.block g h.lt).trans h
theorem ScB.cells {V : World} {g : Nat} {p : Int × Int} (h : ScB V g p) : V.cell? ⟨g, 0, none⟩ = some (.int .i64 p.1) ∧ V.cell? ⟨g, 1, none⟩ = some (.int .i64 p.2) := by
  unfold ScB at h
  constructor <;> simp [World.cell?, h]
theorem ScB.frozen {V : World} {g : Nat} {p : Int × Int} (h : ScB V g p) (j : Nat) : V.frozen? ⟨g, j, none⟩ = false := by
  unfold ScB at h
  simp [World.frozen?, h]
theorem ScB.put {V : World} {g : Nat} {p : Int × Int} (h : ScB V g p) (q : Int × Int) : ScB ((V.setCell ⟨g, 0, none⟩ (.int .i64 q.1)).setCell ⟨g, 1, none⟩ (.int .i64 q.2)) g q :=
  heap_setCell_same _ g 1 _ 65 (.int .i64 q.2) (heap_setCell_same V g 0 _ 65 (.int .i64 q.1) h)
theorem tent_c {t : AX.Tn} {r : Bool} (h : AX.tent t = r) (w : World) : Calls Try.prog 73 #[.agg #[.int .i64 t.1, .int .i64 t.2.1, .int .i64 t.2.2]] w fun e w' => e = .returned (.bool r) ∧ Below w.heap.size w w' := by
  have := tent_any t.1 t.2.1 t.2.2 w
  rwa [show AX.tent (t.1, t.2.1, t.2.2) = r from h] at this
set_option maxHeartbeats 2000000 in
theorem fr_any (a b : Int) (w : World) (a0 : 0 ≤ a) (b0 : 0 ≤ b) (ab : 0 < a + b) (a1 : a ≤ 1000000000) (b1 : b ≤ 1000000000) :
    Calls Try.prog 58 #[.int .i64 a, .int .i64 b] w fun e w' => e = .returned (.agg #[.int .i64 (AX.fr a b).1, .int .i64 (AX.fr a b).2]) ∧ Below w.heap.size w w' := by
  obtain ⟨a, rfl⟩ := Int.eq_ofNat_of_zero_le a0
  obtain ⟨b, rfl⟩ := Int.eq_ofNat_of_zero_le b0
  go_enter Try.func58, Try.ntmps58
  go_wp2_with fail
  obtain ⟨W0, hW0⟩ : ∃ W0, w.alloc (.cells #[.int .i64 0, .int .i64 0] 65) = W0 := ⟨_, rfl⟩
  obtain ⟨B, hB⟩ : ∃ B, w.heap.size = B := ⟨_, rfl⟩
  have hbx : W0.heap[B]? = some (.cells #[.int .i64 0, .int .i64 0] 65 (0, 0)) := by rw [← hW0, ← hB]; exact heap_alloc_new w _
  have hb0 : Below w.heap.size w W0 := by rw [← hW0]; exact balloc (Below.refl _ _) _
  rw [hW0, hB]
  have HB := Lib.hid hB
  have HB0 := Lib.hid hb0
  have HBX := Lib.hid hbx
  clear hW0 hB hb0 hbx
  go_loopw [5, 6] (fun x y wr => ∃ p q : Nat, p ≤ 1000000000 ∧ q ≤ 1000000000 ∧ x = .int .i64 p ∧ y = .int .i64 q ∧ Hid (Nat.gcd p q = Nat.gcd a b) ∧ Below W0.heap.size W0 wr) (fun _ y _ => (intOf y).toNat)
  case atStart => exact ⟨a, b, by omega, by omega, rfl, rfl, rfl, Below.refl _ _⟩
  case round =>
    obtain ⟨p, q, p1, q1, rfl, rfl, hg, hb⟩ := hrel
    by_cases hq : 0 < q
    · have m1 : p % q < q := Nat.mod_lt _ hq
      have HM : Hid (((p : Int) % (q : Int)) = ((p % q : Nat) : Int)) := by show _ = _; simp
      have hz : ((q : Int) != 0) = true := by rw [bne_iff_ne]; omega
      go_wp2
      go_quiet (fail)
      go_wp2
      go_roundw
      case rel => exact ⟨q, p % q, by omega, by omega, rfl, by rw [HM.out], by have := hg.out; show _ = _; rw [← this]; exact F.FP.gc_step p q, below_drewN hb _⟩
      case measure => rw [HM.out]; simp [intOf]; omega
    · obtain rfl : q = 0 := by omega
      have hgc : F.FP.gc (a : Int) (b : Int) = (p : Int) := by
        have h1 := hg.out
        unfold F.FP.gc
        simp at h1
        simp [h1]
      have hp0 : 0 < p := by
        have h1 := hg.out
        simp at h1
        rw [h1]
        rcases Nat.eq_zero_or_pos a with h | h
        · exact Nat.gcd_pos_of_pos_right _ (by omega)
        · exact Nat.gcd_pos_of_pos_left _ h
      have HGC := Lib.hid hgc
      have hpi : (0 : Int) < (p : Int) := by omega
      have hpn : ¬ (p : Int) = 0 := by omega
      have hd1 : ((a : Int)).tdiv (p : Int) = (a : Int) / (p : Int) := Int.tdiv_eq_ediv_of_nonneg (by omega)
      have hd2 : ((b : Int)).tdiv (p : Int) = (b : Int) / (p : Int) := Int.tdiv_eq_ediv_of_nonneg (by omega)
      have q0 : 0 ≤ (a : Int) / (p : Int) := Int.ediv_nonneg (by omega) (by omega)
      have q1' : (a : Int) / (p : Int) ≤ (a : Int) := Int.ediv_le_self _ (by omega)
      have q2 : 0 ≤ (b : Int) / (p : Int) := Int.ediv_nonneg (by omega) (by omega)
      have q3 : (b : Int) / (p : Int) ≤ (b : Int) := Int.ediv_le_self _ (by omega)
      have hbx := (hb.block B (Array.getElem?_eq_some_iff.1 HBX.out).1).trans HBX.out
      have x0 : wr.cell? ⟨B, 0, none⟩ = some (.int .i64 0) := by simp [World.cell?, hbx]
      have x1 : wr.cell? ⟨B, 1, none⟩ = some (.int .i64 0) := by simp [World.cell?, hbx]
      have f0 : wr.frozen? ⟨B, 0, none⟩ = false := by simp [World.frozen?, hbx]
      have f1 : wr.frozen? ⟨B, 1, none⟩ = false := by simp [World.frozen?, hbx]
      go_wp2_with fail
      go_region
      have hz : (((wr.setCell ⟨B, 0, none⟩ (.int .i64 ((a : Int) / (p : Int)))).setCell ⟨B, 1, none⟩ (.int .i64 ((b : Int) / (p : Int)))).drew).heap[B]? = some (.cells #[.int .i64 ((a : Int) / (p : Int)), .int .i64 ((b : Int) / (p : Int))] 65 (0, 0)) := ScB.put (p := (0, 0)) hbx ((a : Int) / (p : Int), (b : Int) / (p : Int))
      have HZ := Lib.hid hz
      have HBR := Lib.hid (bset (bset (bnext HB0.out hb) (p := ⟨B, 0, none⟩) (by rw [← HB.out]; exact Nat.le_refl _) (.int .i64 ((a : Int) / (p : Int)))) (p := ⟨B, 1, none⟩) (by rw [← HB.out]; exact Nat.le_refl _) (.int .i64 ((b : Int) / (p : Int))))
      clear hz hbx x0 x1 f0 f1
      go_wp2
      refine bodyPost_ret (v := .agg #[.int .i64 ((a : Int) / (p : Int)), .int .i64 ((b : Int) / (p : Int))]) (results_cell_row Try.results58 _ _ B 65 _ (0, 0) _ rfl HZ.out Try.underlying65 rfl (by kernel_rfl)) rfl ?_
      exact ⟨by unfold AX.fr; rw [HGC.out], HBR.out.drew⟩
theorem fr_c {a b : Int} {r : Int × Int} (h : AX.fr a b = r) (w : World) (a0 : 0 ≤ a) (b0 : 0 ≤ b) (ab : 0 < a + b) (a1 : a ≤ 1000000000) (b1 : b ≤ 1000000000) :
    Calls Try.prog 58 #[.int .i64 a, .int .i64 b] w fun e w' => e = .returned (.agg #[.int .i64 r.1, .int .i64 r.2]) ∧ Below w.heap.size w w' := by
  have := fr_any a b w a0 b0 ab a1 b1
  rwa [h] at this
set_option maxHeartbeats 4000000 in
theorem str_any (t : AX.Tn) (n : Int) (w : World) (ht : AX.tent t = true) (hn : AX.coord n = true) :
    Calls Try.prog 61 #[.agg #[.int .i64 t.1, .int .i64 t.2.1, .int .i64 t.2.2], .int .i64 n] w fun e w' => e = .returned (.agg #[.int .i64 (AX.strength t n).1, .int .i64 (AX.strength t n).2]) ∧ Below w.heap.size w w' := by
  obtain ⟨f, p, q⟩ := t
  obtain ⟨t1, t2, t3, t4, -⟩ := (AX.tent_iff _).1 ht
  have n1 := (AX.coord_iff n).1 hn
  simp only at t1 t2 t3 t4 ⊢
  clear ht hn
  by_cases k1 : p = 0
  · have q1 : (p == 0) = true := by simpa using k1
    have K1 := Lib.hid k1
    clear k1
    have HS : Hid (AX.strength (f, p, q) n = AX.fr (1) (1)) := Lib.hid (by unfold AX.strength; simp only; rw [if_pos (.inl K1.out), AX.fr_one])
    obtain ⟨r, hr⟩ : ∃ r, AX.fr (1) (1) = r := ⟨_, rfl⟩
    rw [HS.out, hr]
    go_enter Try.func61, Try.ntmps61
    go_wp2_with fail
    refine (fr_c hr _ (by omega) (by omega) (by omega) (by omega) (by omega)).mono ?_
    rintro e w2 ⟨rfl, hb⟩
    have hsb : ScB ((w.alloc (.cells #[.int .i64 f, .int .i64 p, .int .i64 q] 119)).alloc (.cells #[.int .i64 0, .int .i64 0] 65)) (w.heap.size + 1) (0, 0) := by
      have := heap_alloc_new (w.alloc (.cells #[.int .i64 f, .int .i64 p, .int .i64 q] 119)) (.cells #[.int .i64 0, .int .i64 0] 65)
      rw [World.size_alloc] at this
      exact this
    have hs2 := hsb.keep hb
    have hbw : Below w.heap.size w w2 := bnext (balloc (balloc (Below.refl _ _) _) _) hb
    obtain ⟨B, hB⟩ : ∃ B, w.heap.size + 1 = B := ⟨_, rfl⟩
    rw [hB] at hs2 ⊢
    obtain ⟨x0, x1⟩ := hs2.cells
    have f0 := hs2.frozen 0
    have f1 := hs2.frozen 1
    have HZ := Lib.hid (hs2.put r)
    have HBR := Lib.hid (bset (bset hbw (p := ⟨B, 0, none⟩) (by show w.heap.size ≤ B; omega) (.int .i64 r.1)) (p := ⟨B, 1, none⟩) (by show w.heap.size ≤ B; omega) (.int .i64 r.2))
    clear hsb hs2 hb hbw hB hr
    go_wp2
    refine bodyPost_ret (v := .agg #[.int .i64 r.1, .int .i64 r.2]) (results_cell_row Try.results61 _ _ B 65 _ (0, 0) _ rfl HZ.out Try.underlying65 rfl (by kernel_rfl)) rfl ?_
    exact ⟨rfl, HBR.out⟩
  · have q1 : (p == 0) = false := by simpa using k1
    by_cases k2 : n = p
    · have q2 : (n == p) = true := by simpa using k2
      have K2 := Lib.hid k2
      clear k2
      have HS : Hid (AX.strength (f, p, q) n = AX.fr (1) (1)) := Lib.hid (by unfold AX.strength; simp only; rw [if_pos (.inr K2.out), AX.fr_one])
      obtain ⟨r, hr⟩ : ∃ r, AX.fr (1) (1) = r := ⟨_, rfl⟩
      rw [HS.out, hr]
      go_enter Try.func61, Try.ntmps61
      go_wp2_with fail
      refine (fr_c hr _ (by omega) (by omega) (by omega) (by omega) (by omega)).mono ?_
      rintro e w2 ⟨rfl, hb⟩
      have hsb : ScB ((w.alloc (.cells #[.int .i64 f, .int .i64 p, .int .i64 q] 119)).alloc (.cells #[.int .i64 0, .int .i64 0] 65)) (w.heap.size + 1) (0, 0) := by
        have := heap_alloc_new (w.alloc (.cells #[.int .i64 f, .int .i64 p, .int .i64 q] 119)) (.cells #[.int .i64 0, .int .i64 0] 65)
        rw [World.size_alloc] at this
        exact this
      have hs2 := hsb.keep hb
      have hbw : Below w.heap.size w w2 := bnext (balloc (balloc (Below.refl _ _) _) _) hb
      obtain ⟨B, hB⟩ : ∃ B, w.heap.size + 1 = B := ⟨_, rfl⟩
      rw [hB] at hs2 ⊢
      obtain ⟨x0, x1⟩ := hs2.cells
      have f0 := hs2.frozen 0
      have f1 := hs2.frozen 1
      have HZ := Lib.hid (hs2.put r)
      have HBR := Lib.hid (bset (bset hbw (p := ⟨B, 0, none⟩) (by show w.heap.size ≤ B; omega) (.int .i64 r.1)) (p := ⟨B, 1, none⟩) (by show w.heap.size ≤ B; omega) (.int .i64 r.2))
      clear hsb hs2 hb hbw hB hr
      go_wp2
      refine bodyPost_ret (v := .agg #[.int .i64 r.1, .int .i64 r.2]) (results_cell_row Try.results61 _ _ B 65 _ (0, 0) _ rfl HZ.out Try.underlying65 rfl (by kernel_rfl)) rfl ?_
      exact ⟨rfl, HBR.out⟩
    · have q2 : (n == p) = false := by simpa using k2
      have hno : ¬ (p = 0 ∨ n = p) := by omega
      by_cases k3 : n ≤ f
      · have HNO := Lib.hid hno
        clear hno
        have HS : Hid (AX.strength (f, p, q) n = AX.fr (0) (1)) := Lib.hid (by unfold AX.strength; simp only; rw [if_neg HNO.out, if_pos (.inl k3), AX.fr_zero])
        obtain ⟨r, hr⟩ : ∃ r, AX.fr (0) (1) = r := ⟨_, rfl⟩
        rw [HS.out, hr]
        go_enter Try.func61, Try.ntmps61
        go_wp2_with fail
        refine (fr_c hr _ (by omega) (by omega) (by omega) (by omega) (by omega)).mono ?_
        rintro e w2 ⟨rfl, hb⟩
        have hsb : ScB ((w.alloc (.cells #[.int .i64 f, .int .i64 p, .int .i64 q] 119)).alloc (.cells #[.int .i64 0, .int .i64 0] 65)) (w.heap.size + 1) (0, 0) := by
          have := heap_alloc_new (w.alloc (.cells #[.int .i64 f, .int .i64 p, .int .i64 q] 119)) (.cells #[.int .i64 0, .int .i64 0] 65)
          rw [World.size_alloc] at this
          exact this
        have hs2 := hsb.keep hb
        have hbw : Below w.heap.size w w2 := bnext (balloc (balloc (Below.refl _ _) _) _) hb
        obtain ⟨B, hB⟩ : ∃ B, w.heap.size + 1 = B := ⟨_, rfl⟩
        rw [hB] at hs2 ⊢
        obtain ⟨x0, x1⟩ := hs2.cells
        have f0 := hs2.frozen 0
        have f1 := hs2.frozen 1
        have HZ := Lib.hid (hs2.put r)
        have HBR := Lib.hid (bset (bset hbw (p := ⟨B, 0, none⟩) (by show w.heap.size ≤ B; omega) (.int .i64 r.1)) (p := ⟨B, 1, none⟩) (by show w.heap.size ≤ B; omega) (.int .i64 r.2))
        clear hsb hs2 hb hbw hB hr
        go_wp2
        refine bodyPost_ret (v := .agg #[.int .i64 r.1, .int .i64 r.2]) (results_cell_row Try.results61 _ _ B 65 _ (0, 0) _ rfl HZ.out Try.underlying65 rfl (by kernel_rfl)) rfl ?_
        exact ⟨rfl, HBR.out⟩
      · by_cases k4 : q ≤ n
        · have HNO := Lib.hid hno
          clear hno
          have HS : Hid (AX.strength (f, p, q) n = AX.fr (0) (1)) := Lib.hid (by unfold AX.strength; simp only; rw [if_neg HNO.out, if_pos (.inr k4), AX.fr_zero])
          obtain ⟨r, hr⟩ : ∃ r, AX.fr (0) (1) = r := ⟨_, rfl⟩
          rw [HS.out, hr]
          go_enter Try.func61, Try.ntmps61
          go_wp2_with fail
          refine (fr_c hr _ (by omega) (by omega) (by omega) (by omega) (by omega)).mono ?_
          rintro e w2 ⟨rfl, hb⟩
          have hsb : ScB ((w.alloc (.cells #[.int .i64 f, .int .i64 p, .int .i64 q] 119)).alloc (.cells #[.int .i64 0, .int .i64 0] 65)) (w.heap.size + 1) (0, 0) := by
            have := heap_alloc_new (w.alloc (.cells #[.int .i64 f, .int .i64 p, .int .i64 q] 119)) (.cells #[.int .i64 0, .int .i64 0] 65)
            rw [World.size_alloc] at this
            exact this
          have hs2 := hsb.keep hb
          have hbw : Below w.heap.size w w2 := bnext (balloc (balloc (Below.refl _ _) _) _) hb
          obtain ⟨B, hB⟩ : ∃ B, w.heap.size + 1 = B := ⟨_, rfl⟩
          rw [hB] at hs2 ⊢
          obtain ⟨x0, x1⟩ := hs2.cells
          have f0 := hs2.frozen 0
          have f1 := hs2.frozen 1
          have HZ := Lib.hid (hs2.put r)
          have HBR := Lib.hid (bset (bset hbw (p := ⟨B, 0, none⟩) (by show w.heap.size ≤ B; omega) (.int .i64 r.1)) (p := ⟨B, 1, none⟩) (by show w.heap.size ≤ B; omega) (.int .i64 r.2))
          clear hsb hs2 hb hbw hB hr
          go_wp2
          refine bodyPost_ret (v := .agg #[.int .i64 r.1, .int .i64 r.2]) (results_cell_row Try.results61 _ _ B 65 _ (0, 0) _ rfl HZ.out Try.underlying65 rfl (by kernel_rfl)) rfl ?_
          exact ⟨rfl, HBR.out⟩
        · have HNO := Lib.hid hno
          have HN2 : Hid (¬ (n ≤ f ∨ q ≤ n)) := Lib.hid (by omega)
          clear hno
          by_cases k5 : n < p
          · -- before the peak
            have HS : Hid (AX.strength (f, p, q) n = AX.fr (n - f) (p - f)) := Lib.hid (by unfold AX.strength; simp only; rw [if_neg HNO.out, if_neg HN2.out, if_pos k5])
            obtain ⟨r, hr⟩ : ∃ r, AX.fr (n - f) (p - f) = r := ⟨_, rfl⟩
            rw [HS.out, hr]
            go_enter Try.func61, Try.ntmps61
            go_wp2_with fail
            refine (fr_c hr _ (by omega) (by omega) (by omega) (by omega) (by omega)).mono ?_
            rintro e w2 ⟨rfl, hb⟩
            have hsb : ScB ((w.alloc (.cells #[.int .i64 f, .int .i64 p, .int .i64 q] 119)).alloc (.cells #[.int .i64 0, .int .i64 0] 65)) (w.heap.size + 1) (0, 0) := by
              have := heap_alloc_new (w.alloc (.cells #[.int .i64 f, .int .i64 p, .int .i64 q] 119)) (.cells #[.int .i64 0, .int .i64 0] 65)
              rw [World.size_alloc] at this
              exact this
            have hs2 := hsb.keep hb
            have hbw : Below w.heap.size w w2 := bnext (balloc (balloc (Below.refl _ _) _) _) hb
            obtain ⟨B, hB⟩ : ∃ B, w.heap.size + 1 = B := ⟨_, rfl⟩
            rw [hB] at hs2 ⊢
            obtain ⟨x0, x1⟩ := hs2.cells
            have f0 := hs2.frozen 0
            have f1 := hs2.frozen 1
            have HZ := Lib.hid (hs2.put r)
            have HBR := Lib.hid (bset (bset hbw (p := ⟨B, 0, none⟩) (by show w.heap.size ≤ B; omega) (.int .i64 r.1)) (p := ⟨B, 1, none⟩) (by show w.heap.size ≤ B; omega) (.int .i64 r.2))
            clear hsb hs2 hb hbw hB hr
            go_wp2
            refine bodyPost_ret (v := .agg #[.int .i64 r.1, .int .i64 r.2]) (results_cell_row Try.results61 _ _ B 65 _ (0, 0) _ rfl HZ.out Try.underlying65 rfl (by kernel_rfl)) rfl ?_
            exact ⟨rfl, HBR.out⟩
          · -- behind it
            have HS : Hid (AX.strength (f, p, q) n = AX.fr (q - n) (q - p)) := Lib.hid (by unfold AX.strength; simp only; rw [if_neg HNO.out, if_neg HN2.out, if_neg k5])
            obtain ⟨r, hr⟩ : ∃ r, AX.fr (q - n) (q - p) = r := ⟨_, rfl⟩
            rw [HS.out, hr]
            go_enter Try.func61, Try.ntmps61
            go_wp2_with fail
            refine (fr_c hr _ (by omega) (by omega) (by omega) (by omega) (by omega)).mono ?_
            rintro e w2 ⟨rfl, hb⟩
            have hsb : ScB ((w.alloc (.cells #[.int .i64 f, .int .i64 p, .int .i64 q] 119)).alloc (.cells #[.int .i64 0, .int .i64 0] 65)) (w.heap.size + 1) (0, 0) := by
              have := heap_alloc_new (w.alloc (.cells #[.int .i64 f, .int .i64 p, .int .i64 q] 119)) (.cells #[.int .i64 0, .int .i64 0] 65)
              rw [World.size_alloc] at this
              exact this
            have hs2 := hsb.keep hb
            have hbw : Below w.heap.size w w2 := bnext (balloc (balloc (Below.refl _ _) _) _) hb
            obtain ⟨B, hB⟩ : ∃ B, w.heap.size + 1 = B := ⟨_, rfl⟩
            rw [hB] at hs2 ⊢
            obtain ⟨x0, x1⟩ := hs2.cells
            have f0 := hs2.frozen 0
            have f1 := hs2.frozen 1
            have HZ := Lib.hid (hs2.put r)
            have HBR := Lib.hid (bset (bset hbw (p := ⟨B, 0, none⟩) (by show w.heap.size ≤ B; omega) (.int .i64 r.1)) (p := ⟨B, 1, none⟩) (by show w.heap.size ≤ B; omega) (.int .i64 r.2))
            clear hsb hs2 hb hbw hB hr
            go_wp2
            refine bodyPost_ret (v := .agg #[.int .i64 r.1, .int .i64 r.2]) (results_cell_row Try.results61 _ _ B 65 _ (0, 0) _ rfl HZ.out Try.underlying65 rfl (by kernel_rfl)) rfl ?_
            exact ⟨rfl, HBR.out⟩
end Go.Proofs.Ytanppbdlcinpfaa
end
/- Rows of tents and of ranges; Right and Ranges of the program. No conditions. -/
section
namespace Go.Proofs.Ytanppbdlcinpfaa.AX
abbrev Pr := Int × Int
def rng (p : Pr) : Bool := coord p.1 && (coord p.2 && decide (p.1 ≤ p.2))
theorem rng_iff (p : Pr) : rng p = true ↔ (-64 ≤ p.1 ∧ p.1 ≤ 64) ∧ (-64 ≤ p.2 ∧ p.2 ≤ 64) ∧ p.1 ≤ p.2 := by
  unfold rng
  rw [Bool.and_eq_true, Bool.and_eq_true, coord_iff, coord_iff, decide_eq_true_iff]
def ranges (l : List Pr) (n : Int) : Bool := decide (0 ≤ n ∧ n ≤ 3 ∧ (l.length : Int) = n) && l.all rng
theorem right_iff (l : List Tn) (n : Int) : right l n = true ↔ (0 ≤ n ∧ n ≤ 3 ∧ (l.length : Int) = n) ∧ ∀ t ∈ l, tent t = true := by
  unfold right
  rw [Bool.and_eq_true, decide_eq_true_iff, List.all_eq_true]
theorem ranges_iff (l : List Pr) (n : Int) : ranges l n = true ↔ (0 ≤ n ∧ n ≤ 3 ∧ (l.length : Int) = n) ∧ ∀ t ∈ l, rng t = true := by
  unfold ranges
  rw [Bool.and_eq_true, decide_eq_true_iff, List.all_eq_true]
theorem coords_iff (l : List Int) : coords l = true ↔ (∀ n ∈ l, coord n = true) ∧ l.length ≤ 3 := by
  unfold coords
  rw [Bool.and_eq_true, decide_eq_true_iff, List.all_eq_true]
end Go.Proofs.Ytanppbdlcinpfaa.AX
namespace Go.Proofs.Ytanppbdlcinpfaa
set_option maxRecDepth 100000
set_option linter.unusedVariables false
open Go.RowKit Go.Deep
/-- A row of tents. -/
def TnAt (W : World) (v : Value) (l : List AX.Tn) : Prop := ∃ a cap, v = .slice a l.length cap ∧ (l = [] ∨ ∃ g o, a = some ⟨g, o, none⟩ ∧ g < W.heap.size ∧ ∀ i z, l[i]? = some z → W.cell? ⟨g, o + i * 3, none⟩ = some (.int .i64 z.1) ∧ W.cell? ⟨g, o + i * 3 + 1, none⟩ = some (.int .i64 z.2.1) ∧ W.cell? ⟨g, o + i * 3 + 2, none⟩ = some (.int .i64 z.2.2))
theorem TnAt.keep {W W' : World} {v : Value} {l : List AX.Tn} (h : TnAt W v l) (hb : Below W.heap.size W W') : TnAt W' v l := by
  obtain ⟨a, cap, e, h⟩ := h
  refine ⟨a, cap, e, ?_⟩
  rcases h with h | ⟨g, o, e2, hg, hc⟩
  · exact .inl h
  · refine .inr ⟨g, o, e2, Nat.lt_of_lt_of_le hg hb.size, fun i z hz => ?_⟩
    obtain ⟨c1, c2, c3⟩ := hc i z hz
    exact ⟨(hb.cell (p := ⟨g, o + i * 3, none⟩) hg).trans c1, (hb.cell (p := ⟨g, o + i * 3 + 1, none⟩) hg).trans c2, (hb.cell (p := ⟨g, o + i * 3 + 2, none⟩) hg).trans c3⟩
/-- A row of pairs. -/
def PrAt (W : World) (v : Value) (l : List AX.Pr) : Prop := ∃ a c, v = .slice a l.length c ∧ (l = [] ∨ ∃ g o, a = some ⟨g, o, none⟩ ∧ g < W.heap.size ∧ ∀ i x, l[i]? = some x → W.cell? ⟨g, o + i * 2, none⟩ = some (.int .i64 x.1) ∧ W.cell? ⟨g, o + i * 2 + 1, none⟩ = some (.int .i64 x.2))
theorem PrAt.keep {W W' : World} {v : Value} {l : List AX.Pr} (h : PrAt W v l) (hb : Below W.heap.size W W') : PrAt W' v l := by
  obtain ⟨a, c, e, h⟩ := h
  refine ⟨a, c, e, ?_⟩
  rcases h with h | ⟨g, o, e2, hg, hc⟩
  · exact .inl h
  · exact .inr ⟨g, o, e2, Nat.lt_of_lt_of_le hg hb.size, fun i x hx => ⟨(hb.cell (p := ⟨g, o + i * 2, none⟩) hg).trans (hc i x hx).1, (hb.cell (p := ⟨g, o + i * 2 + 1, none⟩) hg).trans (hc i x hx).2⟩⟩
theorem all_upto {α : Type} {f : α → Bool} {l : List α} {n : Nat} (hn : l.length = n) (h : ∀ (j : Nat) (x : α), j < n → l[j]? = some x → f x = true) : ∀ x ∈ l, f x = true := by
  intro x hx
  obtain ⟨j, hj, rfl⟩ := List.mem_iff_getElem.1 hx
  exact h j _ (by omega) (List.getElem?_eq_getElem hj)
set_option maxHeartbeats 4000000 in
theorem right_any (l : List AX.Tn) (v : Value) (k : Int) (w : World) (hl : l.length ≤ 1000000000000) (hv : TnAt w v l) :
    Calls Try.prog 34 #[.agg #[v], .int .i64 k] w fun e w' => e = .returned (.bool (AX.right l k)) ∧ Below w.heap.size w w' := by
  have HV : Hid (∀ V, Below w.heap.size w V → TnAt V v l) := Lib.hid fun V hV => hv.keep hV
  obtain ⟨a, cap, rfl, hc⟩ := hv
  obtain ⟨n, hn⟩ : ∃ n, l.length = n := ⟨_, rfl⟩
  have HN := Lib.hid hn
  rw [hn] at hl HV ⊢
  clear hc hn
  by_cases k1 : k < 0
  · have HF : Hid (AX.right l k = false) := Lib.hid (by rw [Bool.eq_false_iff]; intro h; have := ((AX.right_iff l k).1 h).1; omega)
    go_enter Try.func34, Try.ntmps34
    go_wp2
    go_ret
    exact ⟨by rw [HF.out]; rfl, balloc (Below.refl _ _) _⟩
  by_cases k2 : 3 < k
  · have HF : Hid (AX.right l k = false) := Lib.hid (by rw [Bool.eq_false_iff]; intro h; have := ((AX.right_iff l k).1 h).1; omega)
    go_enter Try.func34, Try.ntmps34
    go_wp2
    go_ret
    exact ⟨by rw [HF.out]; rfl, balloc (Below.refl _ _) _⟩
  by_cases k3 : (n : Int) = k
  · subst k3
    have k4 : ((n : Int) != (n : Int)) = false := by simp
    go_enter Try.func34, Try.ntmps34
    go_wp2_with fail
    go_loopw [23] (fun v wr => ∃ i : Nat, v = .int .i64 (i : Int) ∧ i ≤ n ∧ Hid (∀ (j : Nat) (x : AX.Tn), j < i → l[j]? = some x → AX.tent x = true) ∧ Below w.heap.size w wr) (fun v _ => n - (intOf v).toNat)
    case atStart => exact ⟨0, rfl, Nat.zero_le _, Lib.hid (fun j x hj => absurd hj (Nat.not_lt_zero _)), balloc (Below.refl _ _) _⟩
    case round =>
      obtain ⟨i, rfl, hi, hyes, hb⟩ := hrel
      have HB := Lib.hid hb
      by_cases hin : i < n
      · have hii : (i : Int) < (n : Int) := by omega
        have hi0 : (0 : Int) ≤ (i : Int) := by omega
        obtain ⟨x, hx⟩ : ∃ x, l[i]? = some x := ⟨l[i]'(by rw [HN.out]; exact hin), List.getElem?_eq_getElem _⟩
        obtain ⟨aw, cw, e1, hcw⟩ := HV.out wr hb
        rw [HN.out] at e1
        injection e1 with e1 e2 e3
        subst e1 e3
        rcases hcw with h | ⟨g, o, rfl, hg, hcl⟩
        · rw [h] at hx
          simp at hx
        obtain ⟨c0, c1, c2⟩ := hcl i x hx
        obtain ⟨r, hr⟩ : ∃ r, AX.tent x = r := ⟨_, rfl⟩
        have HR := Lib.hid hr
        have HX := Lib.hid hx
        have CO := Lib.hid (fun V => tent_c hr V)
        clear hcl hr hx hb
        go_wp2_with fail
        refine (CO.out _).mono ?_
        rintro e w2 ⟨rfl, hb2⟩
        have HB2 := Lib.hid (bnext (balloc HB.out _) hb2)
        clear hb2
        cases r with
        | false =>
          have HF : Hid (AX.right l (n : Int) = false) := Lib.hid (by
            rw [Bool.eq_false_iff]
            intro h
            have := ((AX.right_iff l _).1 h).2 x (List.mem_of_getElem? HX.out)
            rw [HR.out] at this
            cases this)
          go_wp2
          go_ret
          exact ⟨by rw [HF.out]; rfl, HB2.out⟩
        | true =>
          have HYES : Hid (∀ (j : Nat) (y : AX.Tn), j < i + 1 → l[j]? = some y → AX.tent y = true) := Lib.hid (fun j y hj hy => by
            by_cases hji : j = i
            · subst hji
              rw [HX.out] at hy
              rw [← Option.some.inj hy]
              exact HR.out
            · exact hyes.out j y (by omega) hy)
          go_wp2_with fail
          go_roundw
          case rel => exact ⟨i + 1, by go_num, hin, HYES, HB2.out⟩
          case measure => simp [intOf]; omega
      · obtain rfl : i = n := by omega
        have HT : Hid (AX.right l (i : Int) = true) := Lib.hid ((AX.right_iff l _).2 ⟨⟨by omega, by omega, by rw [HN.out]⟩, all_upto HN.out hyes.out⟩)
        clear hb
        go_wp2
        go_ret
        exact ⟨by rw [HT.out]; rfl, HB.out⟩
  · have k4 : ((n : Int) != k) = true := by simpa using k3
    have HF : Hid (AX.right l k = false) := Lib.hid (by rw [Bool.eq_false_iff]; intro h; have := ((AX.right_iff l k).1 h).1; rw [HN.out] at this; omega)
    go_enter Try.func34, Try.ntmps34
    go_wp2
    go_ret
    exact ⟨by rw [HF.out]; rfl, balloc (Below.refl _ _) _⟩
end Go.Proofs.Ytanppbdlcinpfaa
end
