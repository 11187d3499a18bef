/- Glyphs with anchors: plain, and as they lie; small numbers. No conditions. -/
import Derived.Test.YtpmmincophaaiaaApp
import Derived.Stop.BytesEq
namespace Go.Proofs.Ytpmmincophaaiaa.AT
set_option maxRecDepth 100000
set_option linter.unusedVariables false
open Go.RowKit
/-- An anchor: class, x, y. -/
abbrev An := Int × Int × Int
/-- A glyph: its anchors, its hang, its advance. -/
structure Dr where
  anchors : List An
  hang : An
  adv : Int
def small (n : Int) : Bool := decide (-1048576 ≤ n ∧ n ≤ 1048576)
theorem small_iff (n : Int) : small n = true ↔ -1048576 ≤ n ∧ n ≤ 1048576 := by unfold small; rw [decide_eq_true_iff]
def anOk (a : An) : Bool := small a.2.1 && small a.2.2
def right (d : Dr) : Bool := d.anchors.all anOk && (small d.hang.2.1 && small d.hang.2.2 && small d.adv)
/-- The first anchor of a class. -/
def own (l : List An) (c : Int) : Option An := l.find? (fun a => a.1 == c)
/-- The last one before place k that has an anchor of the class, and the anchor. -/
def carrier (l : List Dr) (c : Int) : Nat → Option (Nat × An)
  | 0 => none
  | k + 1 => match (l[k]?).bind (fun d => own d.anchors c) with
    | some a => some (k, a)
    | none => carrier l c k
/-- The places of the first k glyphs, and the pen behind them. -/
def step (l : List Dr) (out : List (Int × Int)) (pen : Int) (k : Nat) (d : Dr) : Int × Int :=
  if d.hang.1 = 0 then (pen, 0) else match carrier l d.hang.1 k with
    | some (j, a) => let p := out.getD j (0, 0); (p.1 + a.2.1 - d.hang.2.1, p.2 + a.2.2 - d.hang.2.2)
    | none => (pen, 0)
def go (l : List Dr) : Nat → List (Int × Int) × Int
  | 0 => ([], 0)
  | k + 1 => match l[k]? with
    | none => go l k
    | some d => ((go l k).1 ++ [step l (go l k).1 (go l k).2 k d], if d.hang.1 = 0 then (go l k).2 + d.adv else (go l k).2)
def places (l : List Dr) : List (Int × Int) := if 200 < l.length ∨ l.all right = false then [] else (go l l.length).1
end Go.Proofs.Ytpmmincophaaiaa.AT
namespace Go.Proofs.Ytpmmincophaaiaa
set_option maxRecDepth 100000
set_option linter.unusedVariables false
open Go.RowKit
/-- A row of anchors. -/
def AnAt (W : World) (v : Value) (l : List AT.An) : Prop := ∃ a cap, v = .slice a l.length cap ∧ (l = [] ∨ ∃ g o, a = some ⟨g, o, none⟩ ∧ g < W.heap.size ∧ ∀ i z, l[i]? = some z → W.cell? ⟨g, o + i * 3, none⟩ = some (.int .i64 z.1) ∧ W.cell? ⟨g, o + i * 3 + 1, none⟩ = some (.int .i64 z.2.1) ∧ W.cell? ⟨g, o + i * 3 + 2, none⟩ = some (.int .i64 z.2.2))
theorem AnAt.keep {W W' : World} {v : Value} {l : List AT.An} (h : AnAt W v l) (hb : Below W.heap.size W W') : AnAt W' v l := by
  obtain ⟨a, cap, e, h⟩ := h
  refine ⟨a, cap, e, ?_⟩
  rcases h with h | ⟨g, o, e2, hg, hc⟩
  · exact .inl h
  · refine .inr ⟨g, o, e2, Nat.lt_of_lt_of_le hg hb.size, fun i z hz => ?_⟩
    obtain ⟨c1, c2, c3⟩ := hc i z hz
    exact ⟨(hb.cell (p := ⟨g, o + i * 3, none⟩) hg).trans c1, (hb.cell (p := ⟨g, o + i * 3 + 1, none⟩) hg).trans c2, (hb.cell (p := ⟨g, o + i * 3 + 2, none⟩) hg).trans c3⟩
/-- A row of glyphs. -/
def DsAt (W : World) (v : Value) (l : List AT.Dr) : Prop := ∃ a cap, v = .slice a l.length cap ∧ (l = [] ∨ ∃ g o, a = some ⟨g, o, none⟩ ∧ g < W.heap.size ∧ ∀ i d, l[i]? = some d → ∃ ca cn cc va, AnAt W va d.anchors ∧ W.cell? ⟨g, o + i * 6, none⟩ = some (.slice ca cn cc) ∧ W.cell? ⟨g, o + i * 6 + 1, none⟩ = some va ∧ W.cell? ⟨g, o + i * 6 + 2, none⟩ = some (.int .i64 d.hang.1) ∧ W.cell? ⟨g, o + i * 6 + 3, none⟩ = some (.int .i64 d.hang.2.1) ∧ W.cell? ⟨g, o + i * 6 + 4, none⟩ = some (.int .i64 d.hang.2.2) ∧ W.cell? ⟨g, o + i * 6 + 5, none⟩ = some (.int .i64 d.adv))
theorem DsAt.keep {W W' : World} {v : Value} {l : List AT.Dr} (h : DsAt W v l) (hb : Below W.heap.size W W') : DsAt W' v l := by
  obtain ⟨a, cap, e, h⟩ := h
  refine ⟨a, cap, e, ?_⟩
  rcases h with h | ⟨g, o, e2, hg, hc⟩
  · exact .inl h
  · refine .inr ⟨g, o, e2, Nat.lt_of_lt_of_le hg hb.size, fun i d hd => ?_⟩
    obtain ⟨ca, cn, cc, va, ha, c0, c1, c2, c3, c4, c5⟩ := hc i d hd
    exact ⟨ca, cn, cc, va, ha.keep hb, (hb.cell (p := ⟨g, o + i * 6, none⟩) hg).trans c0, (hb.cell (p := ⟨g, o + i * 6 + 1, none⟩) hg).trans c1, (hb.cell (p := ⟨g, o + i * 6 + 2, none⟩) hg).trans c2, (hb.cell (p := ⟨g, o + i * 6 + 3, none⟩) hg).trans c3, (hb.cell (p := ⟨g, o + i * 6 + 4, none⟩) hg).trans c4, (hb.cell (p := ⟨g, o + i * 6 + 5, none⟩) hg).trans c5⟩
theorem clamp_any (n : Int) (w : World) : Calls Try.prog 27 #[.int .i64 n] w fun e w' => e = .returned (.int .i64 (max (-1048576) (min n 1048576))) ∧ w' = w := by
  by_cases h1 : n < -1048576
  · have e0 : min n 1048576 = n := by omega
    have e1 : max (-1048576) n = -1048576 := by omega
    have e2 : max n (-1048576) = -1048576 := by omega
    have h3 : ¬ -1048576 ≤ n := by omega
    rw [e0, e1]
    go_enter Try.func27, Try.ntmps27
    go_wp2
    go_ret
    exact ⟨rfl, rfl⟩
  · by_cases h2 : 1048576 < n
    · have e0 : min n 1048576 = 1048576 := by omega
      have h3 : ¬ n ≤ 1048576 := by omega
      rw [e0]
      go_enter Try.func27, Try.ntmps27
      go_wp2
      go_ret
      exact ⟨rfl, rfl⟩
    · have e0 : min n 1048576 = n := by omega
      have e1 : max (-1048576) n = n := by omega
      have e2 : max n (-1048576) = n := by omega
      have h3 : n ≤ 1048576 := by omega
      have h4 : -1048576 ≤ n := by omega
      rw [e0, e1]
      go_enter Try.func27, Try.ntmps27
      go_wp2
      all_goals
        go_ret
        refine ⟨?_, rfl⟩
        first | rfl | (exact ret1 (by omega))
/-- Two pairs are compared. -/
theorem sizeOf_int : ∀ w, (sizeOf 3).run Try.prog w = .ok 1 w := by
  intro w
  obtain ⟨i0, hif, hz0, hz1, hz2⟩ := info_parts info_int
  simp [sizeOf, typeInfo, hif, hz1]
theorem eq_two (w : World) (x y x' y' : Int) : (binOp .eql 37 (.agg #[.int .i64 x, .int .i64 y]) (.agg #[.int .i64 x', .int .i64 y'])).run Try.prog w = .ok (.bool (x == x' && y == y')) w := by
  have p0 : ∀ a b : Int, (part 3 #[.int .i64 a, .int .i64 b] 0).run Try.prog w = .ok (.int .i64 a) w := fun a b => by simp [part, isAgg, run_underlying Try.underlying3]
  have p1 : ∀ a b : Int, (part 3 #[.int .i64 a, .int .i64 b] 1).run Try.prog w = .ok (.int .i64 b) w := fun a b => by simp [part, isAgg, run_underlying Try.underlying3]
  have pe : ∀ a b : Int, (Op.equalIn 9999 3 (.int .i64 a) (.int .i64 b)).run Try.prog w = .ok (a == b) w := fun a b => run_equalIn_int w 9998 3 .i64 .i64 _ _ Try.underlying3
  rw [run_eql_struct, Op.equalIn]
  simp only [Sem.run_bind, run_underlying Try.underlying37, Result.andThen_ok, sizeOf_int, Std.Legacy.Range.forIn_eq_forIn_range', Std.Legacy.Range.size, Nat.sub_zero, Nat.add_sub_cancel, Nat.div_one]
  rw [show List.range' 0 2 1 = [0, 1] from rfl]
  simp only [List.forIn_cons, List.forIn_nil, Sem.run_bind, Nat.zero_mul, Nat.one_mul, p0, p1, pe, Result.andThen_ok]
  cases hx : (x == x') <;> cases hy : (y == y') <;> simp [p1, pe, hy]
theorem rsmall_any (n : Int) (w : World) : Calls Try.prog 25 #[.int .i64 n] w fun e w' => e = .returned (.bool (AT.small n)) ∧ w' = w := by
  by_cases h1 : -1048576 ≤ n
  · by_cases h2 : n ≤ 1048576
    · rw [(AT.small_iff n).2 ⟨h1, h2⟩]
      go_enter Try.func25, Try.ntmps25
      go_wp2
      go_ret
      exact ⟨rfl, rfl⟩
    · rw [show AT.small n = false from Bool.eq_false_iff.2 (fun h => h2 ((AT.small_iff n).1 h).2)]
      go_enter Try.func25, Try.ntmps25
      go_wp2
      go_ret
      exact ⟨rfl, rfl⟩
  · rw [show AT.small n = false from Bool.eq_false_iff.2 (fun h => h1 ((AT.small_iff n).1 h).1)]
    go_enter Try.func25, Try.ntmps25
    go_wp2
    go_ret
    exact ⟨rfl, rfl⟩
/-- A number that is kept within bounds. -/
def clampTo (n m : Int) : Prop := max (-1048576) (min n 1048576) = m
theorem clamp_c {n m : Int} (h : clampTo n m) (w : World) : Calls Try.prog 27 #[.int .i64 n] w fun e w' => e = .returned (.int .i64 m) ∧ w' = w := by
  have := clamp_any n w
  rwa [show max (-1048576) (min n 1048576) = m from h] at this
theorem isSmall_any (x y : Int) (w : World) : Calls Try.prog 22 #[.agg #[.int .i64 x, .int .i64 y]] w fun e w' => e = .returned (.bool (AT.small x && AT.small y)) ∧ Below w.heap.size w w' := by
  obtain ⟨m, hm⟩ : ∃ m, clampTo x m := ⟨_, rfl⟩
  obtain ⟨k, hk⟩ : ∃ k, clampTo y k := ⟨_, rfl⟩
  have e1 : (x == m) = AT.small x := by
    unfold clampTo at hm
    rw [Bool.eq_iff_iff, AT.small_iff, beq_iff_eq]
    omega
  have e2 : (y == k) = AT.small y := by
    unfold clampTo at hk
    rw [Bool.eq_iff_iff, AT.small_iff, beq_iff_eq]
    omega
  obtain ⟨r, hr⟩ : ∃ r, AT.small x = r := ⟨_, rfl⟩
  obtain ⟨s, hs⟩ : ∃ s, AT.small y = s := ⟨_, rfl⟩
  rw [hr] at e1 ⊢
  rw [hs] at e2 ⊢
  clear hr hs
  go_enter Try.func22, Try.ntmps22
  go_wp2_with fail
  obtain ⟨W0, hW0⟩ : ∃ W0, w.alloc (.cells #[.int .i64 x, .int .i64 y] 37) = W0 := ⟨_, rfl⟩
  have h0 : W0.heap[w.heap.size]? = some (.cells #[.int .i64 x, .int .i64 y] 37 (0, 0)) := by rw [← hW0]; exact heap_alloc_new w _
  have hb : Below w.heap.size w W0 := by rw [← hW0]; exact balloc (Below.refl _ _) _
  rw [hW0]
  obtain ⟨B, hB⟩ : ∃ B, w.heap.size = B := ⟨_, rfl⟩
  rw [hB] at h0 ⊢
  have c0 : W0.cell? ⟨B, 0, none⟩ = some (.int .i64 x) := by simp [World.cell?, h0]
  have c1 : W0.cell? ⟨B, 1, none⟩ = some (.int .i64 y) := by simp [World.cell?, h0]
  have HB := Lib.hid hB
  have heq := fun V => eq_two V x y m k
  rw [e1, e2] at heq
  clear h0 hW0 hB
  go_region_held3 (fun w' => w'.cell? ⟨B, 0, none⟩ = some (.int .i64 x) ∧ w'.cell? ⟨B, 1, none⟩ = some (.int .i64 y)) (go_keep) (first | (go_at_call 27; refine (clamp_c (by with_reducible assumption) _).mono ?_; rintro e w' ⟨rfl, rfl⟩))
  go_wp2
  go_ret
  exact ⟨rfl, hb.drew⟩
end Go.Proofs.Ytpmmincophaaiaa
