/- Texts merged: Ax39, Ax40, Ax41. No conditions. -/
import Derived.Test.YtbhkbjnmpaebdaaAxM
/- Peaks, and points closer to them: plain. No conditions. -/
section
namespace Go.Proofs.Ytbhkbjnmpaebdaa.AX
set_option linter.unusedVariables false
theorem fr_cross {a b : Int} (h0 : 0 ≤ a) (h1 : a ≤ b) (h2 : 1 ≤ b) : (fr a b).1 * b = (fr a b).2 * a ∧ 0 < (fr a b).2 ∧ 0 ≤ (fr a b).1 := by
  obtain ⟨g1, g2, g3, g4, g5, g6, g7, g8, g9, g10⟩ := F.FP.gc_parts a b h0 h1 h2
  show a / F.FP.gc a b * b = b / F.FP.gc a b * a ∧ 0 < b / F.FP.gc a b ∧ 0 ≤ a / F.FP.gc a b
  generalize F.FP.gc a b = g at *
  generalize a / g = u at *
  generalize b / g = v at *
  refine ⟨?_, by omega, g3⟩
  rw [← g9, ← g10, ← Int.mul_assoc, ← Int.mul_assoc, Int.mul_comm u v]
theorem fr_zero_iff {a b : Int} (h0 : 0 ≤ a) (h1 : a ≤ b) (h2 : 1 ≤ b) : (fr a b).1 = 0 ↔ a = 0 := by
  obtain ⟨e, e1, e2⟩ := fr_cross h0 h1 h2
  constructor
  · intro h
    rw [h, Int.zero_mul] at e
    rcases Int.mul_eq_zero.1 e.symm with h3 | h3 <;> omega
  · intro h
    subst h
    rw [Int.mul_zero] at e
    rcases Int.mul_eq_zero.1 e with h3 | h3 <;> omega
theorem fr_le {a a' b : Int} (h0 : 0 ≤ a) (h : a ≤ a') (h1 : a' ≤ b) (h2 : 1 ≤ b) : (fr a b).1 * (fr a' b).2 ≤ (fr a' b).1 * (fr a b).2 := by
  obtain ⟨e, e1, e2⟩ := fr_cross h0 (Int.le_trans h h1) h2
  obtain ⟨f, f1, f2⟩ := fr_cross (Int.le_trans h0 h) h1 h2
  generalize (fr a b).1 = u1 at *
  generalize (fr a b).2 = u2 at *
  generalize (fr a' b).1 = v1 at *
  generalize (fr a' b).2 = v2 at *
  have h3 : u2 * v2 * a ≤ u2 * v2 * a' := Int.mul_le_mul_of_nonneg_left h (Int.mul_nonneg (by omega) (by omega))
  have q1 : u1 * v2 * b = u2 * v2 * a := by rw [Int.mul_right_comm, e, Int.mul_right_comm]
  have q2 : v1 * u2 * b = u2 * v2 * a' := by rw [Int.mul_right_comm, f, Int.mul_right_comm, Int.mul_comm v2 u2]
  rw [← q1, ← q2] at h3
  exact Int.le_of_mul_le_mul_right h3 (by omega)
/-- Off its peak a tent is 0/1 just where the point lies outside. -/
theorem str_zero {t : Tn} {n : Int} (ht : tent t = true) (h0 : t.2.1 ≠ 0) (hn : n ≠ t.2.1) : (strength t n).1 = 0 ↔ (n ≤ t.1 ∨ t.2.2 ≤ n) := by
  rw [tent_iff] at ht
  unfold strength
  rw [if_neg (by omega)]
  by_cases h2 : n ≤ t.1 ∨ t.2.2 ≤ n
  · rw [if_pos h2]
    exact ⟨fun _ => h2, fun _ => rfl⟩
  · rw [if_neg h2]
    by_cases h3 : n < t.2.1
    · rw [if_pos h3, fr_zero_iff (by omega) (by omega) (by omega)]
      omega
    · rw [if_neg h3, fr_zero_iff (by omega) (by omega) (by omega)]
      omega
def toPeak (t : Tn) (n : Int) : Int := if t.2.1 = 0 then n else t.2.1
def closer (t : Tn) (n : Int) : Int := if n < t.2.1 then n + 1 else if t.2.1 < n then n - 1 else n
theorem str_peak (t : Tn) (n : Int) : strength t (toPeak t n) = (1, 1) := by
  unfold strength toPeak
  by_cases h : t.2.1 = 0
  · rw [if_pos (.inl h)]
  · rw [if_neg h, if_pos (.inr rfl)]
theorem peak_coord {t : Tn} {n : Int} (ht : tent t = true) (hn : coord n = true) : coord (toPeak t n) = true := by
  rw [tent_iff] at ht
  rw [coord_iff] at hn ⊢
  unfold toPeak
  split <;> omega
theorem closer_coord {t : Tn} {n : Int} (ht : tent t = true) (hn : coord n = true) : coord (closer t n) = true := by
  rw [tent_iff] at ht
  rw [coord_iff] at hn ⊢
  unfold closer
  split
  · omega
  · split <;> omega
/-- One step towards the peak does not lessen the strength. -/
theorem str_closer {t : Tn} {n : Int} (ht : tent t = true) (hn : coord n = true) : (strength t n).1 * (strength t (closer t n)).2 ≤ (strength t (closer t n)).1 * (strength t n).2 := by
  obtain ⟨⟨d1, d2, n0, nd, -⟩, -⟩ := str_rgt ht hn
  obtain ⟨⟨c1, c2, m0, md, -⟩, -⟩ := str_rgt ht (closer_coord ht hn)
  by_cases h1 : t.2.1 = 0 ∨ closer t n = t.2.1
  · have e : strength t (closer t n) = (1, 1) := by unfold strength; rw [if_pos h1]
    rw [e]
    show (strength t n).1 * 1 ≤ 1 * (strength t n).2
    omega
  · by_cases h2 : n ≤ t.1 ∨ t.2.2 ≤ n
    · by_cases h3 : n = t.2.1
      · exfalso
        refine h1 (.inr ?_)
        unfold closer
        rw [h3]
        simp
      · rw [(str_zero ht (by omega) h3).2 h2, Int.zero_mul]
        exact Int.mul_nonneg m0 (by omega)
    · rw [tent_iff] at ht
      unfold closer at h1 ⊢
      by_cases h4 : n < t.2.1
      · rw [if_pos h4] at h1 ⊢
        unfold strength
        rw [if_neg (by omega), if_neg h2, if_pos h4, if_neg h1, if_neg (by omega), if_pos (by omega)]
        exact fr_le (by omega) (by omega) (by omega) (by omega)
      · rw [if_neg h4] at h1 ⊢
        by_cases h5 : t.2.1 < n
        · rw [if_pos h5] at h1 ⊢
          unfold strength
          rw [if_neg (by omega), if_neg h2, if_neg h4, if_neg h1, if_neg (by omega), if_neg (by omega)]
          exact fr_le (by omega) (by omega) (by omega) (by omega)
        · rw [if_neg h5]
          exact Int.le_refl _
theorem mul4 {a b c d a' b' c' d' : Int} (h1 : a * b' ≤ a' * b) (h2 : c * d' ≤ c' * d) (ha : 0 ≤ a * b') (hc : 0 ≤ c * d') : a * c * (b' * d') ≤ a' * c' * (b * d) := by
  have h := Int.mul_le_mul h1 h2 hc (Int.le_trans ha h1)
  have e1 : a * c * (b' * d') = a * b' * (c * d') := by simp only [Int.mul_assoc, Int.mul_comm, Int.mul_left_comm]
  have e2 : a' * c' * (b * d) = a' * b * (c' * d) := by simp only [Int.mul_assoc, Int.mul_comm, Int.mul_left_comm]
  rw [e1, e2]
  exact h
theorem np_dp_le {xs ys : List (Tn × Int)} (hx : ∀ x ∈ xs, tent x.1 = true ∧ coord x.2 = true) (hy : ∀ x ∈ ys, tent x.1 = true ∧ coord x.2 = true) (hlx : xs.length ≤ 3) (hly : ys.length = xs.length)
    (h : ∀ (j : Nat) (x y : Tn × Int), xs[j]? = some x → ys[j]? = some y → (strength x.1 x.2).1 * (strength y.1 y.2).2 ≤ (strength y.1 y.2).1 * (strength x.1 x.2).2) : ∀ k, k ≤ xs.length → np xs k * dp ys k ≤ np ys k * dp xs k
  | 0, _ => show (1 : Int) * 1 ≤ 1 * 1 by decide
  | k + 1, hk => by
    obtain ⟨x, ex⟩ : ∃ x, xs[k]? = some x := ⟨xs[k]'(by omega), List.getElem?_eq_getElem _⟩
    obtain ⟨y, ey⟩ : ∃ y, ys[k]? = some y := ⟨ys[k]'(by omega), List.getElem?_eq_getElem _⟩
    have ih := np_dp_le hx hy hlx hly h k (by omega)
    obtain ⟨-, -, -, a4, a5, -⟩ := prod_S hx hlx k (by omega)
    obtain ⟨-, -, -, b4, b5, -⟩ := prod_S hy (by omega) k (by omega)
    obtain ⟨⟨d1, d2, n0, nd, -⟩, -⟩ := str_rgt (hx x (List.mem_of_getElem? ex)).1 (hx x (List.mem_of_getElem? ex)).2
    obtain ⟨⟨c1, c2, m0, md, -⟩, -⟩ := str_rgt (hy y (List.mem_of_getElem? ey)).1 (hy y (List.mem_of_getElem? ey)).2
    show np xs k * (strength (xs.getD k _).1 (xs.getD k _).2).1 * (dp ys k * (strength (ys.getD k _).1 (ys.getD k _).2).2) ≤ np ys k * (strength (ys.getD k _).1 (ys.getD k _).2).1 * (dp xs k * (strength (xs.getD k _).1 (xs.getD k _).2).2)
    rw [getD_of ex, getD_of ey]
    exact mul4 ih (h k x y ex ey) (Int.mul_nonneg a5 (by omega)) (Int.mul_nonneg n0 (by omega))
theorem zip_ok {l : List Tn} {at' : List Int} (hr : right l (at'.length : Int) = true) (hc : coords at' = true) : (∀ x ∈ l.zip at', tent x.1 = true ∧ coord x.2 = true) ∧ (l.zip at').length = at'.length ∧ at'.length ≤ 3 := by
  have hrr := (right_iff _ _).1 hr
  have hcc := (coords_iff _).1 hc
  exact ⟨fun x hx => ⟨hrr.2 _ (List.of_mem_zip hx).1, hcc.1 _ (List.of_mem_zip hx).2⟩, by rw [List.length_zip]; omega, hcc.2⟩
theorem coords_set {at' : List Int} (hc : coords at' = true) (k : Nat) {y : Int} (hy : coord y = true) : coords (at'.set k y) = true := by
  rw [coords_iff] at hc ⊢
  refine ⟨fun z hz => ?_, by rw [List.length_set]; exact hc.2⟩
  rcases List.mem_or_eq_of_mem_set hz with h | h
  · exact hc.1 z h
  · rw [h]; exact hy
/-- One coordinate one step closer: the scalar is not less. -/
theorem scalar_closer {l : List Tn} {at' : List Int} (hr : right l (at'.length : Int) = true) (hc : coords at' = true) {k : Nat} {t : Tn} {x : Int} (ht : l[k]? = some t) (hx : at'[k]? = some x) :
    (scalar l at').1 * (scalar l (at'.set k (closer t x))).2 ≤ (scalar l (at'.set k (closer t x))).1 * (scalar l at').2 := by
  have htt := ((right_iff _ _).1 hr).2 t (List.mem_of_getElem? ht)
  have hcx := ((coords_iff _).1 hc).1 x (List.mem_of_getElem? hx)
  have hc2 := coords_set hc k (closer_coord htt hcx)
  have hr2 : right l ((at'.set k (closer t x)).length : Int) = true := by rw [List.length_set]; exact hr
  obtain ⟨z1, z2, z3⟩ := zip_ok hr hc
  obtain ⟨y1, y2, y3⟩ := zip_ok hr2 hc2
  rw [List.length_set] at y2 y3
  have hle := np_dp_le z1 y1 (by omega) (by omega) (fun j p q hp hq => by
    obtain ⟨p1, p2⟩ := List.getElem?_zip_eq_some.1 hp
    obtain ⟨q1, q2⟩ := List.getElem?_zip_eq_some.1 hq
    rw [p1] at q1
    have e := Option.some.inj q1
    by_cases hjk : k = j
    · subst hjk
      rw [List.getElem?_set_self (by have := (List.getElem?_eq_some_iff.1 hx).1; omega)] at q2
      have e2 := Option.some.inj q2
      rw [hx] at p2
      have e3 := Option.some.inj p2
      rw [ht] at p1
      have e4 := Option.some.inj p1
      rw [← e, ← e2, ← e3, ← e4]
      exact str_closer htt hcx
    · rw [List.getElem?_set_ne hjk, p2] at q2
      have e2 := Option.some.inj q2
      rw [← e, ← e2]
      exact Int.le_refl _) (l.zip at').length (Nat.le_refl _)
  obtain ⟨⟨d1, d2, n0, nd, -⟩, -, a3, a4, a5, -⟩ := prod_S z1 (by omega) (l.zip at').length (Nat.le_refl _)
  obtain ⟨⟨e1, e2, m0, md, -⟩, -, b3, b4, b5, -⟩ := prod_S y1 (by omega) (l.zip at').length (by omega)
  rw [List.take_length] at d1 d2 n0 nd a3
  have hyl : (l.zip (at'.set k (closer t x))).take (l.zip at').length = l.zip (at'.set k (closer t x)) := List.take_of_length_le (by omega)
  rw [hyl] at e1 e2 m0 md b3
  unfold scalar
  rw [if_pos ⟨hr, hc⟩, if_pos ⟨hr2, hc2⟩]
  generalize np (l.zip at') _ = na at *
  generalize dp (l.zip at') _ = da at *
  generalize np (l.zip (at'.set k (closer t x))) _ = nb at *
  generalize dp (l.zip (at'.set k (closer t x))) _ = db at *
  generalize (prod (l.zip at')).1 = p1 at *
  generalize (prod (l.zip at')).2 = p2 at *
  generalize (prod (l.zip (at'.set k (closer t x)))).1 = s1 at *
  generalize (prod (l.zip (at'.set k (closer t x)))).2 = s2 at *
  have h3 : p2 * s2 * (na * db) ≤ p2 * s2 * (nb * da) := Int.mul_le_mul_of_nonneg_left hle (Int.mul_nonneg (by omega) (by omega))
  have q1 : p1 * s2 * (da * db) = p2 * s2 * (na * db) := by
    have : p1 * s2 * (da * db) = (p1 * da) * (s2 * db) := by simp only [Int.mul_assoc, Int.mul_comm, Int.mul_left_comm]
    rw [this, a3]
    simp only [Int.mul_assoc, Int.mul_comm, Int.mul_left_comm]
  have q2 : s1 * p2 * (da * db) = p2 * s2 * (nb * da) := by
    have : s1 * p2 * (da * db) = (s1 * db) * (p2 * da) := by simp only [Int.mul_assoc, Int.mul_comm, Int.mul_left_comm]
    rw [this, b3]
    simp only [Int.mul_assoc, Int.mul_comm, Int.mul_left_comm]
  rw [← q1, ← q2] at h3
  exact Int.le_of_mul_le_mul_right h3 (Int.mul_pos a4 b4)
/-- The product, a coordinate on. -/
theorem scalar_step {l : List Tn} {at' : List Int} (hr : right l (at'.length : Int) = true) (hc : coords at' = true) {k : Nat} {t : Tn} {x : Int} (ht : l[k]? = some t) (hx : at'[k]? = some x) :
    F.FP.timesS (prod ((l.zip at').take k)).1 (prod ((l.zip at').take k)).2 (strength t x).1 (strength t x).2 = (prod ((l.zip at').take (k + 1)), true) := by
  obtain ⟨z1, z2, z3⟩ := zip_ok hr hc
  have hz : (l.zip at')[k]? = some (t, x) := by rw [List.getElem?_zip_eq_some]; exact ⟨ht, hx⟩
  have hk := (List.getElem?_eq_some_iff.1 hx).1
  have h7 := (prod_S z1 (by omega) k (by omega)).2.2.2.2.2.2 _ hz
  rw [prod_take hz]
  exact Prod.ext rfl h7
theorem scalar_all {l : List Tn} {at' : List Int} (hr : right l (at'.length : Int) = true) (hc : coords at' = true) : scalar l at' = prod ((l.zip at').take at'.length) := by
  obtain ⟨z1, z2, z3⟩ := zip_ok hr hc
  unfold scalar
  rw [if_pos ⟨hr, hc⟩, ← z2, List.take_length]
theorem prod_ones : ∀ (xs : List (Tn × Int)), (∀ x ∈ xs, strength x.1 x.2 = (1, 1)) → prod xs = (1, 1) := by
  have key : F.FP.timesS 1 1 1 1 = ((1, 1), true) := by
    have r1 : F.FP.rgt 1 1 := by constructor <;> first | decide | omega | (unfold F.FP.gc; decide)
    unfold F.FP.timesS
    rw [show (1 : Int) * 1 = 1 from rfl, r1.g, Int.ediv_one, if_pos ⟨⟨r1, r1⟩, by omega⟩]
  intro xs h
  unfold prod
  induction xs with
  | nil => rfl
  | cons x xs ih =>
    rw [List.foldl_cons, h x (List.mem_cons_self ..), key]
    exact ih fun y hy => h y (List.mem_cons_of_mem _ hy)
def peaks (l : List Tn) (at' : List Int) : List Int := (l.zip at').map fun x => toPeak x.1 x.2
theorem peaks_len {l : List Tn} {at' : List Int} (h : l.length = at'.length) : (peaks l at').length = at'.length := by unfold peaks; rw [List.length_map, List.length_zip]; omega
theorem peaks_get {l : List Tn} {at' : List Int} {k : Nat} {t : Tn} {x : Int} (ht : l[k]? = some t) (hx : at'[k]? = some x) : (peaks l at')[k]? = some (toPeak t x) := by
  unfold peaks
  have hz : (l.zip at')[k]? = some (t, x) := by rw [List.getElem?_zip_eq_some]; exact ⟨ht, hx⟩
  rw [List.getElem?_map, hz]
  rfl
theorem scalar_peaks {l : List Tn} {at' : List Int} (hr : right l (at'.length : Int) = true) (hc : coords at' = true) : scalar l (peaks l at') = (1, 1) := by
  have hrr := (right_iff _ _).1 hr
  have hcc := (coords_iff _).1 hc
  have hl : l.length = at'.length := by omega
  have hr2 : right l ((peaks l at').length : Int) = true := by rw [peaks_len hl]; exact hr
  have hc2 : coords (peaks l at') = true := by
    rw [coords_iff]
    refine ⟨fun z hz => ?_, by rw [peaks_len hl]; exact hcc.2⟩
    unfold peaks at hz
    obtain ⟨x, hx, rfl⟩ := List.mem_map.1 hz
    exact peak_coord (hrr.2 _ (List.of_mem_zip hx).1) (hcc.1 _ (List.of_mem_zip hx).2)
  unfold scalar
  rw [if_pos ⟨hr2, hc2⟩]
  refine prod_ones _ fun p hp => ?_
  obtain ⟨j, hj⟩ := List.mem_iff_getElem?.1 hp
  obtain ⟨h1, h2⟩ := List.getElem?_zip_eq_some.1 hj
  have hjl := (List.getElem?_eq_some_iff.1 h1).1
  obtain ⟨x, hx⟩ : ∃ x, at'[j]? = some x := ⟨at'[j]'(by omega), List.getElem?_eq_getElem _⟩
  rw [peaks_get h1 hx] at h2
  rw [← Option.some.inj h2]
  exact str_peak _ _
end Go.Proofs.Ytbhkbjnmpaebdaa.AX
end
/- A row of peaks and a product in a box. No conditions. -/
section
namespace Go.Proofs.Ytbhkbjnmpaebdaa
set_option maxRecDepth 100000
set_option linter.unusedVariables false
open Go.RowKit Go.Deep
structure PkS (W0 W : World) (v : Value) (n : Nat) (P : List Int) (E : Nat) (p q : Int) : Prop where
  own : W.ownsRow W0.heap.size 3 1 v n (P.map (Value.int .i64))
  box : W.heap[E]? = some (.cells #[.int .i64 p, .int .i64 q] 50 (0, 0))
  ne : v.ownBlock ≠ some E
  bel : Below W0.heap.size W0 W
  le : W0.heap.size ≤ E
theorem PkS.lt {W0 W : World} {v : Value} {n E : Nat} {P : List Int} {p q : Int} (s : PkS W0 W v n P E p q) : E < W.heap.size := (Array.getElem?_eq_some_iff.1 s.box).1
theorem PkS.start {W0 W : World} {v : Value} {n : Nat} {P : List Int} (h : W.ownsRow W0.heap.size 3 1 v n (P.map (Value.int .i64))) (hb : Below W0.heap.size W0 W) (p q : Int) : PkS W0 (W.alloc (.cells #[.int .i64 p, .int .i64 q] 50)) v n P W.heap.size p q :=
  ⟨own_below h (balloc (Below.refl _ _) _), heap_alloc_new W _, fun e => by have := (h.lt _ e).2; omega, balloc hb _, hb.size⟩
theorem PkS.keep {W0 W W' : World} {v : Value} {n E : Nat} {P : List Int} {p q : Int} (s : PkS W0 W v n P E p q) (hb : Below W.heap.size W W') : PkS W0 W' v n P E p q :=
  ⟨own_below s.own hb, (hb.block E s.lt).trans s.box, s.ne, bnext s.bel hb, s.le⟩
theorem PkS.cell0 {W0 W : World} {v : Value} {n E : Nat} {P : List Int} {p q : Int} (s : PkS W0 W v n P E p q) : W.cell? ⟨E, 0, none⟩ = some (.int .i64 p) := cell_of s.box rfl
theorem PkS.cell1 {W0 W : World} {v : Value} {n E : Nat} {P : List Int} {p q : Int} (s : PkS W0 W v n P E p q) : W.cell? ⟨E, 1, none⟩ = some (.int .i64 q) := cell_of s.box rfl
theorem PkS.frozen {W0 W : World} {v : Value} {n E : Nat} {P : List Int} {p q : Int} (s : PkS W0 W v n P E p q) (i : Nat) : W.frozen? ⟨E, i, none⟩ = false := frozen_of s.box i
theorem PkS.put {W0 W : World} {v : Value} {n E : Nat} {P : List Int} {p q : Int} (s : PkS W0 W v n P E p q) (p' q' : Int) : PkS W0 ((W.setCell ⟨E, 0, none⟩ (.int .i64 p')).setCell ⟨E, 1, none⟩ (.int .i64 q')) v n P E p' q' := by
  have hb := heap_setCell_same _ E 1 _ _ (.int .i64 q') (heap_setCell_same W E 0 _ _ (.int .i64 p') s.box)
  exact ⟨own_of_grown (own_of_grown s.own (set_kept W E 0 _) (fun x hx e => s.ne (by rw [hx]; exact e.symm))) (set_kept _ E 1 _) (fun x hx e => s.ne (by rw [hx]; exact e.symm)), hb, s.ne, bset (bset s.bel (p := ⟨E, 0, none⟩) s.le _) (p := ⟨E, 1, none⟩) s.le _, s.le⟩
theorem PkS.peak {W0 W : World} {n c E g : Nat} {P : List Int} {p q : Int} (s : PkS W0 W (.slice (some ⟨g, 0, none⟩) n c) n P E p q) (k : Nat) (z : Int) (hg : W0.heap.size ≤ g) : PkS W0 (W.setCell ⟨g, k, none⟩ (.int .i64 z)) (.slice (some ⟨g, 0, none⟩) n c) n (P.set k z) E p q := by
  have st := (s.own.stored k (.int .i64 z)).1
  refine ⟨?_, ?_, s.ne, bset s.bel (p := ⟨g, k, none⟩) hg _, s.le⟩
  · rw [List.map_set]
    exact st
  · rw [Below.heap_setCell W ⟨g, k, none⟩ (.int .i64 z) E (fun e => s.ne (by rw [show E = g from e]; rfl))]
    exact s.box
end Go.Proofs.Ytbhkbjnmpaebdaa
end
/- A scalar's box that is made at any place of a region. No conditions. -/
section
namespace Go.Proofs.Ytbhkbjnmpaebdaa
set_option maxRecDepth 100000
set_option linter.unusedVariables false
open Go.RowKit Go.Deep
namespace AX
theorem scalar_rgt' {l : List Tn} {at' : List Int} (hr : right l (at'.length : Int) = true) (hc : coords at' = true) : F.FP.rgt (scalar l at').1 (scalar l at').2 := by
  have hrr := (right_iff _ _).1 hr
  have hcc := (coords_iff _).1 hc
  have hlen : (l.zip at').length = at'.length := by rw [List.length_zip]; omega
  have hz : ∀ x ∈ l.zip at', tent x.1 = true ∧ coord x.2 = true := fun x hx => ⟨hrr.2 _ (List.of_mem_zip hx).1, hcc.1 _ (List.of_mem_zip hx).2⟩
  have hS := (prod_S hz (by omega) (l.zip at').length (Nat.le_refl _)).1
  rw [List.take_length] at hS
  unfold scalar
  rw [if_pos ⟨hr, hc⟩]
  exact hS
end AX
structure BX (wb W : World) (E : Option Nat) : Prop where
  bel : Below wb.heap.size wb W
  box : ∀ e, E = some e → W.heap[e]? = some (.cells #[.int .i64 0, .int .i64 0] 50 (0, 0)) ∧ wb.heap.size ≤ e
theorem BX.nil (wb : World) : BX wb wb.drew none := ⟨Below.drew (Below.refl _ _), fun e h => by simp at h⟩
theorem BX.step {wb W W' : World} {E : Option Nat} (h : BX wb W E) (hb : Below W.heap.size W W') : BX wb W' E :=
  ⟨bnext h.bel hb, fun e he => ⟨(hb.block e (Array.getElem?_eq_some_iff.1 (h.box e he).1).1).trans (h.box e he).1, (h.box e he).2⟩⟩
theorem BX.tent {wb W : World} {E : Option Nat} (h : BX wb W E) (c : Array Value) : BX wb (W.alloc (.cells c 71)) E := h.step (balloc (Below.refl _ _) _)
theorem BX.bx {wb W : World} {b : Nat} (h : BX wb W none) (hb : W.heap.size = b) : BX wb (W.alloc (.cells #[.int .i64 0, .int .i64 0] 50)) (some b) := by
  subst hb
  exact ⟨balloc h.bel _, fun e he => by have := Option.some.inj he; subst this; exact ⟨heap_alloc_new W _, h.bel.size⟩⟩
theorem BX.cell0 {wb W : World} {e : Nat} (h : BX wb W (some e)) : W.cell? ⟨e, 0, none⟩ = some (.int .i64 0) := cell_of (h.box e rfl).1 rfl
theorem BX.cell1 {wb W : World} {e : Nat} (h : BX wb W (some e)) : W.cell? ⟨e, 1, none⟩ = some (.int .i64 0) := cell_of (h.box e rfl).1 rfl
theorem BX.frozen {wb W : World} {e : Nat} (h : BX wb W (some e)) (i : Nat) : W.frozen? ⟨e, i, none⟩ = false := frozen_of (h.box e rfl).1 i
theorem BX.fin {wb W : World} {e : Nat} (h : BX wb W (some e)) (p q : Int) : ScB ((W.setCell ⟨e, 0, none⟩ (.int .i64 p)).setCell ⟨e, 1, none⟩ (.int .i64 q)) e (p, q) ∧ wb.heap.size ≤ e ∧ Below wb.heap.size wb ((W.setCell ⟨e, 0, none⟩ (.int .i64 p)).setCell ⟨e, 1, none⟩ (.int .i64 q)) := by
  obtain ⟨h1, h2⟩ := h.box e rfl
  exact ⟨heap_setCell_same _ e 1 _ _ (.int .i64 q) (heap_setCell_same W e 0 _ _ (.int .i64 p) h1), h2, bset (bset h.bel (p := ⟨e, 0, none⟩) h2 _) (p := ⟨e, 1, none⟩) h2 _⟩
theorem BX.fin2 {wb W : World} {b : Nat} (h : BX wb W none) (p q : Int) (hb : W.heap.size = b) : ScB (W.alloc (.cells #[.int .i64 p, .int .i64 q] 50)) b (p, q) ∧ wb.heap.size ≤ b ∧ Below wb.heap.size wb (W.alloc (.cells #[.int .i64 p, .int .i64 q] 50)) := by
  subst hb
  exact ⟨heap_alloc_new W _, h.bel.size, balloc h.bel _⟩
theorem alloc_drew (W : World) (o : Obj) : (W.alloc o).drew = W.drew.alloc o := rfl
theorem BX.tent' {wb W : World} {E : Option Nat} (h : BX wb W.drew E) (c : Array Value) : BX wb (W.alloc (.cells c 71)).drew E := by rw [alloc_drew]; exact h.tent c
theorem BX.bx' {wb W : World} {b : Nat} (h : BX wb W.drew none) (hb : W.heap.size = b) : BX wb (W.alloc (.cells #[.int .i64 0, .int .i64 0] 50)).drew (some b) := by rw [alloc_drew]; exact h.bx hb
theorem tn_made (W : World) (t : AX.Tn) {m b : Nat} (hb : W.heap.size = b) : TnAt (W.alloc (.cells #[.int .i64 t.1, .int .i64 t.2.1, .int .i64 t.2.2] 71)) (.slice (some ⟨b, 0, none⟩) 1 m) [t] :=
  ⟨_, _, rfl, .inr ⟨b, 0, rfl, by simp; omega, fun i z hz => by
    have h := heap_alloc_new W (.cells #[.int .i64 t.1, .int .i64 t.2.1, .int .i64 t.2.2] 71)
    rw [hb] at h
    cases i with
    | zero => rw [← Option.some.inj hz]; exact ⟨cell_of h rfl, cell_of h rfl, cell_of h rfl⟩
    | succ i => simp at hz⟩⟩
theorem tn_made' (W : World) (t : AX.Tn) {m b : Nat} (hb : W.heap.size = b) : TnAt (W.alloc (.cells #[.int .i64 t.1, .int .i64 t.2.1, .int .i64 t.2.2] 71)).drew (.slice (some ⟨b, 0, none⟩) 1 m) [t] := (tn_made W t hb).keep (Below.drew (Below.refl _ _))
theorem tn_on {W : World} {t : AX.Tn} {v : Value} (h : TnAt W.drew v [t]) (o : Obj) : TnAt (W.alloc o).drew v [t] := by rw [alloc_drew]; exact h.keep (balloc (Below.refl _ _) _)
end Go.Proofs.Ytbhkbjnmpaebdaa
end
