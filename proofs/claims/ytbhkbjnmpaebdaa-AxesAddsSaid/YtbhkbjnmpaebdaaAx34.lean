/- How the coordinate of an axis rises: plain. No conditions. -/
import Derived.Test.YtbhkbjnmpaebdaaAx29
namespace Go.Proofs.Ytbhkbjnmpaebdaa.AX
set_option linter.unusedVariables false
theorem rnd_eq' (n d : Int) (hd : 1 ≤ d) : F.FP.rnd n d = (2 * n + d) / (2 * d) := by
  have hm := Int.mul_ediv_add_emod n d
  have h0 := Int.emod_nonneg n (show d ≠ 0 by omega)
  have h1 := Int.emod_lt_of_pos n (show 0 < d by omega)
  unfold F.FP.rnd
  by_cases h : d - n % d ≤ n % d
  · rw [if_pos h]
    refine (F.FP.parts_of (2 * n + d) (2 * d) (n / d + 1) (2 * (n % d) - d) (by omega) ?_ (by omega) (by omega)).1.symm
    rw [Int.mul_add, Int.mul_assoc]; omega
  · rw [if_neg h]
    refine (F.FP.parts_of (2 * n + d) (2 * d) (n / d) (2 * (n % d) + d) (by omega) ?_ (by omega) (by omega)).1.symm
    rw [Int.mul_assoc]; omega
theorem rnd_mono' (n m d : Int) (hd : 1 ≤ d) (h : n ≤ m) : F.FP.rnd n d ≤ F.FP.rnd m d := by
  rw [rnd_eq' n d hd, rnd_eq' m d hd]
  exact Int.ediv_le_ediv (by omega) (by omega)
theorem rnd_exact' (k d : Int) (hd : 1 ≤ d) : F.FP.rnd (k * d) d = k := by
  have h := F.FP.parts_of (k * d) d k 0 hd (by rw [Int.mul_comm]; omega) (by omega) (by omega)
  unfold F.FP.rnd; rw [h.1, h.2, if_neg (by omega)]
/-- A line between two points that rises. -/
theorem line_seg {f0 f1 t0 t1 p q : Int} (hb : (-10000 ≤ f0 ∧ t0 ≤ 10000) ∧ -64 ≤ f1 ∧ t1 ≤ 64) (h : f0 < t0) (h1 : f1 ≤ t1) (hp : f0 ≤ p) (hpq : p ≤ q) (hq : q ≤ t0) :
    (F.FP.lineS p f0 f1 t0 t1).2 = true ∧ f1 ≤ (F.FP.lineS p f0 f1 t0 t1).1 ∧ (F.FP.lineS p f0 f1 t0 t1).1 ≤ (F.FP.lineS q f0 f1 t0 t1).1 ∧ (F.FP.lineS q f0 f1 t0 t1).1 ≤ t1 ∧ F.FP.lineS f0 f0 f1 t0 t1 = (f1, true) ∧ F.FP.lineS t0 f0 f1 t0 t1 = (t1, true) := by
  have S : ∀ z : Int, -10000 ≤ z → z ≤ 10000 → F.FP.sm z := fun z a b => by unfold F.FP.sm; omega
  have hd : 1 ≤ t0 - f0 := by omega
  have L : ∀ z, f0 ≤ z → z ≤ t0 → F.FP.lineS z f0 f1 t0 t1 = (F.FP.rnd (f1 * (t0 - f0) + (t1 - f1) * (z - f0)) (t0 - f0), true) := fun z a b => if_pos ⟨⟨S z (by omega) (by omega), S f0 (by omega) (by omega), S f1 (by omega) (by omega), S t0 (by omega) (by omega), S t1 (by omega) (by omega)⟩, h, a, b⟩
  have ef : F.FP.rnd (f1 * (t0 - f0) + (t1 - f1) * (f0 - f0)) (t0 - f0) = f1 := by
    rw [Int.sub_self, Int.mul_zero, Int.add_zero]; exact rnd_exact' _ _ hd
  have et : F.FP.rnd (f1 * (t0 - f0) + (t1 - f1) * (t0 - f0)) (t0 - f0) = t1 := by
    rw [← Int.add_mul, show f1 + (t1 - f1) = t1 by omega]; exact rnd_exact' _ _ hd
  have m : ∀ z u : Int, z ≤ u → f1 * (t0 - f0) + (t1 - f1) * (z - f0) ≤ f1 * (t0 - f0) + (t1 - f1) * (u - f0) := fun z u hz => by
    have := Int.mul_le_mul_of_nonneg_left (show z - f0 ≤ u - f0 by omega) (show 0 ≤ t1 - f1 by omega); omega
  have a := rnd_mono' _ _ _ hd (m f0 p hp)
  have b := rnd_mono' _ _ _ hd (m p q hpq)
  have c := rnd_mono' _ _ _ hd (m q t0 hq)
  rw [ef] at a; rw [et] at c
  rw [L p hp (by omega), L q (by omega) hq, L f0 (by omega) (by omega), L t0 (by omega) (by omega), ef, et]
  exact ⟨rfl, a, b, c, rfl, rfl⟩
theorem map_mono2 {x : Ax} (h : isMap x = true) : ∀ (d j : Nat) (p q : Pr), x.map[j]? = some p → x.map[j + d]? = some q → p.2 ≤ q.2
  | 0, j, p, q, hp, hq => by rw [Nat.add_zero, hp] at hq; rw [Option.some.inj hq]; exact Int.le_refl _
  | d + 1, j, p, q, hp, hq => by
    have hj := (List.getElem?_eq_some_iff.1 hq).1
    have hr : x.map[j + d]? = some (x.map[j + d]'(by omega)) := List.getElem?_eq_getElem _
    have h1 := map_mono2 h d j p _ hp hr
    have h2 := (map_step h hr (by rw [← hq]; rfl)).2
    omega
/-- The points of a right axis. -/
theorem pts {x : Ax} (h : check x = 0) {k : Nat} {p : Pr} (hp : x.map[k]? = some p) : (-10000 ≤ x.lo ∧ x.lo ≤ p.1 ∧ p.1 ≤ x.hi ∧ x.hi ≤ 10000) ∧ -64 ≤ p.2 ∧ p.2 ≤ 64 := by
  obtain ⟨-, h1, -, -, h4, h5⟩ := check_zero h
  obtain ⟨he, hpt, -⟩ := map_parts h5
  obtain ⟨e1, -, e3, e4⟩ := (ends_iff x).1 he
  have hk := (List.getElem?_eq_some_iff.1 hp).1
  have hf : x.map[0]? = some (x.map[0]'(by omega)) := List.getElem?_eq_getElem _
  have hl : x.map[x.map.length - 1]? = some (x.map[x.map.length - 1]'(by omega)) := List.getElem?_eq_getElem _
  have m1 := map_mono h5 k 0 _ p hf (by rw [Nat.zero_add]; exact hp)
  have m2 := map_mono h5 (x.map.length - 1 - k) k p _ hp (by rw [show k + (x.map.length - 1 - k) = x.map.length - 1 by omega]; exact hl)
  rw [List.getD_eq_getElem?_getD, hf] at e3
  rw [List.getD_eq_getElem?_getD, hl] at e4
  simp only [Option.getD_some] at e3 e4
  have hc := hpt k hk
  unfold ptOk at hc
  rw [Bool.and_eq_true, coord_iff, List.getD_eq_getElem?_getD, hp] at hc
  simp only [Option.getD_some] at hc
  omega
/-- Between two points the coordinate is the line's. -/
theorem at_seg {x : Ax} (h : check x = 0) {k : Nat} {p q : Pr} (hp : x.map[k]? = some p) (hq : x.map[k + 1]? = some q) {u : Int} (h1 : p.1 ≤ u) (h2 : u ≤ q.1) : atMap x.map u = (F.FP.lineS u p.1 p.2 q.1 q.2).1 := by
  have hm := (check_zero h).2.2.2.2.2
  have hst := map_step hm hp hq
  have b1 := pts h hp
  have b2 := pts h hq
  have hline := line_seg (f0 := p.1) (f1 := p.2) (t0 := q.1) (t1 := q.2) (p := u) (q := u) (by omega) hst.1 hst.2 h1 (Int.le_refl _) h2
  by_cases hu : p.1 = u
  · have hf : firstGe x.map u = k := first_eq hp (by omega) (fun j r hj hr => by
      have := map_mono hm (k - 1 - j) j r _ hr (by rw [show j + (k - 1 - j) = k - 1 by omega]; exact List.getElem?_eq_getElem (by have := (List.getElem?_eq_some_iff.1 hp).1; omega))
      have := (map_step hm (j := k - 1) (List.getElem?_eq_getElem (by have := (List.getElem?_eq_some_iff.1 hp).1; omega)) (by rw [show k - 1 + 1 = k by omega]; exact hp)).1
      omega)
    unfold atMap
    rw [hf, List.getD_eq_getElem?_getD, hp]
    simp only [Option.getD_some]
    rw [if_pos hu, ← hu, hline.2.2.2.2.1]
  · have hf : firstGe x.map u = k + 1 := first_eq hq h2 (fun j r hj hr => by
      have := map_mono hm (k - j) j r p hr (by rw [show j + (k - j) = k by omega]; exact hp)
      omega)
    unfold atMap
    rw [hf, List.getD_eq_getElem?_getD, hq, Nat.add_sub_cancel, List.getD_eq_getElem?_getD, hp]
    simp only [Option.getD_some]
    by_cases hu2 : q.1 = u
    · rw [if_pos hu2, ← hu2, hline.2.2.2.2.2]
    · rw [if_neg hu2]
theorem at_pt {x : Ax} (h : check x = 0) {k : Nat} {p : Pr} (hp : x.map[k]? = some p) : atMap x.map p.1 = p.2 := by
  have hm := (check_zero h).2.2.2.2.2
  have hf : firstGe x.map p.1 = k := first_eq hp (Int.le_refl _) (fun j r hj hr => by
    have := map_mono hm (k - 1 - j) j r _ hr (by rw [show j + (k - 1 - j) = k - 1 by omega]; exact List.getElem?_eq_getElem (by have := (List.getElem?_eq_some_iff.1 hp).1; omega))
    have := (map_step hm (j := k - 1) (List.getElem?_eq_getElem (by have := (List.getElem?_eq_some_iff.1 hp).1; omega)) (by rw [show k - 1 + 1 = k by omega]; exact hp)).1
    omega)
  unfold atMap
  rw [hf, List.getD_eq_getElem?_getD, hp]
  simp
/-- Each number of an axis lies between two of its points, if it has two. -/
theorem seg_of {x : Ax} (h : check x = 0) (h2 : 2 ≤ x.map.length) {u : Int} (hu : x.lo ≤ u ∧ u ≤ x.hi) : ∃ k p q, x.map[k]? = some p ∧ x.map[k + 1]? = some q ∧ p.1 ≤ u ∧ u ≤ q.1 := by
  have hm := (check_zero h).2.2.2.2.2
  obtain ⟨he, -, -⟩ := map_parts hm
  obtain ⟨e1, -, e3, e4⟩ := (ends_iff x).1 he
  have hf : x.map[0]? = some (x.map[0]'(by omega)) := List.getElem?_eq_getElem _
  have hl : x.map[x.map.length - 1]? = some (x.map[x.map.length - 1]'(by omega)) := List.getElem?_eq_getElem _
  rw [List.getD_eq_getElem?_getD, hf] at e3
  rw [List.getD_eq_getElem?_getD, hl] at e4
  simp only [Option.getD_some] at e3 e4
  have key : ∀ n, n + 1 < x.map.length → (∃ p, x.map[n + 1]? = some p ∧ u ≤ p.1) → ∃ k p q, x.map[k]? = some p ∧ x.map[k + 1]? = some q ∧ p.1 ≤ u ∧ u ≤ q.1 := by
    intro n
    induction n with
    | zero =>
      rintro hn ⟨p, hp, hpu⟩
      exact ⟨0, _, p, hf, hp, by omega, hpu⟩
    | succ n ih =>
      rintro hn ⟨p, hp, hpu⟩
      have hr : x.map[n + 1]? = some (x.map[n + 1]'(by omega)) := List.getElem?_eq_getElem _
      by_cases hc : (x.map[n + 1]'(by omega)).1 ≤ u
      · exact ⟨n + 1, _, p, hr, hp, hc, hpu⟩
      · exact ih (by omega) ⟨_, hr, by omega⟩
  exact key (x.map.length - 2) (by omega) ⟨_, by rw [show x.map.length - 2 + 1 = x.map.length - 1 by omega]; exact hl, by omega⟩
theorem at_mono {x : Ax} (h : check x = 0) {u v : Int} (hu : x.lo ≤ u) (huv : u ≤ v) (hv : v ≤ x.hi) : atMap x.map u ≤ atMap x.map v := by
  have hm := (check_zero h).2.2.2.2.2
  obtain ⟨he, -, -⟩ := map_parts hm
  obtain ⟨e1, -, e3, e4⟩ := (ends_iff x).1 he
  by_cases h2 : 2 ≤ x.map.length
  · obtain ⟨i, p, q, hp, hq, a1, a2⟩ := seg_of h h2 (u := u) ⟨hu, by omega⟩
    obtain ⟨j, r, s, hr, hs, b1, b2⟩ := seg_of h h2 (u := v) ⟨by omega, hv⟩
    have st1 := map_step hm hp hq
    have st2 := map_step hm hr hs
    have c1 := pts h hp
    have c2 := pts h hq
    have c3 := pts h hr
    have c4 := pts h hs
    rw [at_seg h hp hq a1 a2, at_seg h hr hs b1 b2]
    rcases Nat.lt_trichotomy i j with hij | hij | hij
    · have m1 := map_mono2 hm (j - (i + 1)) (i + 1) q r hq (by rw [show i + 1 + (j - (i + 1)) = j by omega]; exact hr)
      have l1 := line_seg (f0 := p.1) (f1 := p.2) (t0 := q.1) (t1 := q.2) (p := u) (q := u) (by omega) st1.1 st1.2 a1 (Int.le_refl _) a2
      have l2 := line_seg (f0 := r.1) (f1 := r.2) (t0 := s.1) (t1 := s.2) (p := v) (q := v) (by omega) st2.1 st2.2 b1 (Int.le_refl _) b2
      omega
    · subst hij
      rw [hp] at hr
      rw [hq] at hs
      obtain rfl := Option.some.inj hr
      obtain rfl := Option.some.inj hs
      exact (line_seg (f0 := p.1) (f1 := p.2) (t0 := q.1) (t1 := q.2) (p := u) (q := v) (by omega) st1.1 st1.2 a1 huv b2).2.2.1
    · have m1 := map_mono hm (i - (j + 1)) (j + 1) s p hs (by rw [show j + 1 + (i - (j + 1)) = i by omega]; exact hp)
      have huv' : u = v := by omega
      subst huv'
      have m2 := map_mono2 hm (i - (j + 1)) (j + 1) s p hs (by rw [show j + 1 + (i - (j + 1)) = i by omega]; exact hp)
      have e1 := at_seg h hp hq a1 a2
      have e2 := at_seg h hr hs b1 b2
      rw [← e1, ← e2]
      exact Int.le_refl _
  · have hl1 : x.map.length - 1 = 0 := by omega
    rw [hl1] at e4
    have : u = v := by omega
    rw [this]
    exact Int.le_refl _
theorem normal_in {x : Ax} (h : check x = 0) {u : Int} (h1 : x.lo ≤ u) (h2 : u ≤ x.hi) : normal x u = atMap x.map u := by
  unfold normal
  rw [if_pos h, show max x.lo (min u x.hi) = u by omega]
theorem normal_mono {x : Ax} (h : check x = 0) {u v : Int} (huv : u ≤ v) : normal x u ≤ normal x v := by
  have hb := check_zero h
  unfold normal
  rw [if_pos h, if_pos h]
  exact at_mono h (by omega) (by omega) (by omega)
theorem normal_pt {x : Ax} (h : check x = 0) {k : Nat} {p : Pr} (hp : x.map[k]? = some p) : normal x p.1 = p.2 := by
  have := pts h hp
  rw [normal_in h (by omega) (by omega), at_pt h hp]
theorem normal_de {x : Ax} (h : check x = 0) : normal x x.de = 0 := by
  have hm := (map_parts (check_zero h).2.2.2.2.2).2.2
  unfold mid at hm
  rw [decide_eq_true_iff] at hm
  obtain ⟨k, hk, e⟩ := List.mem_iff_getElem.1 hm
  exact normal_pt h (p := (x.de, 0)) (k := k) (by rw [List.getElem?_eq_getElem hk, e])
theorem normal_coord {x : Ax} (h : check x = 0) (u : Int) : coord (normal x u) = true := by
  have hb := check_zero h
  obtain ⟨e1, -, e3, e4⟩ := (ends_iff x).1 (map_parts hb.2.2.2.2.2).1
  have hf : x.map[0]? = some (x.map[0]'(by omega)) := List.getElem?_eq_getElem _
  have hl : x.map[x.map.length - 1]? = some (x.map[x.map.length - 1]'(by omega)) := List.getElem?_eq_getElem _
  rw [List.getD_eq_getElem?_getD, hf] at e3
  rw [List.getD_eq_getElem?_getD, hl] at e4
  simp only [Option.getD_some] at e3 e4
  have a := at_mono h (u := x.lo) (v := max x.lo (min u x.hi)) (by omega) (by omega) (by omega)
  have b := at_mono h (u := max x.lo (min u x.hi)) (v := x.hi) (by omega) (by omega) (by omega)
  have c := at_pt h hf
  have d := at_pt h hl
  rw [e3] at c
  rw [e4] at d
  have p1 := pts h hf
  have p2 := pts h hl
  rw [coord_iff]
  unfold normal
  rw [if_pos h]
  omega
theorem normal_seg {x : Ax} (h : check x = 0) {k : Nat} {p q : Pr} (hp : x.map[k]? = some p) (hq : x.map[k + 1]? = some q) {u : Int} (h1 : p.1 ≤ u) (h2 : u ≤ q.1) : ∃ n, F.FP.lineS u p.1 p.2 q.1 q.2 = (n, true) ∧ normal x u = n ∧ p.2 ≤ n ∧ n ≤ q.2 := by
  have hst := map_step (check_zero h).2.2.2.2.2 hp hq
  have b1 := pts h hp
  have b2 := pts h hq
  have hline := line_seg (f0 := p.1) (f1 := p.2) (t0 := q.1) (t1 := q.2) (p := u) (q := u) (by omega) hst.1 hst.2 h1 (Int.le_refl _) h2
  refine ⟨(F.FP.lineS u p.1 p.2 q.1 q.2).1, Prod.ext rfl hline.1, ?_, hline.2.1, hline.2.2.2.1⟩
  rw [normal_in h (by omega) (by omega), at_seg h hp hq h1 h2]
end Go.Proofs.Ytbhkbjnmpaebdaa.AX
