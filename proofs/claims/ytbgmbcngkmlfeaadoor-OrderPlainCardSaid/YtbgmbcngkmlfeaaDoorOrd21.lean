/- Plain facts on places in the visual order; a row of truth values made. No conditions. -/
import Derived.Test.YtbgmbcngkmlfeaaDoorOrd20
namespace Go.Proofs.YtbgmbcngkmlfeaaDoor
set_option linter.unusedVariables false
open Go.RowKit Go.Shelf Go.Deep
namespace OP
/-- The places of the first k of V. -/
def OneP (V : List Nat) (k : Nat) (P : List Int) : Prop := ∀ j x, j < k → V[j]? = some x → P[x]? = some (j : Int)
def OneQ (V : List Nat) (k : Nat) (Q : List Bool) : Prop := ∀ x, Q[x]? = some true → ∃ j, j < k ∧ V[j]? = some x
theorem nd_inj {V : List Nat} (h : V.Nodup) {i j x : Nat} (hi : V[i]? = some x) (hj : V[j]? = some x) : i = j :=
  (List.getElem?_inj (List.getElem?_eq_some_iff.1 hi).1 h).1 (hi.trans hj.symm)
theorem OneP.next {V : List Nat} (h : V.Nodup) {k x : Nat} {P : List Int} (hp : OneP V k P) (hx : V[k]? = some x) (hl : x < P.length) : OneP V (k + 1) (P.set x (k : Int)) := by
  intro j y hj hy
  by_cases e : j = k
  · subst e
    obtain rfl : x = y := by rw [hx] at hy; exact Option.some.inj hy
    rw [List.getElem?_set_self hl]
  · rw [List.getElem?_set_ne (fun e2 => e (by subst e2; exact nd_inj h hy hx))]
    exact hp j y (by omega) hy
theorem OneQ.not {V : List Nat} (h : V.Nodup) {k x : Nat} {Q : List Bool} (hq : OneQ V k Q) (hx : V[k]? = some x) (hl : x < Q.length) : Q[x]? = some false := by
  obtain ⟨b, hb⟩ : ∃ b, Q[x]? = some b := ⟨Q[x], List.getElem?_eq_getElem hl⟩
  cases b with
  | false => exact hb
  | true =>
    obtain ⟨j, hj, e⟩ := hq x hb
    have := nd_inj h e hx
    omega
theorem OneQ.next {V : List Nat} {k x : Nat} {Q : List Bool} (hq : OneQ V k Q) (hx : V[k]? = some x) : OneQ V (k + 1) (Q.set x true) := by
  intro y hy
  by_cases e : x = y
  · subst e; exact ⟨k, by omega, hx⟩
  · rw [List.getElem?_set_ne e] at hy
    obtain ⟨j, hj, e⟩ := hq y hy
    exact ⟨j, by omega, e⟩
theorem OneQ.none (V : List Nat) (n : Nat) : OneQ V 0 (List.replicate n false) := by
  intro x hx
  rw [List.getElem?_replicate] at hx
  split at hx <;> simp at hx
theorem vis_at {L : List Int} {k : Nat} (h : k < L.length) : ∃ x, (vis L)[k]? = some x ∧ x < L.length := by
  have hk : k < (vis L).length := by rw [vis_len]; exact h
  exact ⟨(vis L)[k], List.getElem?_eq_getElem hk, vis_mem.1 (List.getElem_mem hk)⟩
theorem vis_has {L : List Int} {x : Nat} (h : x < L.length) : ∃ k : Nat, k < L.length ∧ (vis L)[k]? = some x := by
  obtain ⟨k, hk, e⟩ := List.getElem_of_mem (vis_mem.2 h)
  exact ⟨k, by rw [vis_len] at hk; exact hk, by rw [List.getElem?_eq_getElem hk, e]⟩
theorem Adj.place {x y : Nat} {V : List Nat} (h : Adj x y V) : ∃ k : Nat, V[k]? = some x ∧ V[k + 1]? = some y := by
  obtain ⟨A, C, rfl⟩ := h
  refine ⟨A.length, by simp, ?_⟩
  rw [List.getElem?_append_right (by omega), show A.length + 1 - A.length = 1 by omega]
  rfl
/-- Neighbours of one level have neighbouring places. -/
theorem once_adj {L P : List Int} {i : Nat} {s : Int} (hP : OneP (vis L) L.length P) (h0 : 0 ≤ s) (h9 : s ≤ 9) (h1 : L[i]? = some s) (h2 : L[i + 1]? = some s) : ∃ a b : Int, P[i]? = some a ∧ P[i + 1]? = some b ∧ b = a + 1 - 2 * (s % 2) ∧ 0 ≤ a ∧ a < L.length ∧ 0 ≤ b ∧ b < L.length := by
  obtain ⟨v, rfl⟩ : ∃ v : Nat, s = (v : Int) := ⟨s.toNat, by omega⟩
  have hl : i + 1 < L.length := (List.getElem?_eq_some_iff.1 h2).1
  have := vis_adj (L := L) (i := i) (v := v) hl (by simp [List.getD, h1]) (by simp [List.getD, h2]) (by omega)
  by_cases hv : v % 2 = 0
  · rw [if_pos hv] at this
    obtain ⟨k, k1, k2⟩ := this.place
    have hk : k + 1 < L.length := by have := (List.getElem?_eq_some_iff.1 k2).1; rwa [vis_len] at this
    exact ⟨k, ((k + 1 : Nat) : Int), hP k i (by omega) k1, hP (k + 1) (i + 1) hk k2, by omega, by omega, by omega, by omega, by omega⟩
  · rw [if_neg hv] at this
    obtain ⟨k, k1, k2⟩ := this.place
    have hk : k + 1 < L.length := by have := (List.getElem?_eq_some_iff.1 k2).1; rwa [vis_len] at this
    exact ⟨((k + 1 : Nat) : Int), k, hP (k + 1) i hk k2, hP k (i + 1) (by omega) k1, by omega, by omega, by omega, by omega, by omega⟩
/-- What stands together has places from one to another. -/
theorem tog_span {L : List Int} {i e : Nat} (hie : i ≤ e) (heL : e ≤ L.length) (h : Tog (fun x => i ≤ x ∧ x < e) (vis L)) : ∃ a : Nat, a + (e - i) ≤ L.length ∧ ∀ j x, (vis L)[j]? = some x → (i ≤ x ∧ x < e ↔ a ≤ j ∧ j < a + (e - i)) := by
  obtain ⟨A, B, C, hv, hB, hA, hC⟩ := h
  have hnd := vis_nodup L
  have hmem := fun x => vis_mem (L := L) (i := x)
  have hlen := vis_len L
  rw [hv] at hnd hmem hlen
  have hnB : B.Nodup := (List.nodup_append.1 (List.nodup_append.1 hnd).2.1).1
  have hBm : ∀ x, x ∈ B ↔ x ∈ List.range' i (e - i) := fun x => by
    rw [List.mem_range'_1]
    constructor
    · intro hx
      have := hB x hx
      dsimp only at this
      omega
    · intro hx
      have h1 := (hmem x).2 (by omega)
      rcases List.mem_append.1 h1 with h2 | h2
      · exact absurd (⟨by omega, by omega⟩ : i ≤ x ∧ x < e) (hA x h2)
      · rcases List.mem_append.1 h2 with h3 | h3
        · exact h3
        · exact absurd (⟨by omega, by omega⟩ : i ≤ x ∧ x < e) (hC x h3)
  have hBl : B.length = e - i := by
    rw [((List.perm_ext_iff_of_nodup hnB List.nodup_range').2 hBm).length_eq, List.length_range']
  refine ⟨A.length, by simp at hlen; omega, fun j x hx => ?_⟩
  rw [hv] at hx
  rw [← hBl]
  by_cases h1 : j < A.length
  · rw [List.getElem?_append_left h1] at hx
    have := hA x (List.mem_of_getElem? hx)
    exact ⟨fun h => absurd h this, fun h => by omega⟩
  · rw [List.getElem?_append_right (by omega)] at hx
    by_cases h2 : j - A.length < B.length
    · rw [List.getElem?_append_left h2] at hx
      have := hB x (List.mem_of_getElem? hx)
      exact ⟨fun _ => by omega, fun _ => this⟩
    · rw [List.getElem?_append_right (by omega)] at hx
      have := hC x (List.mem_of_getElem? hx)
      exact ⟨fun h => absurd h this, fun h => by omega⟩
/-- Where the lowest and the highest place of a piece are. -/
def Spn (P : List Int) (i e : Nat) (lo hi : Int) : Prop := (∃ x, i ≤ x ∧ (x < e ∨ x = i) ∧ P[x]? = some lo) ∧ (∃ x, i ≤ x ∧ (x < e ∨ x = i) ∧ P[x]? = some hi) ∧ ∀ x y, i ≤ x → (x < e ∨ x = i) → P[x]? = some y → lo ≤ y ∧ y ≤ hi
theorem Spn.first {P : List Int} {i : Nat} {a : Int} (h : P[i]? = some a) : Spn P i i a a :=
  ⟨⟨i, Nat.le_refl _, .inr rfl, h⟩, ⟨i, Nat.le_refl _, .inr rfl, h⟩, fun x y h1 h2 h3 => by
    obtain rfl : x = i := by omega
    rw [h] at h3
    have := Option.some.inj h3
    omega⟩
theorem Spn.next {P : List Int} {i e : Nat} {lo hi a : Int} (h : Spn P i e lo hi) (hie : i ≤ e) (ha : P[e]? = some a) : Spn P i (e + 1) (min lo a) (max hi a) := by
  obtain ⟨⟨x1, a1, a2, a3⟩, ⟨x2, b1, b2, b3⟩, h3⟩ := h
  refine ⟨?_, ?_, fun x y h1 h2 hy => ?_⟩
  · by_cases c : lo ≤ a
    · exact ⟨x1, a1, by omega, by rw [Int.min_eq_left c]; exact a3⟩
    · exact ⟨e, hie, by omega, by rw [Int.min_eq_right (by omega)]; exact ha⟩
  · by_cases c : a ≤ hi
    · exact ⟨x2, b1, by omega, by rw [Int.max_eq_left c]; exact b3⟩
    · exact ⟨e, hie, by omega, by rw [Int.max_eq_right (by omega)]; exact ha⟩
  · by_cases c : x = e
    · subst c
      rw [ha] at hy
      have := Option.some.inj hy
      omega
    · have := h3 x y h1 (by omega) hy
      omega
theorem Spn.done {L P : List Int} {n i e : Nat} {lo hii : Int} (h : Spn P i e lo hii) (hP : OneP (vis L) L.length P) (hn : n ≤ 9) (hie : i < e) (heL : e ≤ L.length) (hin : ∀ x, i ≤ x → x < e → (n : Int) ≤ L.getD x 0) (hb : 0 < i → OP.hi L n (i - 1) = false) (he : e < L.length → OP.hi L n e = false) : hii - lo = (e : Int) - 1 - (i : Int) := by
  obtain ⟨a, ha, hs⟩ := tog_span (Nat.le_of_lt hie) heL (vis_tog hn (Nat.le_of_lt hie) heL hin hb he)
  obtain ⟨⟨x1, a1, a2, a3⟩, ⟨x2, b1, b2, b3⟩, h3⟩ := h
  have pl : ∀ x y, i ≤ x → x < e → P[x]? = some y → (a : Int) ≤ y ∧ y < (a + (e - i) : Nat) := fun x y g1 g2 g3 => by
    obtain ⟨k, k1, k2⟩ := vis_has (L := L) (x := x) (by omega)
    have := hP k x k1 k2
    rw [g3] at this
    have e1 := Option.some.inj this
    have := (hs k x k2).1 ⟨g1, g2⟩
    omega
  have q1 := pl x1 lo a1 (by omega) a3
  have q2 := pl x2 hii b1 (by omega) b3
  obtain ⟨y1, c1, c2⟩ := vis_at (L := L) (k := a) (by omega)
  obtain ⟨y2, d1, d2⟩ := vis_at (L := L) (k := a + (e - i) - 1) (by omega)
  have m1 := (hs a y1 c1).2 ⟨Nat.le_refl _, by omega⟩
  have m2 := (hs _ y2 d1).2 ⟨by omega, by omega⟩
  have r1 := h3 y1 _ m1.1 (.inl m1.2) (hP a y1 (by omega) c1)
  have r2 := h3 y2 _ m2.1 (.inl m2.2) (hP _ y2 (by omega) d1)
  omega
end OP
theorem info_bool : (Tryd.prog.info? 4).map (fun i => (i.zero, i.size, i.bytes)) = some (some (.bool false), 1, 1) := by kernel_rfl
theorem make_bools (w : World) (n B : Nat) (hB : B ≤ w.heap.size) (hn : n ≤ 1000000000) :
    ∃ w', (Instr.makeSlice 38 (.int .i64 (n : Int)) (.int .i64 (n : Int))).run Tryd.prog w = .ok (.slice (some ⟨w.heap.size, 0, none⟩) n n) w' ∧
      w'.ownsRow B 4 1 (.slice (some ⟨w.heap.size, 0, none⟩) n n) n ((List.replicate n false).map Value.bool) ∧ Below w.heap.size w w' ∧ w.heap.size < w'.heap.size := by
  obtain ⟨i0, hi, hz0, hz1, hz2⟩ := info_parts info_bool
  have h := run_make (P := Tryd.prog) w 38 4 i0 (.bool false) Tryd.underlying38 hi hz0 .i64 .i64 n n (by omega) (by omega) (by rw [hz2]; omega) (by omega)
  simp only [Int.toNat_natCast] at h
  refine ⟨_, h, ?_, balloc (Below.refl _ _) _, by simp⟩
  have := World.ownsRow_lit (base := B) (e := 4) (size := 1) w (madeCells #[.bool false] (n * i0.size)) n hB (by unfold maxLen; omega) (by rw [size_madeCells, hz1])
  rw [toList_madeCells_one, hz1, Nat.mul_one] at this
  rw [show (Value.bool false).cells = #[.bool false] from rfl, hz1, Nat.mul_one, List.map_replicate]
  exact this
end Go.Proofs.YtbgmbcngkmlfeaaDoor
