/- Lists of clusters: plain facts, and how they lie in memory. -/
import Derived.Test.YtbgmbcngkmlfeaaDoorCluRefF
namespace Go.Proofs.YtbgmbcngkmlfeaaDoor
open Go.RowKit Go.Shelf
namespace CP
/-- How many of these clusters end at i or before it. -/
def upto (l : List (Nat × Nat)) (i : Int) : Nat := (l.takeWhile fun x => decide ((x.2 : Int) ≤ i)).length
def at' (s : ByteArray) (i : Int) : Int := if i < 0 ∨ (s.size : Int) ≤ i then -1 else (upto (split s) i : Int)
theorem at_bad {s : ByteArray} {i : Int} (h : i < 0 ∨ (s.size : Int) ≤ i) : at' s i = -1 := if_pos h
theorem at_good {s : ByteArray} {i : Int} (h0 : ¬ i < 0) (h2 : ¬ (s.size : Int) ≤ i) : at' s i = (upto (split s) i : Int) := if_neg (by omega)
def Sm (l : List (Nat × Nat)) (i : Int) : Prop := ∀ y ∈ l, (y.2 : Int) ≤ i
theorem Sm.nil (i : Int) : Sm [] i := fun y hy => by cases hy
theorem Sm.snoc {l : List (Nat × Nat)} {x : Nat × Nat} {i : Int} (h : Sm l i) (hx : ¬ i < (x.2 : Int)) : Sm (l ++ [x]) i := fun y hy => by
  rcases List.mem_append.1 hy with hy | hy
  · exact h y hy
  · obtain rfl := List.mem_singleton.1 hy
    omega
theorem upto_all {l : List (Nat × Nat)} {i : Int} (h : Sm l i) : upto l i = l.length := by
  unfold upto
  induction l with
  | nil => rfl
  | cons a l ih =>
    rw [List.takeWhile_cons, if_pos (by simpa using h a (by simp)), List.length_cons, ih (fun x hx => h x (by simp [hx])), List.length_cons]
theorem upto_stop {l p : List (Nat × Nat)} {x : Nat × Nat} {i : Int} (hp : p ++ [x] <+: l) (h : Sm p i) (hx : i < (x.2 : Int)) : upto l i = p.length := by
  obtain ⟨r, rfl⟩ := hp
  unfold upto
  rw [List.append_assoc, List.takeWhile_append_of_pos (fun a ha => by simpa using h a ha), List.singleton_append, List.takeWhile_cons, if_neg (by simp; omega), List.append_nil]
/-- These clusters follow each other from f to e. -/
def Ch : Nat → List (Nat × Nat) → Nat → Prop
  | f, [], e => f = e
  | f, x :: l, e => x.1 = f ∧ f < x.2 ∧ Ch x.2 l e
theorem ch_spans (s : ByteArray) : ∀ g f, f ≤ s.size → s.size ≤ f + g → Ch f (spans s g f) s.size
  | 0, f, h, hg => by show f = s.size; omega
  | g + 1, f, h, hg => by
    unfold spans
    by_cases hf : f < s.size
    · rw [if_pos hf]
      have := stop_bd hf
      exact ⟨rfl, this.1, ch_spans s g _ this.2 (by omega)⟩
    · rw [if_neg hf]; show f = s.size; omega
theorem ch_split (s : ByteArray) : Ch 0 (split s) s.size := ch_spans s _ _ (Nat.zero_le _) (by omega)
/-- The first of these clusters that contains i, counted from k. -/
def fd (i : Int) : List (Nat × Nat) → Nat → Int
  | [], _ => -1
  | x :: l, k => if (x.1 : Int) ≤ i ∧ i < (x.2 : Int) then (k : Int) else fd i l (k + 1)
theorem fd_ch {i : Int} : ∀ {f : Nat} {l : List (Nat × Nat)} {e : Nat} (k : Nat), Ch f l e → (f : Int) ≤ i → fd i l k = if i < (e : Int) then ((k + upto l i : Nat) : Int) else -1
  | f, [], e, k, h, hf => by
    obtain rfl : f = e := h
    rw [if_neg (by omega)]; rfl
  | f, x :: l, e, k, h, hf => by
    obtain ⟨h1, h2, h3⟩ := h
    have hxe : x.2 ≤ e := by
      clear hf h1 h2
      generalize x.2 = a at h3
      induction l generalizing a with
      | nil => exact Nat.le_of_eq h3
      | cons y l ih => obtain ⟨a1, a2, a3⟩ := h3; have := ih _ a3; omega
    unfold fd
    by_cases hi : i < (x.2 : Int)
    · rw [if_pos ⟨by omega, hi⟩, if_pos (by omega)]
      unfold upto
      rw [List.takeWhile_cons, if_neg (by simp; omega)]; rfl
    · rw [if_neg (by omega), fd_ch (k + 1) h3 (by omega)]
      split
      · have : upto (x :: l) i = upto l i + 1 := by
          unfold upto
          rw [List.takeWhile_cons, if_pos (by simp; omega)]; rfl
        rw [this]; congr 1; omega
      · rfl
theorem fd_neg {i : Int} (hi : i < 0) : ∀ (l : List (Nat × Nat)) (k : Nat), fd i l k = -1
  | [], _ => rfl
  | x :: l, k => by unfold fd; rw [if_neg (by omega)]; exact fd_neg hi l (k + 1)
theorem fd_at (s : ByteArray) (i : Int) : fd i (split s) 0 = at' s i := by
  unfold at'
  by_cases h : i < 0
  · rw [fd_neg h, if_pos (.inl h)]
  · rw [fd_ch 0 (ch_split s) (by omega)]
    by_cases h2 : i < (s.size : Int)
    · rw [if_pos h2, if_neg (by omega), Nat.zero_add]
    · rw [if_neg h2, if_pos (.inr (by omega))]
theorem spc_at : ∀ (l : List (Nat × Nat)) (i : Nat) (x : Nat × Nat), l[i]? = some x → (spc l)[i * 2]? = some (.int .i64 (x.1 : Int)) ∧ (spc l)[i * 2 + 1]? = some (.int .i64 (x.2 : Int))
  | [], i, x, h => by simp at h
  | y :: l, 0, x, h => by
    obtain rfl : y = x := by simpa using h
    exact ⟨rfl, rfl⟩
  | y :: l, i + 1, x, h => by
    have := spc_at l i x (by simpa using h)
    rw [show (i + 1) * 2 = i * 2 + 1 + 1 by omega]
    exact this
theorem fd_stop {i : Int} {l : List (Nat × Nat)} {k : Nat} {x : Nat × Nat} (hx : l[k]? = some x) (h : (x.1 : Int) ≤ i ∧ i < (x.2 : Int)) : fd i (l.drop k) k = (k : Int) := by
  obtain ⟨hk, rfl⟩ := List.getElem?_eq_some_iff.1 hx
  rw [List.drop_eq_getElem_cons hk, fd, if_pos h]
theorem fd_on {i : Int} {l : List (Nat × Nat)} {k : Nat} {x : Nat × Nat} (hx : l[k]? = some x) (h : ¬ ((x.1 : Int) ≤ i ∧ i < (x.2 : Int))) : fd i (l.drop k) k = fd i (l.drop (k + 1)) (k + 1) := by
  obtain ⟨hk, rfl⟩ := List.getElem?_eq_some_iff.1 hx
  rw [List.drop_eq_getElem_cons hk, fd, if_neg h]
end CP
/-- A slice of pieces that lies there. -/
def SrcP (w : World) (v : Value) (l : List (Nat × Nat)) : Prop := ∃ ao c, v = .slice ao l.length c ∧ (l = [] ∨ ∃ g, ao = some ⟨g, 0, none⟩ ∧ g < w.heap.size ∧ ∀ i x, l[i]? = some x → w.cell? ⟨g, i * 2, none⟩ = some (.int .i64 (x.1 : Int)) ∧ w.cell? ⟨g, i * 2 + 1, none⟩ = some (.int .i64 (x.2 : Int)))
theorem SrcP.keep {w w' : World} {v : Value} {l : List (Nat × Nat)} (h : SrcP w v l) (hb : Below w.heap.size w w') : SrcP w' v l := by
  obtain ⟨a, c, rfl, h | ⟨g, rfl, hg, hc⟩⟩ := h
  · exact ⟨a, c, rfl, .inl h⟩
  · exact ⟨_, c, rfl, .inr ⟨g, rfl, Nat.lt_of_lt_of_le hg hb.size, fun i x hx => ⟨(hb.cell (p := ⟨g, i * 2, none⟩) hg).trans (hc i x hx).1, (hb.cell (p := ⟨g, i * 2 + 1, none⟩) hg).trans (hc i x hx).2⟩⟩⟩
theorem addr_add (g i : Nat) : ((⟨g, 0, none⟩ : Addr).add i) = ⟨g, i, none⟩ := by cases i <;> simp [Addr.add]
theorem own_srcP {w : World} {B e : Nat} {v : Value} {l : List (Nat × Nat)} (h : w.ownsRow B e 2 v l.length (spc l)) : SrcP w v l := by
  rcases h.2 with ⟨hv, hn⟩ | ⟨g, cap, cur, hv, hb, hg, _⟩
  · exact ⟨none, 0, by rw [hv, hn], .inl (List.eq_nil_of_length_eq_zero hn)⟩
  · subst hv
    refine ⟨_, cap, rfl, .inr ⟨g, rfl, (Array.getElem?_eq_some_iff.1 hg).1, fun i x hx => ?_⟩⟩
    obtain ⟨a1, a2⟩ := CP.spc_at l i x hx
    have c1 := h.cells (g := g) rfl _ _ a1
    have c2 := h.cells (g := g) rfl _ _ a2
    rw [addr_add] at c1 c2
    exact ⟨c1, c2⟩
theorem split_any (s : ByteArray) (g : Nat × Nat) (w : World) (hl : Laid w g) (hs : s.size ≤ 1000000000) :
    Calls Tryd.prog 44 #[.string s] w fun e W' => ∃ v, e = .returned v ∧ W'.ownsRow w.heap.size 52 2 v (CP.split s).length ((CP.split s).flatMap fun x => [.int .i64 (x.1 : Int), .int .i64 (x.2 : Int)]) ∧ Below w.heap.size w W' :=
  callsIn_wide.1 (split_in 3 (Nat.le_refl _) s g w hl hs)
end Go.Proofs.YtbgmbcngkmlfeaaDoor
