/- A row of glyphs that the call itself made, with their anchors. No conditions. -/
import Derived.Test.YtpmmincophaaiaaAttPl
import Derived.Maps.AppendAt
namespace Go.Proofs.Ytpmmincophaaiaa
set_option maxRecDepth 100000
set_option linter.unusedVariables false
open Go.RowKit Go.Deep
theorem info_an : (Try.prog.info? 33).map (fun i => (i.zero, i.size, i.bytes)) = some (some (.agg #[.int .i64 0, .int .i64 0, .int .i64 0]), 3, 24) := by kernel_rfl
theorem info_dr : (Try.prog.info? 35).map (fun i => (i.zero, i.size, i.bytes)) = some (some (.agg #[.slice none 0 0, .slice none 0 0, .int .i64 0, .int .i64 0, .int .i64 0, .int .i64 0]), 6, 80) := by kernel_rfl
/-- The values of anchors. -/
def anc (l : List AT.An) : List Value := l.flatMap fun a => [.int .i64 a.1, .int .i64 a.2.1, .int .i64 a.2.2]
/-- The values of a glyph whose anchors lie at a slice. -/
def drv (x : AT.Dr × Value) : List Value := [.slice none 0 0, x.2, .int .i64 x.1.hang.1, .int .i64 x.1.hang.2.1, .int .i64 x.1.hang.2.2, .int .i64 x.1.adv]
def drc (X : List (AT.Dr × Value)) : List Value := X.flatMap drv
theorem anc_snoc (l : List AT.An) (a : AT.An) : anc (l ++ [a]) = anc l ++ [.int .i64 a.1, .int .i64 a.2.1, .int .i64 a.2.2] := by
  unfold anc
  rw [List.flatMap_append]
  rfl
theorem drc_snoc (X : List (AT.Dr × Value)) (x : AT.Dr × Value) : drc (X ++ [x]) = drc X ++ drv x := by
  unfold drc
  rw [List.flatMap_append]
  simp
theorem anc_at : ∀ (l : List AT.An) (i : Nat) (x : AT.An), l[i]? = some x → (anc l)[i * 3]? = some (.int .i64 x.1) ∧ (anc l)[i * 3 + 1]? = some (.int .i64 x.2.1) ∧ (anc l)[i * 3 + 2]? = some (.int .i64 x.2.2)
  | [], i, x, h => by simp at h
  | y :: l, 0, x, h => by
    obtain rfl : y = x := by simpa using h
    exact ⟨rfl, rfl, rfl⟩
  | y :: l, i + 1, x, h => by
    have := anc_at l i x (by simpa using h)
    rw [show (i + 1) * 3 = i * 3 + 1 + 1 + 1 by omega]
    exact this
theorem drc_at : ∀ (l : List (AT.Dr × Value)) (i : Nat) (x : AT.Dr × Value), l[i]? = some x → (drc l)[i * 6]? = some (.slice none 0 0) ∧ (drc l)[i * 6 + 1]? = some x.2 ∧ (drc l)[i * 6 + 2]? = some (.int .i64 x.1.hang.1) ∧ (drc l)[i * 6 + 3]? = some (.int .i64 x.1.hang.2.1) ∧ (drc l)[i * 6 + 4]? = some (.int .i64 x.1.hang.2.2) ∧ (drc l)[i * 6 + 5]? = some (.int .i64 x.1.adv)
  | [], i, x, h => by simp at h
  | y :: l, 0, x, h => by
    obtain rfl : y = x := by simpa using h
    exact ⟨rfl, rfl, rfl, rfl, rfl, rfl⟩
  | y :: l, i + 1, x, h => by
    have := drc_at l i x (by simpa using h)
    rw [show (i + 1) * 6 = i * 6 + 1 + 1 + 1 + 1 + 1 + 1 by omega]
    exact this
theorem own_an {w : World} {B e : Nat} {v : Value} {l : List AT.An} (h : w.ownsRow B e 3 v l.length (anc l)) : AnAt w v l := by
  rcases h.2 with ⟨hv, h0⟩ | ⟨g, cap, cur, hv, hb, hg, _⟩
  · exact ⟨none, 0, by rw [hv, h0], .inl (List.eq_nil_of_length_eq_zero h0)⟩
  · refine ⟨_, cap, hv, ?_⟩
    subst hv
    refine .inr ⟨g, 0, rfl, (Array.getElem?_eq_some_iff.1 hg).1, fun i x hx => ?_⟩
    have hi := (List.getElem?_eq_some_iff.1 hx).1
    obtain ⟨h1, h2, h3⟩ := anc_at l i x hx
    rw [Nat.zero_add]
    exact ⟨(h.cellAt (i * 3) (by omega)).trans h1, (h.cellAt (i * 3 + 1) (by omega)).trans h2, (h.cellAt (i * 3 + 2) (by omega)).trans h3⟩
theorem own_of_grown {w w' : World} {B e n size : Nat} {v : Value} {xs : List Value} {row : Option Nat} (h : w.ownsRow B e size v n xs) (hg : w.grownBy w' row) (hr : ∀ q, v.ownBlock = some q → row ≠ some q) : w'.ownsRow B e size v n xs :=
  h.kept (row := row) hg (by cases hw : v.ownBlock with | none => exact Or.inl rfl | some q => exact Or.inr (fun e => hr q hw e.symm))
theorem own_base {w : World} {B B' e n size : Nat} {v : Value} {xs : List Value} (h : w.ownsRow B e size v n xs) (hB : B' ≤ B) : w.ownsRow B' e size v n xs := by
  refine ⟨h.1, ?_⟩
  rcases h.2 with hn | ⟨g, cap, cur, rfl, hg, rest⟩
  · exact .inl hn
  · exact .inr ⟨g, cap, cur, rfl, Nat.le_trans hB hg, rest⟩
/-- The glyphs lie in a row of the call's own, and so do the anchors of each, all in blocks of their own. -/
def OwnD (W : World) (B : Nat) (v : Value) (X : List (AT.Dr × Value)) : Prop :=
  W.ownsRow B 35 6 v X.length (drc X) ∧ (∀ x ∈ X, W.ownsRow B 33 3 x.2 x.1.anchors.length (anc x.1.anchors) ∧ ∀ q, x.2.ownBlock = some q → v.ownBlock ≠ some q) ∧ X.Pairwise (fun x y => ∀ q, x.2.ownBlock = some q → y.2.ownBlock ≠ some q)
theorem OwnD.nil (W : World) (B : Nat) : OwnD W B (.slice none 0 0) [] := by
  refine ⟨⟨rfl, .inl ⟨rfl, rfl⟩⟩, fun x hx => ?_, List.Pairwise.nil⟩
  simp at hx
theorem OwnD.keep {W W' : World} {B : Nat} {v : Value} {X : List (AT.Dr × Value)} (h : OwnD W B v X) (hb : Below W.heap.size W W') : OwnD W' B v X :=
  ⟨own_below h.1 hb, fun x hx => ⟨own_below (h.2.1 x hx).1 hb, (h.2.1 x hx).2⟩, h.2.2⟩
theorem OwnD.ds {W : World} {B : Nat} {v : Value} {X : List (AT.Dr × Value)} (h : OwnD W B v X) : DsAt W v (X.map Prod.fst) := by
  obtain ⟨hrow, han, -⟩ := h
  rcases hrow.2 with ⟨hv, h0⟩ | ⟨g, cap, cur, hv, hb, hg, _⟩
  · exact ⟨none, 0, by rw [hv, List.length_map, h0], .inl (by rw [List.eq_nil_of_length_eq_zero h0]; rfl)⟩
  · refine ⟨_, cap, by rw [List.length_map]; exact hv, ?_⟩
    subst hv
    refine .inr ⟨g, 0, rfl, (Array.getElem?_eq_some_iff.1 hg).1, fun i d hd => ?_⟩
    rw [List.getElem?_map, Option.map_eq_some_iff] at hd
    obtain ⟨x, hx, rfl⟩ := hd
    have hi := (List.getElem?_eq_some_iff.1 hx).1
    obtain ⟨h0, h1, h2, h3, h4, h5⟩ := drc_at X i x hx
    rw [Nat.zero_add]
    exact ⟨none, 0, 0, x.2, own_an (han x (List.mem_of_getElem? hx)).1, (hrow.cellAt (i * 6) (by omega)).trans h0, (hrow.cellAt (i * 6 + 1) (by omega)).trans h1, (hrow.cellAt (i * 6 + 2) (by omega)).trans h2, (hrow.cellAt (i * 6 + 3) (by omega)).trans h3, (hrow.cellAt (i * 6 + 4) (by omega)).trans h4, (hrow.cellAt (i * 6 + 5) (by omega)).trans h5⟩
theorem OwnD.push {wr w1 W' : World} {B : Nat} {v v' : Value} {X : List (AT.Dr × Value)} {d : AT.Dr} {va : Value} (h : OwnD wr B v X) (hb : Below wr.heap.size wr w1) (hB : B ≤ wr.heap.size)
    (hva : w1.ownsRow wr.heap.size 33 3 va d.anchors.length (anc d.anchors)) (hown : W'.ownsRow B 35 6 v' (X.length + 1) (drc X ++ drv (d, va))) (hg : w1.grownBy W' v.ownBlock)
    (hat : v'.ownBlock = v.ownBlock ∨ v'.ownBlock = some w1.heap.size) : OwnD W' B v' (X ++ [(d, va)]) := by
  obtain ⟨h1, h2, h3⟩ := h
  have hs := hb.size
  refine ⟨by rw [List.length_append, drc_snoc]; exact hown, fun x hx => ?_, ?_⟩
  · rcases List.mem_append.1 hx with hx | hx
    · obtain ⟨hx1, hx2⟩ := h2 x hx
      refine ⟨own_of_grown (own_below hx1 hb) hg hx2, fun q hq hv => ?_⟩
      rcases hat with e | e
      · exact hx2 q hq (e.symm.trans hv)
      · have := (hx1.lt q hq).2
        have := Option.some.inj (e.symm.trans hv)
        omega
    · obtain rfl := List.mem_singleton.1 hx
      refine ⟨own_base (own_of_grown hva hg fun q hq hv => ?_) hB, fun q hq hv => ?_⟩
      · have := (h1.lt q hv).2
        have := (hva.lt q hq).1
        omega
      · have h4 := hva.lt q hq
        rcases hat with e | e
        · have := (h1.lt q (e.symm.trans hv)).2
          omega
        · have := Option.some.inj (e.symm.trans hv)
          omega
  · refine List.pairwise_append.2 ⟨h3, List.pairwise_singleton _ _, fun x hx y hy q hq hqy => ?_⟩
    obtain rfl := List.mem_singleton.1 hy
    have := ((h2 x hx).1.lt q hq).2
    have := (hva.lt q hqy).1
    omega
end Go.Proofs.Ytpmmincophaaiaa
