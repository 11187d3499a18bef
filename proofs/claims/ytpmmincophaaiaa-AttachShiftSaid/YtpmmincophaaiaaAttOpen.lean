/- A list of lists of numbers as an argument; what the laws of layer 19 share. No conditions. -/
import Derived.Test.YtpmmincophaaiaaAttMade
import Derived.Test.YtpmmincophaaiaaAttSane
import Derived.Deep.Matrix
namespace Go.Proofs.Ytpmmincophaaiaa
set_option maxRecDepth 100000
set_option linter.unusedVariables false
open Go.ChangeShapes Go.WideShapes Go.ChangeAt Go.RowKit Go.Joins Go.Deep
section
variable {H : Type} {enc : TypeId × Value → H} {W : World}
theorem spot_lit {w : World} {a : Addr} {v : Value} (h : w.cell? (a.add 0) = some v) : a = ⟨a.block, a.off, none⟩ := by
  have h0 : w.cell? a = some v := by simpa [Addr.add] using h
  exact spot_none h0
theorem add_lit' (g o i : Nat) : (⟨g, o, none⟩ : Addr).add i = ⟨g, o + i, none⟩ := by cases i <;> simp [Addr.add]
theorem open_lll {base : Nat} {v : Value} {d : DataW H} {p : List MemPlace} (hv : Value.okWide Try.prog W .any base 22 v) (h : DataW.Trod enc Try.prog W 0 (fun _ => true) true 22 v d p) :
    ∃ LL : List (List Int), LLAt W v LL ∧ (LL.length ≤ maxLen ∧ ∀ a n c, v = .slice a n c → n ≤ c) := by
  obtain ⟨a0, len, cap, rfl⟩ := okWide_slice Try.underlying22 hv
  obtain ⟨fuel, hf⟩ := h
  rcases open_int_rows Try.underlying22 Try.underlying46 Try.underlying3 (by kernel_rfl) (by kernel_rfl) hf with ⟨hcs, _⟩ | ⟨a, len', cap', A, L, C, Z, hcs, _, hl, hm, _, hr⟩
  · simp [Value.cells] at hcs
    obtain ⟨rfl, rfl, rfl⟩ := hcs
    exact ⟨[], ⟨none, 0, rfl, Or.inl rfl⟩, by simp [maxLen], fun a n c h => by injection h with _ h2 h3; omega⟩
  · simp [Value.cells] at hcs
    obtain ⟨rfl, rfl, rfl⟩ := hcs
    have hlen : ((List.range len).map fun r => (Z r).take (L r)).length = len := by simp
    refine ⟨(List.range len).map fun r => (Z r).take (L r), ⟨some a, cap, by rw [hlen], ?_⟩, by rw [hlen]; omega, fun a n c h => by injection h with _ h2 h3; omega⟩
    rcases Nat.eq_zero_or_pos len with e | e
    · subst e
      exact .inl rfl
    · right
      have h0 := spot_lit (hr 0 (by omega)).1
      have hlt := World.block_lt_of_cell? W _ (hr 0 (by omega)).1
      obtain ⟨g, o, s⟩ := a
      simp at h0
      subst h0
      rw [add_lit'] at hlt
      refine ⟨g, o, rfl, hlt, fun i K hK => ?_⟩
      have hi : i < len := by have := (List.getElem?_eq_some_iff.1 hK).1; rw [hlen] at this; exact this
      rw [List.getElem?_map, List.getElem?_range hi] at hK
      obtain rfl := Option.some.inj hK
      obtain ⟨c1, c2, c3, c4, c5, c6, c7⟩ := hr i (by omega)
      rw [add_lit'] at c1
      have hKl : ((Z i).take (L i)).length = L i := by rw [List.length_take]; omega
      refine ⟨A i, C i, by rw [hKl]; exact c1, by rw [hKl]; omega, ?_⟩
      cases hA : A i with
      | none =>
        have := c6 hA
        exact .inl (List.eq_nil_of_length_eq_zero (by rw [hKl]; omega))
      | some a' =>
        obtain ⟨-, c8⟩ := c7 a' hA
        rcases Nat.eq_zero_or_pos (L i) with e' | e'
        · exact .inl (List.eq_nil_of_length_eq_zero (by rw [hKl]; exact e'))
        · have h0' := spot_lit (c8 0 (by omega))
          have hlt' := World.block_lt_of_cell? W _ (c8 0 (by omega))
          obtain ⟨g', o', s'⟩ := a'
          simp at h0'
          subst h0'
          rw [add_lit'] at hlt'
          refine .inr ⟨g', o', rfl, hlt', hlt', fun j hj => ?_⟩
          rw [hKl] at hj
          have := c8 j (by omega)
          rw [add_lit'] at this
          rw [this]
          simp [List.getD, List.getElem?_take, hj]
end
theorem made_c (LL : List (List Int)) (v : Value) (w : World) (hv : LLAt w v LL) (hlen : LL.length ≤ maxLen) :
    Calls Try.prog 11 #[v] w fun e w' => ∃ a c, e = .returned (.slice a (AT.made LL).length c) ∧ DsAt w' (.slice a (AT.made LL).length c) (AT.made LL) ∧ Below w.heap.size w w' := by
  refine (made_any LL v w hv hlen).mono ?_
  rintro e w' ⟨u, X, rfl, ho, hm, hb⟩
  obtain ⟨a, c, rfl⟩ := own_shape ho.1
  have hl : X.length = (AT.made LL).length := by rw [← hm, List.length_map]
  have := ho.ds
  rw [hm, hl] at this
  exact ⟨a, c, by rw [hl], this, hb⟩
theorem mplaces_c (l : List AT.Dr) (v : Value) (w : World) (hl : l.length ≤ 1000000000000) (hk : ∀ d ∈ l, d.anchors.length ≤ 1000000000000) (hv : DsAt w v l) :
    Calls Try.prog 13 #[v] w fun e w' => ∃ a c, e = .returned (.slice a (AT.places l).length c) ∧ PtAt w' (.slice a (AT.places l).length c) (AT.places l) ∧ Below w.heap.size w w' := by
  refine (places_any l v w hl hk hv).mono ?_
  rintro e w' ⟨u, rfl, ho, hb⟩
  obtain ⟨a, c, rfl⟩ := own_shape ho
  exact ⟨a, c, rfl, own_pt rfl ho, hb⟩
theorem mrplaces_c (l : List AT.Dr) (v : Value) (w : World) (hl : l.length ≤ 1000000000000) (hk : ∀ d ∈ l, d.anchors.length ≤ 1000000000000) (hv : DsAt w v l) :
    Calls Try.prog 14 #[v] w fun e w' => ∃ a c, e = .returned (.slice a (AT.places l).length c) ∧ PtAt w' (.slice a (AT.places l).length c) (AT.places l) ∧ Below w.heap.size w w' := by
  refine (rplaces_any l v w hl hk hv).mono ?_
  rintro e w' ⟨u, rfl, ho, hb⟩
  obtain ⟨a, c, rfl⟩ := own_shape ho
  exact ⟨a, c, rfl, own_pt rfl ho, hb⟩
theorem places_len (l : List AT.Dr) : (AT.places l).length ≤ 200 := by
  by_cases h : 200 < l.length ∨ l.all AT.right = false
  · rw [AT.places_bad h]
    simp
  · have h1 : l.length ≤ 200 := by omega
    have h2 : l.all AT.right = true := by
      cases hr : l.all AT.right with
      | true => rfl
      | false => exact absurd (.inr hr) h
    rw [AT.places_good h1 h2, AT.go_len l l.length (Nat.le_refl _)]
    exact h1
theorem same_c (P : List (Int × Int)) (a b : Value) (w : World) (ha : PtAt w a P) (hb : PtAt w b P) (hl : P.length ≤ 1000000) :
    Calls Try.prog 12 #[a, b] w fun e w' => e = .returned (.bool true) ∧ Below w.heap.size w w' := by
  refine (rsame_any a b P P w ha hb (by omega) (by omega)).mono ?_
  rintro e w' ⟨rfl, h⟩
  exact ⟨by simp, h⟩
end Go.Proofs.Ytpmmincophaaiaa
