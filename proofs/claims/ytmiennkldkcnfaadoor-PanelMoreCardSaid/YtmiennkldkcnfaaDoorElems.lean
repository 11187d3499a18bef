/- A slice of elements of several cells, as an argument. No conditions. -/
import Derived.Test.YtmiennkldkcnfaaDoorAppN
import Derived.Deep.Matrix
import Derived.Deep.Slices
namespace Go.Proofs.YtmiennkldkcnfaaDoor
set_option maxRecDepth 100000
set_option linter.unusedVariables false
open Go.ChangeShapes Go.WideShapes Go.ChangeAt Go.RowKit Go.Joins Go.Deep
theorem spot_lit {w : World} {a : Addr} {v : Value} (h : w.cell? (a.add 0) = some v) : a = ⟨a.block, a.off, none⟩ := by
  have h0 : w.cell? a = some v := by simpa [Addr.add] using h
  exact spot_none h0
theorem add_lit' (g o i : Nat) : (⟨g, o, none⟩ : Addr).add i = ⟨g, o + i, none⟩ := by cases i <;> simp [Addr.add]
/-- A slice may be cut up to its length. -/
def Cap (v : Value) : Prop := ∀ a n c, v = .slice a n c → n ≤ c ∧ c ≤ maxLen
section
variable {H : Type} {enc : TypeId × Value → H} {W : World}
theorem flat_get {α : Type} {f : α → List Value} {k : Nat} (hk : 0 < k) (hf : ∀ z, (f z).length = k) : ∀ (l : List α) (j : Nat) (u : Value), (l.flatMap f)[j]? = some u → ∃ z, l[j / k]? = some z ∧ (f z)[j % k]? = some u
  | [], j, u, h => by simp at h
  | z :: l, j, u, h => by
    rw [List.flatMap_cons] at h
    by_cases hj : j < k
    · rw [List.getElem?_append_left (by rw [hf]; exact hj)] at h
      rw [Nat.div_eq_of_lt hj, Nat.mod_eq_of_lt hj]
      exact ⟨z, rfl, h⟩
    · rw [List.getElem?_append_right (by rw [hf]; omega), hf] at h
      obtain ⟨z', h1, h2⟩ := flat_get hk hf l (j - k) u h
      have e1 : j / k = (j - k) / k + 1 := by
        have : j = (j - k) + k := by omega
        rw [this, Nat.add_div_right _ hk, show j - k + k - k = j - k by omega]
      have e2 : j % k = (j - k) % k := by
        have : j = (j - k) + k := by omega
        rw [this, Nat.add_mod_right, show j - k + k - k = j - k by omega]
      rw [e1, e2]
      exact ⟨z', by simpa using h1, h2⟩
/-- A slice of elements of k cells each, where an element is a number of them. -/
theorem t_elems {α : Type} [Inhabited α] (f : α → List Value) (k : Nat) (hk : 0 < k) (hf : ∀ z, (f z).length = k) {t e : TypeId} (ht : Tryd.prog.underlying t = some (.slice e)) (hC : Tryd.prog.cellsOf e = k)
    (hone : ∀ n cs' (y : DataW H × List MemPlace), DataW.trod enc Tryd.prog W 0 (fun _ => true) true n e cs' = some y → ∃ z, cs' = f z) {fuel : Nat} {cs : List Value} {y : DataW H × List MemPlace} (h : DataW.trod enc Tryd.prog W 0 (fun _ => true) true fuel t cs = some y) :
    ∃ (v : Value) (l : List α), cs = [v] ∧ SrcN k W v l.length (l.flatMap f) ∧ l.length ≤ maxLen ∧ Cap v := by
  rcases open_slice ht h with ⟨hcs, _⟩ | ⟨a, len, cap, m, n', D, Pl, hcs, _, hl, hm, hmm, _, hx⟩
  · exact ⟨_, [], hcs, ⟨none, 0, rfl, by simp, .inl ⟨rfl, fun _ => rfl⟩⟩, by simp [maxLen], fun a n c h => by injection h with _ h2 h3; subst h2 h3; exact ⟨Nat.le_refl _, by simp [maxLen]⟩⟩
  · simp at hmm
    subst hmm
    rw [hC] at hx
    have each : ∀ i, i < m → ∃ z : α, ∀ j (u : Value), j < k → (f z)[j]? = some u → W.cell? (a.add (i * k + j)) = some u := fun i hi => by
      obtain ⟨cs', h1, h2⟩ := hx i hi
      obtain ⟨z, rfl⟩ := hone _ _ _ h2
      obtain ⟨_, _, hcell⟩ := World.cells?_some h1
      refine ⟨z, fun j u hj hu => ?_⟩
      have e0 := hcell j hj
      rw [add_add] at e0
      rw [e0]
      exact hu
    obtain ⟨q, hq⟩ := choose_lt each
    have hlen : ((List.range len).map q).length = len := by simp
    refine ⟨_, (List.range len).map q, hcs, ⟨some a, m, by rw [hlen], flat_len hf _, ?_⟩, by rw [hlen]; omega, fun a' n c h => by injection h with _ h2 h3; subst h2 h3; exact ⟨hl, hm⟩⟩
    rcases Nat.eq_zero_or_pos len with e | e
    · exact .inl ⟨by rw [hlen]; exact e, fun e => by simp at e⟩
    · right
      obtain ⟨u0, hu0⟩ : ∃ u0, (f (q 0))[0]? = some u0 := ⟨_, List.getElem?_eq_getElem (by rw [hf]; exact hk)⟩
      have h0 := hq 0 (by omega) 0 u0 hk hu0
      have h0' := spot_lit (w := W) (a := a) (by simpa using h0)
      have hlt := World.block_lt_of_cell? W _ h0
      obtain ⟨g, o, s⟩ := a
      simp at h0'
      subst h0'
      rw [add_lit'] at hlt
      refine ⟨g, o, rfl, hlt, fun j u hu => ?_⟩
      obtain ⟨z, hz, hzu⟩ := flat_get hk hf _ j u hu
      have hi : j / k < len := by have := (List.getElem?_eq_some_iff.1 hz).1; rw [hlen] at this; exact this
      rw [List.getElem?_map, List.getElem?_range hi] at hz
      obtain rfl := Option.some.inj hz
      have := hq (j / k) (by omega) (j % k) u (Nat.mod_lt _ hk) hzu
      rw [add_lit', show o + (j / k * k + j % k) = o + j by rw [Nat.mul_comm, Nat.div_add_mod]] at this
      exact this
end
end Go.Proofs.YtmiennkldkcnfaaDoor
