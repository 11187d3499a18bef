/- What the laws on lists share: the list opened; few. No conditions. -/
import Derived.Test.YtfikbcgadpbblaaDigFacts
import Derived.Test.YtfikbcgadpbblaaDigSane
import Derived.Test.YtfikbcgadpbblaaDigCut
import Derived.Test.YtfikbcgadpbblaaDigFew
namespace Go.Proofs.Ytfikbcgadpbblaa
set_option linter.unusedVariables false
open Go.ChangeShapes Go.WideShapes Go.ChangeAt Go.RowKit
section
variable {H : Type} {enc : TypeId × Value → H} {W : World}
theorem open_ts {base : Nat} {v : Value} {d : DataW H} {p : List MemPlace} (hv : Value.okWide Try.prog W .any base 26 v) (h : DataW.Trod enc Try.prog W 0 (fun _ => true) true 26 v d p) :
    ∃ L : List ByteArray, RowAt W v (L.map Value.string) ∧ (L.length ≤ maxLen ∧ ∀ a n c, v = .slice a n c → n ≤ c) ∧ ∀ x, x ∈ L → x.size ≤ maxLen := by
  obtain ⟨a0, len, cap, rfl⟩ := okWide_slice Try.underlying26 hv
  obtain ⟨fuel, hf⟩ := h
  rcases open_strings Try.underlying26 Try.underlying9 (by kernel_rfl) hf with ⟨hcs, _⟩ | ⟨a, len', cap', zs, hcs, _, hl, hm, hzl, _, hz, hwf⟩
  · simp [Value.cells] at hcs
    obtain ⟨rfl, rfl, rfl⟩ := hcs
    exact ⟨[], ⟨none, 0, rfl, Or.inl rfl⟩, ⟨by simp [maxLen], fun a n c h => by injection h with _ h2 h3; omega⟩, by simp⟩
  · simp [Value.cells] at hcs
    obtain ⟨rfl, rfl, rfl⟩ := hcs
    rw [if_pos rfl] at hzl
    refine ⟨zs.take len, row_of (by simp; omega) (fun i hi => ?_), ⟨by simp; omega, fun a n c h => by injection h with _ h2 h3; omega⟩, fun x hx => hwf x (List.mem_of_mem_take hx)⟩
    have hi' : i < len ∧ i < zs.length := by simp at hi; omega
    rw [hz i hi'.2]
    simp [List.getD, hi'.1, hi'.2]
end
theorem few_small (L : List ByteArray) (k : Nat) : ∀ s ∈ DG.few L k, s.size < 2147483648 := by
  intro s hs
  unfold DG.few at hs
  obtain ⟨x, _, rfl⟩ := List.mem_map.1 hs
  have := DG.short_size x
  omega
/-- few, its length a letter. -/
theorem few_c {v : Value} {A M : List ByteArray} (hM : DG.few A 20 = M) {w : World} (hv : RowAt w v (A.map Value.string)) (hs : ∀ x, x ∈ A → x.size ≤ maxLen) (hL : A.length ≤ maxLen) :
    Calls Try.prog 17 #[v] w fun e w' => ∃ u, e = .returned u ∧ w'.ownsRow w.heap.size 9 1 u M.length (M.map Value.string) ∧ Below w.heap.size w w' := by
  subst hM; exact few_any v A w hv hs hL
/-- The proof of an element, its length and what it holds letters. -/
theorem proof_k {L l : List ByteArray} {h n k : Nat} {a : Option Addr} {c : Nat} {w : World} (hn : L.length = n) (hl : DG.prf L k h = l) (hr : RowAt w (.slice a n c) (L.map Value.string)) (hL : L.length ≤ 1000000) (hs : ∀ s ∈ L, s.size < 2147483648) (hh : DG.IsH L.length h) (hk : k < n) :
    Calls Try.prog 19 #[.slice a n c, .int .i64 (k : Int)] w fun e W' => ∃ pa pc, e = .returned (.slice pa h pc) ∧ Src W' (.slice pa h pc) (l.map Value.string) ∧ Below w.heap.size w W' := by
  subst hn
  have hp : DG.proof L h (k : Int) = l := by unfold DG.proof; rw [if_pos (by omega), ← hl]; rfl
  have hlen : l.length = h := by rw [← hl, DG.prf_len]
  refine (proof_any L a c h k w hr hL hs hh).mono fun e W' ⟨v, he, hv, hb⟩ => ?_
  rw [hp, hlen] at hv
  obtain ⟨pa, pc, rfl⟩ := own_shape hv
  exact ⟨pa, pc, he, own_src hv (by rw [List.length_map, hlen]), hb⟩
/-- What Verify answers at this index. -/
def VOut (root leaf : ByteArray) (l : List ByteArray) (i : Int) (r : Bool) : Prop := DG.verify root leaf i l = r ∧ -9223372036854775808 ≤ i ∧ i ≤ 9223372036854775807
theorem ver_k {root leaf : ByteArray} {l : List ByteArray} {i : Int} {r : Bool} {n : Nat} {a : Option Addr} {c : Nat} {w : World} (hv : VOut root leaf l i r) (hn : l.length = n) (hf : leaf.size < 2147483648) (hr : RowAt w (.slice a n c) (l.map Value.string)) (hs : ∀ s ∈ l, s.size < 2147483648) :
    Calls Try.prog 23 #[.string root, .string leaf, .int .i64 i, .slice a n c] w fun e w' => e = .returned (.bool r) ∧ Below w.heap.size w w' := ver_c hv.1 hn hv.2 hf hr hs
theorem prf_small {L : List ByteArray} (hs : ∀ s ∈ L, s.size < 2147483648) (i k : Nat) : ∀ s ∈ DG.prf L i k, s.size < 2147483648 := by
  intro s hm
  unfold DG.prf at hm
  obtain ⟨j, _, rfl⟩ := List.mem_map.1 hm
  exact getD_size (DG.lvl_sizes hs j).2 (DG.lvl_sizes hs j).1 _
theorem strs_one (L : List ByteArray) : ∀ u ∈ L.map Value.string, u.oneCell' = true := fun u hu => by
  obtain ⟨x, _, rfl⟩ := List.mem_map.1 hu
  rfl
end Go.Proofs.Ytfikbcgadpbblaa
