/- A change, as an argument; and what both Verifys are given. No conditions. -/
import Derived.Test.YtfikbcgadpbblaaDigLaw0
namespace Go.Proofs.Ytfikbcgadpbblaa
set_option linter.unusedVariables false
open Go.ChangeShapes Go.WideShapes Go.ChangeAt Go.RowKit Go.Joins
section
variable {H : Type} {enc : TypeId × Value → H} {W : World}
theorem open_chg {base : Nat} {v : Value} {d : DataW H} {p : List MemPlace} (hv : Value.okWide Try.prog W .any base 33 v) (h : DataW.Trod enc Try.prog W 0 (fun _ => true) true 33 v d p) :
    ∃ (x y z : Int) (s : ByteArray), v = .agg #[.int .i64 x, .int .i64 y, .int .i64 z, .string s] ∧ (Lit.int .i64 x).wf = true ∧ (Lit.int .i64 y).wf = true ∧ (Lit.int .i64 z).wf = true ∧ s.size ≤ maxLen := by
  obtain ⟨v0, v1, v2, v3, y0, y1, y2, y3, n, rfl, _, _, h0, h1, h2, h3⟩ := open_agg4 Try.underlying33 (by kernel_rfl) (by kernel_rfl) hv h
  obtain ⟨a, e0, _, wa⟩ := DataW.trod_int Try.underlying3 h0
  obtain ⟨b, e1, _, wb⟩ := DataW.trod_int Try.underlying3 h1
  obtain ⟨c, e2, _, wc⟩ := DataW.trod_int Try.underlying3 h2
  obtain ⟨s, e3, _, ws⟩ := DataW.trod_string Try.underlying9 h3
  simp at e0 e1 e2 e3
  subst e0 e1 e2 e3
  exact ⟨a, b, c, s, rfl, wa, wb, wc, ws⟩
end
/-- A list of strings that may be handed to either Verify. -/
def PL (W : World) (v : Value) : Prop := ∃ (l : List ByteArray) (a : Option Addr) (c : Nat), v = .slice a l.length c ∧ RowAt W (.slice a l.length c) (l.map Value.string) ∧ ∀ s ∈ l, s.size < 2147483648
theorem PL.keep {W W' : World} {v : Value} (h : PL W v) (hb : Below W.heap.size W W') : PL W' v := by
  obtain ⟨l, a, c, rfl, hr, hs⟩ := h
  exact ⟨l, a, c, rfl, hr.keep hb, hs⟩
/-- Both answer the same. -/
theorem both_any {root leaf : ByteArray} {i : Int} {v : Value} {W : World} (hp : PL W v) (hi : -9223372036854775808 ≤ i ∧ i ≤ 9223372036854775807) (hf : leaf.size < 2147483648) :
    ∃ b : Bool, ∀ V, Below W.heap.size W V → Calls Try.prog 23 #[.string root, .string leaf, .int .i64 i, v] V (fun e w' => e = .returned (.bool b) ∧ Below V.heap.size V w') ∧ Calls Try.prog 24 #[.string root, .string leaf, .int .i64 i, v] V fun e w' => e = .returned (.bool b) ∧ Below V.heap.size V w' := by
  obtain ⟨l, a, c, rfl, hr, hs⟩ := hp
  exact ⟨DG.verify root leaf i l, fun V hV => ⟨verify_any root leaf i a c l V hi hf (hr.keep hV) hs, rverify_any root leaf i a c l V hi hf (hr.keep hV) hs⟩⟩
theorem own_pl {W : World} {B n : Nat} {v : Value} {l : List ByteArray} (h : W.ownsRow B 9 1 v n (l.map Value.string)) (hs : ∀ s ∈ l, s.size < 2147483648) : PL W v := by
  have hn : n = l.length := by have := h.1; simpa using this.symm
  subst hn
  obtain ⟨a, c, rfl⟩ := own_shape h
  exact ⟨l, a, c, rfl, row_own h (by rw [List.length_map]), hs⟩
end Go.Proofs.Ytfikbcgadpbblaa
