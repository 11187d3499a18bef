/- What the laws share. No conditions. -/
import Derived.Test.YtanppbdlcinpfaaOl45
import Derived.Test.YtanppbdlcinpfaaOl42
set_option linter.unusedSimpArgs false
set_option linter.unusedVariables false
namespace Go.Proofs.Ytanppbdlcinpfaa
set_option maxRecDepth 100000
set_option linter.unusedVariables false
open Go.RowKit Go.Deep
theorem CaArg.keep {W V : World} {v : Value} {G S A : List Int} {q0 q1 q2 x y : Int} (h : CaArg W v G S A q0 q1 q2 x y) (hb : Below W.heap.size W V) : CaArg V v G S A q0 q1 q2 x y := by
  obtain ⟨ag, cg, as', cs, aa, ca, e, ⟨h0, p0⟩, ⟨h1, p1⟩, ⟨h2, p2⟩, h3, h4⟩ := h
  exact ⟨ag, cg, as', cs, aa, ca, e, ⟨h0.keep hb, p0⟩, ⟨h1.keep hb, p1⟩, ⟨h2.keep hb, p2⟩, h3, h4⟩
theorem tcs_ok {f : Nat → Nat → Int → Int} : ∀ {C : List (List Pt)} {k0 : Nat}, (∀ c ∈ C, c.length ≤ 1000) → ∀ c ∈ tcs f k0 C, c.length ≤ 1000
  | [], _, _, c, hc => by cases hc
  | d :: C, k0, h, c, hc => by
    rcases List.mem_cons.1 hc with rfl | hc
    · rw [tct_len]; exact h d (List.mem_cons_self ..)
    · exact tcs_ok (fun x hx => h x (List.mem_cons_of_mem _ hx)) c hc
theorem draw_ok {G : Gl} {m : Nat} (h : MkOk G m) (R : List (List AX.Tn)) (at' : List Int) : CsOk (OL.draw G R at').cs ∧ (OL.draw G R at').an.length ≤ 1000 :=
  ⟨⟨by unfold OL.draw; dsimp only; rw [tcs_len]; exact h.ok.cs.n, tcs_ok h.ok.cs.m⟩, by unfold OL.draw; dsimp only; rw [tan_len]; exact h.ok.an⟩
theorem scale_ok {D : Dr} (h : CsOk D.cs) (h2 : D.an.length ≤ 1000) (n : Int) : CsOk (OL.scale D n).cs ∧ (OL.scale D n).an.length ≤ 1000 := by
  have hz : CsOk OL.zd.cs ∧ OL.zd.an.length ≤ 1000 := ⟨⟨by decide, by decide⟩, by decide⟩
  unfold OL.scale
  split
  · exact hz
  · split
    · exact ⟨⟨by dsimp only; rw [tcs_len]; exact h.n, tcs_ok h.m⟩, by dsimp only; rw [tan_len]; exact h2⟩
    · exact hz
theorem src_int {W : World} {a : Option Addr} {m c n : Nat} {L : List Int} (h : SrcN 1 W (.slice a m c) n (L.map (Value.int .i64))) {i : Nat} {z : Int} (hz : L[i]? = some z) : ∃ g o, a = some ⟨g, o, none⟩ ∧ W.cell? ⟨g, o + i, none⟩ = some (.int .i64 z) := by
  obtain ⟨ao, c', e, hl, h1⟩ := h
  injection e with e1 _ _
  subst e1
  rcases h1 with ⟨h1, -⟩ | ⟨g, o, rfl, hg, hc⟩
  · rw [List.length_map] at hl
    have := (List.getElem?_eq_some_iff.1 hz).1
    omega
  · exact ⟨g, o, rfl, hc i _ (by rw [List.getElem?_map, hz]; rfl)⟩
end Go.Proofs.Ytanppbdlcinpfaa
