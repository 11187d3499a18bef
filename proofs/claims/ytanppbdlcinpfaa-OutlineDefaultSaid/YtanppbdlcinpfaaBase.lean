/- What every layer uses: worlds that only grow, rows that lie in memory, arguments opened. No conditions. -/
import Derived.Test.YtanppbdlcinpfaaRows
import Derived.Handy
import Derived.BigQuiet
import Derived.Deep.QuietTactic
import Derived.Laws.EntriesVeiled
import Derived.WalkSmall
import Derived.Lib.Hide
import Derived.WalkSpells
import Derived.WalkLawsBesides
import Derived.ArgAppend
import Derived.Deep.RegionHeld3
import Derived.Deep.AppendLies
import Derived.ProofKit
import Derived.OpenShut
import Derived.ChangeSlices
import Derived.SliceStrings
import Derived.Lib.SmallJoins
import Derived.Laws.IdiomArrays
namespace Go.Proofs.Ytanppbdlcinpfaa
set_option maxRecDepth 100000
open Go.ChangeShapes Go.WideShapes Go.ChangeAt Go.RowKit Go.Joins Go.Deep

theorem bnext {w w1 w2 : World} (h : Below w.heap.size w w1) (k : Below w1.heap.size w1 w2) : Below w.heap.size w w2 := h.trans (k.mono h.size)
theorem balloc {w w1 : World} (h : Below w.heap.size w w1) (o : Obj) : Below w.heap.size w (w1.alloc o) := h.alloc h.size o
theorem bset {w w1 : World} (h : Below w.heap.size w w1) {p : Addr} (hp : w.heap.size ≤ p.block) (u : Value) : Below w.heap.size w (w1.setCell p u) := h.setCell hp u
theorem bcell {W w1 : World} (hb : Below W.heap.size W w1) : (∀ b o, b < W.heap.size → w1.cell? ⟨b, o, none⟩ = W.cell? ⟨b, o, none⟩) ∧ (∀ b o, b < W.heap.size → w1.frozen? ⟨b, o, none⟩ = W.frozen? ⟨b, o, none⟩) :=
  ⟨fun b o h => hb.cell (p := ⟨b, o, none⟩) h, fun b o h => hb.frozen (p := ⟨b, o, none⟩) h⟩
theorem ret1 {a b : Int} (h : a = b) : Ending.returned (.int .i64 a) = .returned (.int .i64 b) := by rw [h]
theorem retb {a b : Bool} (h : a = b) : Ending.returned (.bool a) = .returned (.bool b) := by rw [h]
theorem rets {a b : ByteArray} (h : a = b) : Ending.returned (.string a) = .returned (.string b) := by rw [h]
theorem retv {a b : Value} (h : a = b) : Ending.returned a = .returned b := by rw [h]
theorem own : ownKnob Try.prog.godebug = none := by kernel_rfl
theorem laidOut : laidOutB Try.prog = true := by kernel_rfl
theorem bd64 {a : Int} (h : (Lit.int .i64 a).wf = true) : -9223372036854775808 ≤ a ∧ a ≤ 9223372036854775807 := by
  have hmin : IntKind.i64.min = -9223372036854775808 := rfl
  have hmax : IntKind.i64.max = 9223372036854775807 := rfl
  simp only [Lit.wf, Bool.and_eq_true, decide_eq_true_eq] at h; omega
theorem bd8 {a : Int} (h : (Lit.int .u8 a).wf = true) : 0 ≤ a ∧ a ≤ 255 := by
  have hmin : IntKind.u8.min = 0 := rfl
  have hmax : IntKind.u8.max = 255 := rfl
  simp only [Lit.wf, Bool.and_eq_true, decide_eq_true_eq] at h; omega
theorem info_int : (Try.prog.info? 3).map (fun i => (i.zero, i.size, i.bytes)) = some (some (.int .i64 0), 1, 8) := by kernel_rfl
theorem info_byte : (Try.prog.info? 5).map (fun i => (i.zero, i.size, i.bytes)) = some (some (.int .u8 0), 1, 1) := by kernel_rfl
theorem info_string : (Try.prog.info? 9).map (fun i => (i.zero, i.size, i.bytes)) = some (some (.string ⟨#[]⟩), 1, 16) := by kernel_rfl
theorem cell_one_new (w : World) (u : Value) (T : TypeId) : ∀ j v, [u][j]? = some v → (w.alloc (.cells #[u] T)).cell? ((⟨w.heap.size, 0, none⟩ : Addr).add j) = some v := by
  intro j v hj
  match j, hj with
  | 0, hj =>
    simp at hj
    subst hj
    rw [Addr.add_lit, World.cell?_alloc_at _ _ _ _ rfl]
    rfl
theorem own_shape {w : World} {B e size n : Nat} {v : Value} {xs : List Value} (h : w.ownsRow B e size v n xs) : ∃ a cap, v = .slice a n cap := by
  rcases h.2 with ⟨hv, hn⟩ | ⟨g, cap, cur, hv, _⟩
  · exact ⟨none, 0, by rw [hv, hn]⟩
  · exact ⟨_, _, hv⟩
/-- The values of a list, as a slice that lies in memory. -/
def RowAt (w : World) (v : Value) (U : List Value) : Prop := ∃ a cap, v = .slice a U.length cap ∧ (U = [] ∨ ∃ g o, a = some ⟨g, o, none⟩ ∧ g < w.heap.size ∧ ∀ i, i < U.length → w.cell? ⟨g, o + i, none⟩ = some (U.getD i (.bool false)))
theorem RowAt.out {w : World} {v : Value} {U : List Value} (h : RowAt w v U) : ∃ a cap, v = .slice a U.length cap ∧ (U = [] ∨ ∃ g o, a = some ⟨g, o, none⟩ ∧ g < w.heap.size ∧ ∀ i, i < U.length → w.cell? ⟨g, o + i, none⟩ = some (U.getD i (.bool false))) := h
theorem RowAt.keep {w w' : World} {v : Value} {U : List Value} (h : RowAt w v U) (hb : Below w.heap.size w w') : RowAt w' v U := by
  obtain ⟨a, cap, rfl, h | ⟨g, o, rfl, hg, hc⟩⟩ := h.out
  · exact ⟨a, cap, rfl, Or.inl h⟩
  · exact ⟨_, cap, rfl, Or.inr ⟨g, o, rfl, Nat.lt_of_lt_of_le hg hb.size, fun i hi => (hb.cell (p := ⟨g, o + i, none⟩) hg).trans (hc i hi)⟩⟩
theorem own_below {w w' : World} {B e size n : Nat} {v : Value} {xs : List Value} (h : w.ownsRow B e size v n xs) (hb : Below w.heap.size w w') : w'.ownsRow B e size v n xs := by
  refine ⟨h.1, ?_⟩
  rcases h.2 with hn | ⟨g, cap, cur, rfl, hg, hgg, rest⟩
  · exact .inl hn
  · exact .inr ⟨g, cap, cur, rfl, hg, by rw [hb.block g (Array.getElem?_eq_some_iff.1 hgg).1]; exact hgg, rest⟩
theorem own_at {w : World} {B e n : Nat} {v : Value} {xs : List Value} (h : w.ownsRow B e 1 v n xs) (hn : 0 < n) : ∃ g cap, v = .slice (some ⟨g, 0, none⟩) n cap ∧ B ≤ g ∧ g < w.heap.size ∧ ∀ j u, xs[j]? = some u → w.cell? ⟨g, j, none⟩ = some u := by
  rcases h.2 with ⟨rfl, rfl⟩ | ⟨g, cap, cur, rfl, hb, hg, _⟩
  · omega
  · refine ⟨g, cap, rfl, hb, (Array.getElem?_eq_some_iff.1 hg).1, fun j u hu => ?_⟩
    have := h.cells (g := g) rfl j u hu
    rw [show ((⟨g, 0, none⟩ : Addr).add j) = ⟨g, j, none⟩ by cases j <;> simp [Addr.add]] at this
    exact this
theorem row_own {w : World} {B e : Nat} {v : Value} {U : List Value} {n : Nat} (h : w.ownsRow B e 1 v n U) (hn : n = U.length) : RowAt w v U := by
  subst hn
  rcases Nat.eq_zero_or_pos U.length with e0 | e0
  · obtain ⟨a, c, rfl⟩ := own_shape h
    exact ⟨a, c, rfl, Or.inl (List.eq_nil_of_length_eq_zero e0)⟩
  · obtain ⟨g, cap, rfl, _, hg, hc⟩ := own_at h e0
    exact ⟨_, cap, rfl, Or.inr ⟨g, 0, rfl, hg, fun i hi => by rw [Nat.zero_add]; exact hc i _ (by simp [List.getD, hi])⟩⟩
theorem row_first {w : World} {a : Option Addr} {n cap m : Nat} {U : List Value} (h : RowAt w (.slice a n cap) U) (hm : m ≤ U.length) : RowAt w (.slice a m cap) (U.take m) := by
  have hl : m = (U.take m).length := by rw [List.length_take, Nat.min_eq_left hm]
  obtain ⟨a', cap', he, h⟩ := h.out
  injection he with h1 h2 h3
  subst h1 h3
  refine ⟨a, cap, congrArg (fun z => Value.slice a z cap) hl, ?_⟩
  rcases h with h | ⟨g, o, rfl, hg, hc⟩
  · exact Or.inl (by simp [h])
  · refine Or.inr ⟨g, o, rfl, hg, fun i hi => ?_⟩
    have hi' : i < m ∧ i < U.length := by simp at hi; omega
    rw [hc i hi'.2]
    simp [List.getD, hi'.1]
/-- One cell of a row. -/
theorem RowAt.cell {w : World} {a : Option Addr} {n cap k : Nat} {U : List Value} (h : RowAt w (.slice a n cap) U) (hk : k < U.length) : ∃ g o, a = some ⟨g, o, none⟩ ∧ g < w.heap.size ∧ w.cell? ⟨g, o + k, none⟩ = some U[k] := by
  obtain ⟨a', cap', he, h⟩ := h.out
  injection he with h1 h2 h3
  rcases h with h | ⟨g, o, h4, hg, hc⟩
  · simp [h] at hk
  · exact ⟨g, o, by rw [h1, h4], hg, by rw [hc k hk]; simp [List.getD, hk]⟩
/-- The same cells at the same values. -/
theorem own_grown {w w' : World} {B e n : Nat} {v : Value} {xs : List Value} {row : Option Nat} (h : w.ownsRow B e 1 v n xs) (hg : w.grownBy w' row) (hr : ∀ k, row = some k → k < B) : w'.ownsRow B e 1 v n xs :=
  h.kept (row := row) hg (by cases hw : v.ownBlock with | none => exact Or.inl rfl | some k => exact Or.inr (fun e => by have := (h.lt k hw).1; have := hr k e.symm; omega))
section
variable {H : Type} {enc : TypeId × Value → H} {W : World}
theorem spot_none {w : World} {a : Addr} {v : Value} (h : w.cell? a = some v) : a = ⟨a.block, a.off, none⟩ := by
  obtain ⟨g, o, s⟩ := a
  cases s with
  | none => rfl
  | some s => exfalso; unfold World.cell? at h; split at h <;> simp at h
theorem row_of {a : Addr} {U : List Value} {n cap : Nat} (hn : n = U.length) (h : ∀ i, i < U.length → W.cell? (a.add i) = some (U.getD i (.bool false))) : RowAt W (.slice (some a) n cap) U := by
  subst hn
  refine ⟨_, cap, rfl, ?_⟩
  rcases Nat.eq_zero_or_pos U.length with e | e
  · exact Or.inl (List.eq_nil_of_length_eq_zero e)
  · right
    have h0 := h 0 e
    have h0' : W.cell? a = some (U.getD 0 (.bool false)) := by simpa [Addr.add] using h0
    have hs := spot_none h0'
    have hlt := World.block_lt_of_cell? W _ h0'
    obtain ⟨g, o, s⟩ := a
    simp at hs
    subst hs
    refine ⟨g, o, rfl, hlt, fun i hi => ?_⟩
    rw [← h i hi]
    cases i <;> simp [Addr.add]
theorem open_l {base : Nat} {v : Value} {d : DataW H} {p : List MemPlace} (hv : Value.okWide Try.prog W .any base 22 v) (h : DataW.Trod enc Try.prog W 0 (fun _ => true) true 22 v d p) :
    ∃ L : List Int, RowAt W v (L.map (Value.int .i64)) ∧ (L.length ≤ maxLen ∧ ∀ a n c, v = .slice a n c → n ≤ c) ∧ ∀ x, x ∈ L → -9223372036854775808 ≤ x ∧ x ≤ 9223372036854775807 := by
  obtain ⟨a0, len, cap, rfl⟩ := okWide_slice Try.underlying22 hv
  obtain ⟨fuel, hf⟩ := h
  rcases open_ints Try.underlying22 Try.underlying3 (by kernel_rfl) hf with ⟨hcs, _⟩ | ⟨a, len', cap', zs, hcs, _, hl, hm, hzl, _, hz, hwf⟩
  · simp [Value.cells] at hcs
    obtain ⟨rfl, rfl, rfl⟩ := hcs
    exact ⟨[], ⟨none, 0, rfl, Or.inl rfl⟩, ⟨by simp [maxLen], fun a n c h => by injection h with _ h2 h3; omega⟩, by simp⟩
  · simp [Value.cells] at hcs
    obtain ⟨rfl, rfl, rfl⟩ := hcs
    rw [if_pos rfl] at hzl
    refine ⟨zs.take len, row_of (by simp; omega) (fun i hi => ?_), ⟨by simp; omega, fun a n c h => by injection h with _ h2 h3; omega⟩, fun x hx => bd64 (hwf x (List.mem_of_mem_take hx))⟩
    have hi' : i < len ∧ i < zs.length := by simp at hi; omega
    rw [hz i hi'.2]
    simp [List.getD, hi'.1, hi'.2]
end
section
variable {H : Type} {enc : TypeId × Value → H} {P : Program} {w : World} {base : Nat} {spare : Nat → Bool} {held : Bool}
theorem okWide_arr {n : Nat} {e t : TypeId} {r : Reach} {b0 : Nat} {v : Value} (ht : P.underlying t = some (.array n e)) (h : Value.okWide P w r b0 t v) : ∃ cs, v = .agg cs ∧ cs.size = P.cellsOf t := by
  simp only [Value.okWide, ht] at h
  obtain ⟨cs, h1, h2, _⟩ := h
  exact ⟨cs, h1, h2⟩
theorem open_arr2 {e t : TypeId} {k : IntKind} {r : Reach} {b0 : Nat} {v : Value} {d : DataW H} {p : List MemPlace} (ht : P.underlying t = some (.array 2 e)) (he : P.underlying e = some (.int k)) (hc : P.cellsOf e = 1) (hC : P.cellsOf t = 2)
    (hv : Value.okWide P w r b0 t v) (h : DataW.Trod enc P w base spare held t v d p) : ∃ a b : Int, v = .agg #[.int k a, .int k b] ∧ (Lit.int k a).wf = true ∧ (Lit.int k b).wf = true := by
  obtain ⟨cs, rfl, hsz⟩ := okWide_arr ht hv
  obtain ⟨c0, c1, rfl⟩ := array2 (hsz.trans hC)
  obtain ⟨fuel, hf⟩ := h
  obtain ⟨xs, m, _, _, _, hl, hx⟩ := DataW.trod_array ht hf
  have x0 := hx 0 (by omega)
  have x1 := hx 1 (by omega)
  rw [hc, List.getElem?_eq_getElem (by omega)] at x0 x1
  simp [Value.cells] at x0 x1
  obtain ⟨a, e0, _, wa⟩ := DataW.trod_int he x0
  obtain ⟨b, e1, _, wb⟩ := DataW.trod_int he x1
  simp at e0 e1
  subst e0 e1
  exact ⟨a, b, rfl, wa, wb⟩
theorem open_arr3 {e t : TypeId} {k : IntKind} {r : Reach} {b0 : Nat} {v : Value} {d : DataW H} {p : List MemPlace} (ht : P.underlying t = some (.array 3 e)) (he : P.underlying e = some (.int k)) (hc : P.cellsOf e = 1) (hC : P.cellsOf t = 3)
    (hv : Value.okWide P w r b0 t v) (h : DataW.Trod enc P w base spare held t v d p) : ∃ a b c : Int, v = .agg #[.int k a, .int k b, .int k c] ∧ (Lit.int k a).wf = true ∧ (Lit.int k b).wf = true ∧ (Lit.int k c).wf = true := by
  obtain ⟨cs, rfl, hsz⟩ := okWide_arr ht hv
  obtain ⟨c0, c1, c2, rfl⟩ := array3 (hsz.trans hC)
  obtain ⟨fuel, hf⟩ := h
  obtain ⟨xs, m, _, _, _, hl, hx⟩ := DataW.trod_array ht hf
  have x0 := hx 0 (by omega)
  have x1 := hx 1 (by omega)
  have x2 := hx 2 (by omega)
  rw [hc, List.getElem?_eq_getElem (by omega)] at x0 x1 x2
  simp [Value.cells] at x0 x1 x2
  obtain ⟨a, e0, _, wa⟩ := DataW.trod_int he x0
  obtain ⟨b, e1, _, wb⟩ := DataW.trod_int he x1
  obtain ⟨c, e2, _, wc⟩ := DataW.trod_int he x2
  simp at e0 e1 e2
  subst e0 e1 e2
  exact ⟨a, b, c, rfl, wa, wb, wc⟩
theorem open_pair {e t : TypeId} {f0 f1 : Field} {k : IntKind} {r : Reach} {b0 : Nat} {v : Value} {d : DataW H} {p : List MemPlace} (hs : P.underlying t = some (.struct #[f0, f1])) (hone : oneCellFields P #[f0, f1] = true) (hC : P.cellsOf t = 2) (k0 : f0.type = e) (k1 : f1.type = e) (he : P.underlying e = some (.int k))
    (hv : Value.okWide P w r b0 t v) (h : DataW.Trod enc P w base spare held t v d p) : ∃ a b : Int, v = .agg #[.int k a, .int k b] ∧ (Lit.int k a).wf = true ∧ (Lit.int k b).wf = true := by
  obtain ⟨c0, c1, y0, y1, m, rfl, rfl, rfl, hy0, hy1⟩ := open_agg2 hs hone hC hv h
  rw [k0] at hy0
  rw [k1] at hy1
  obtain ⟨a, e0, _, wa⟩ := DataW.trod_int he hy0
  obtain ⟨b, e1, _, wb⟩ := DataW.trod_int he hy1
  simp at e0 e1
  subst e0 e1
  exact ⟨a, b, rfl, wa, wb⟩
end
end Go.Proofs.Ytanppbdlcinpfaa
