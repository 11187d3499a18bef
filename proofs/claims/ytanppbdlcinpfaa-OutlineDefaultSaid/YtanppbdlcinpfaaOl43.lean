/- Arguments of the laws, opened. No conditions. -/
import Derived.Test.YtanppbdlcinpfaaOl39
import Derived.Deep.Matrix
import Derived.Deep.Slices
set_option linter.unusedSimpArgs false
set_option linter.unusedVariables false
namespace Go.Proofs.Ytanppbdlcinpfaa
set_option maxRecDepth 100000
set_option linter.unusedVariables false
open Go.ChangeShapes Go.WideShapes Go.ChangeAt Go.RowKit Go.Joins Go.Deep
theorem spot_lit {w : World} {a : Addr} {v : Value} (h : w.cell? (a.add 0) = some v) : a = ⟨a.block, a.off, none⟩ := by
  have h0 : w.cell? a = some v := by simpa [Addr.add] using h
  exact spot_none h0
theorem add_lit' (g o i : Nat) : (⟨g, o, none⟩ : Addr).add i = ⟨g, o + i, none⟩ := by cases i <;> simp [Addr.add]
/-- A slice may be cut up to its length. -/
def Cap (v : Value) : Prop := ∀ a n c, v = .slice a n c → n ≤ c ∧ c ≤ maxLen
section
variable {H : Type} {enc : TypeId × Value → H} {W : World}
/-- A slice of elements of k cells each, where an element is a number of them. -/
theorem t_elems {α : Type} [Inhabited α] (f : α → List Value) (k : Nat) (hk : 0 < k) (hf : ∀ z, (f z).length = k) {t e : TypeId} (ht : Try.prog.underlying t = some (.slice e)) (hC : Try.prog.cellsOf e = k)
    (hone : ∀ n cs' (y : DataW H × List MemPlace), DataW.trod enc Try.prog W 0 (fun _ => true) true n e cs' = some y → ∃ z, cs' = f z) {fuel : Nat} {cs : List Value} {y : DataW H × List MemPlace} (h : DataW.trod enc Try.prog W 0 (fun _ => true) true fuel t cs = some y) :
    ∃ (v : Value) (l : List α), cs = [v] ∧ SrcN k W v l.length (l.flatMap f) ∧ l.length ≤ maxLen ∧ Cap v := by
  rcases open_slice ht h with ⟨hcs, _⟩ | ⟨a, len, cap, m, n', D, Pl, hcs, _, hl, hm, hmm, _, hx⟩
  · exact ⟨_, [], hcs, ⟨none, 0, rfl, by simp, .inl ⟨rfl, fun _ => rfl⟩⟩, by simp [maxLen], fun a n c h => by injection h with _ h2 h3; subst h2 h3; exact ⟨Nat.le_refl _, by simp [maxLen]⟩⟩
  · simp at hmm
    subst hmm
    rw [hC] at hx
    have each : ∀ i, i < m → ∃ z : α, ∀ j (u : Value), j < k → (f z)[j]? = some u → W.cell? (a.add (i * k + j)) = some u := fun i hi => by
      obtain ⟨cs', h1, h2⟩ := hx i hi
      obtain ⟨z, rfl⟩ := hone _ _ _ h2
      obtain ⟨_, _, hcell⟩ := World.cells?_some h1
      refine ⟨z, fun j u hj hu => ?_⟩
      have e0 := hcell j hj
      rw [add_add] at e0
      rw [e0]
      exact hu
    obtain ⟨q, hq⟩ := choose_lt each
    have hlen : ((List.range len).map q).length = len := by simp
    refine ⟨_, (List.range len).map q, hcs, ⟨some a, m, by rw [hlen], AX.flat_len hf _, ?_⟩, by rw [hlen]; omega, fun a' n c h => by injection h with _ h2 h3; subst h2 h3; exact ⟨hl, hm⟩⟩
    rcases Nat.eq_zero_or_pos len with e | e
    · exact .inl ⟨by rw [hlen]; exact e, fun e => by simp at e⟩
    · right
      obtain ⟨u0, hu0⟩ : ∃ u0, (f (q 0))[0]? = some u0 := ⟨_, List.getElem?_eq_getElem (by rw [hf]; exact hk)⟩
      have h0 := hq 0 (by omega) 0 u0 hk hu0
      have h0' := spot_lit (w := W) (a := a) (by simpa using h0)
      have hlt := World.block_lt_of_cell? W _ h0
      obtain ⟨g, o, s⟩ := a
      simp at h0'
      subst h0'
      rw [add_lit'] at hlt
      refine ⟨g, o, rfl, hlt, fun j u hu => ?_⟩
      obtain ⟨z, hz, hzu⟩ := flat_get hk hf _ j u hu
      have hi : j / k < len := by have := (List.getElem?_eq_some_iff.1 hz).1; rw [hlen] at this; exact this
      rw [List.getElem?_map, List.getElem?_range hi] at hz
      obtain rfl := Option.some.inj hz
      have := hq (j / k) (by omega) (j % k) u (Nat.mod_lt _ hk) hzu
      rw [add_lit', show o + (j / k * k + j % k) = o + j by rw [Nat.mul_comm, Nat.div_add_mod]] at this
      exact this
theorem int_field {n : Nat} {l : List Value} {y : DataW H × List MemPlace} (h : DataW.trod enc Try.prog W 0 (fun _ => true) true n 3 l = some y) : ∃ z : Int, l = [.int .i64 z] := by
  obtain ⟨a, e0, _, _⟩ := DataW.trod_int Try.underlying3 h
  exact ⟨a, e0⟩
theorem SrcN.int {v : Value} {l : List Int} (h : SrcN 1 W v l.length (l.flatMap fun z => [Value.int .i64 z])) : InAt W v l := by
  obtain ⟨ao, c, e, -, h⟩ := h
  refine ⟨ao, c, e, ?_⟩
  rcases h with ⟨h, -⟩ | ⟨g, o, e2, hg, hc⟩
  · exact .inl (List.eq_nil_of_length_eq_zero h)
  · refine .inr ⟨g, o, e2, hg, fun i z hz => ?_⟩
    have := hc (i * 1 + 0) (.int .i64 z) (AX.flat_at (f := fun z => [Value.int .i64 z]) (fun _ => rfl) l i z 0 _ hz rfl)
    simpa using this
/-- A list of numbers as an argument. -/
def InArg (W : World) (v : Value) (l : List Int) : Prop := InAt W v l ∧ l.length ≤ maxLen ∧ Cap v
theorem t_ints {fuel : Nat} {cs : List Value} {y : DataW H × List MemPlace} (h : DataW.trod enc Try.prog W 0 (fun _ => true) true fuel 22 cs = some y) : ∃ v l, cs = [v] ∧ InArg W v l := by
  obtain ⟨v, l, e, h1, h2, h3⟩ := t_elems (fun z => [Value.int .i64 z]) 1 (by omega) (fun _ => rfl) Try.underlying22 (by kernel_rfl) (fun n cs' y h => int_field h) h
  exact ⟨v, l, e, h1.int, h2, h3⟩
theorem okWide_str {fs : Array Field} {t : TypeId} {r : Reach} {b0 : Nat} {v : Value} (ht : Try.prog.underlying t = some (.struct fs)) (h : Value.okWide Try.prog W r b0 t v) : ∃ cs, v = .agg cs ∧ cs.size = Try.prog.cellsOf t := by
  simp only [Value.okWide, ht] at h
  obtain ⟨cs, h1, h2, _⟩ := h
  exact ⟨cs, h1, h2⟩

theorem t_arr3 {fuel : Nat} {l : List Value} {y : DataW H × List MemPlace} (h : DataW.trod enc Try.prog W 0 (fun _ => true) true fuel 23 l = some y) : ∃ a b c : Int, l = [.int .i64 a, .int .i64 b, .int .i64 c] := by
  obtain ⟨xs, m, _, _, hl, hn, hx⟩ := DataW.trod_array Try.underlying23 h
  have hC : Try.prog.cellsOf 23 = 3 := by kernel_rfl
  have hI : Try.prog.cellsOf 3 = 1 := by kernel_rfl
  have h0 := hx 0 (by omega)
  have h1 := hx 1 (by omega)
  have h2 := hx 2 (by omega)
  rw [hC] at hl
  match l, hl, xs, hn, h0, h1, h2 with
  | [x0, x1, x2], _, [y0, y1, y2], _, h0, h1, h2 =>
    have k0 : DataW.trod enc Try.prog W 0 (fun _ => true) true m 3 [x0] = some y0 := by simpa [hI] using h0
    have k1 : DataW.trod enc Try.prog W 0 (fun _ => true) true m 3 [x1] = some y1 := by simpa [hI] using h1
    have k2 : DataW.trod enc Try.prog W 0 (fun _ => true) true m 3 [x2] = some y2 := by simpa [hI] using h2
    obtain ⟨a, e0, _, _⟩ := DataW.trod_int Try.underlying3 k0
    obtain ⟨b, e1, _, _⟩ := DataW.trod_int Try.underlying3 k1
    obtain ⟨c, e2, _, _⟩ := DataW.trod_int Try.underlying3 k2
    simp at e0 e1 e2
    subst e0 e1 e2
    exact ⟨a, b, c, rfl⟩
/-- A case as an argument. -/
def CaArg (W : World) (v : Value) (G S A : List Int) (q0 q1 q2 x y : Int) : Prop := ∃ ag cg as' cs aa ca, v = .agg #[.slice ag G.length cg, .slice as' S.length cs, .slice aa A.length ca, .int .i64 q0, .int .i64 q1, .int .i64 q2, .int .u8 x, .int .u8 y] ∧ InArg W (.slice ag G.length cg) G ∧ InArg W (.slice as' S.length cs) S ∧ InArg W (.slice aa A.length ca) A ∧ (0 ≤ x ∧ x ≤ 255) ∧ (0 ≤ y ∧ y ≤ 255)
theorem open_case {base : Nat} {v : Value} {d : DataW H} {p : List MemPlace} (hv : Value.okWide Try.prog W .any base 25 v) (h : DataW.Trod enc Try.prog W 0 (fun _ => true) true 25 v d p) : ∃ G S A q0 q1 q2 x y, CaArg W v G S A q0 q1 q2 x y := by
  obtain ⟨cs, rfl, hsz⟩ := okWide_str Try.underlying25 hv
  obtain ⟨fuel, hf⟩ := h
  obtain ⟨xs, m, _, _, hl, hn, hx⟩ := DataW.trod_struct Try.underlying25 hf
  have hC : Try.prog.cellsOf 25 = 8 := by kernel_rfl
  have hS : Try.prog.cellsOf 22 = 1 := by kernel_rfl
  have hA : Try.prog.cellsOf 23 = 3 := by kernel_rfl
  have hU : Try.prog.cellsOf 5 = 1 := by kernel_rfl
  have h0 := hx 0 _ rfl
  have h1 := hx 1 _ rfl
  have h2 := hx 2 _ rfl
  have h3 := hx 3 _ rfl
  have h4 := hx 4 _ rfl
  have h5 := hx 5 _ rfl
  obtain ⟨l⟩ := cs
  rw [hC] at hsz
  match l, hsz, xs, hn, h0, h1, h2, h3, h4, h5 with
  | [x0, x1, x2, x3, x4, x5, x6, x7], _, [y0, y1, y2, y3, y4, y5], _, h0, h1, h2, h3, h4, h5 =>
    have k0 : DataW.trod enc Try.prog W 0 (fun _ => true) true m 22 [x0] = some y0 := by simpa [hS, Value.cells] using h0
    have k1 : DataW.trod enc Try.prog W 0 (fun _ => true) true m 22 [x1] = some y1 := by simpa [hS, Value.cells] using h1
    have k2 : DataW.trod enc Try.prog W 0 (fun _ => true) true m 22 [x2] = some y2 := by simpa [hS, Value.cells] using h2
    have k3 : DataW.trod enc Try.prog W 0 (fun _ => true) true m 23 [x3, x4, x5] = some y3 := by simpa [hA, Value.cells] using h3
    have k4 : DataW.trod enc Try.prog W 0 (fun _ => true) true m 5 [x6] = some y4 := by simpa [hU, Value.cells] using h4
    have k5 : DataW.trod enc Try.prog W 0 (fun _ => true) true m 5 [x7] = some y5 := by simpa [hU, Value.cells] using h5
    obtain ⟨u0, l0, e0, g0⟩ := t_ints k0
    obtain ⟨u1, l1, e1, g1⟩ := t_ints k1
    obtain ⟨u2, l2, e2, g2⟩ := t_ints k2
    obtain ⟨a, b, c, e3⟩ := t_arr3 k3
    obtain ⟨x, e4, _, w4⟩ := DataW.trod_int Try.underlying5 k4
    obtain ⟨y, e5, _, w5⟩ := DataW.trod_int Try.underlying5 k5
    obtain rfl : x0 = u0 := by simpa using e0
    obtain rfl : x1 = u1 := by simpa using e1
    obtain rfl : x2 = u2 := by simpa using e2
    obtain ⟨rfl, rfl, rfl⟩ : x3 = .int .i64 a ∧ x4 = .int .i64 b ∧ x5 = .int .i64 c := by simpa using e3
    obtain rfl : x6 = .int .u8 x := by simpa using e4
    obtain rfl : x7 = .int .u8 y := by simpa using e5
    have f0 := g0.1
    have f1 := g1.1
    have f2 := g2.1
    obtain ⟨ar, cr, rfl, -⟩ := f0
    obtain ⟨aa, ca, rfl, -⟩ := f1
    obtain ⟨ag, cg, rfl, -⟩ := f2
    exact ⟨l0, l1, l2, a, b, c, x, y, ar, cr, aa, ca, ag, cg, rfl, g0, g1, g2, bd8 w4, bd8 w5⟩
end
end Go.Proofs.Ytanppbdlcinpfaa
