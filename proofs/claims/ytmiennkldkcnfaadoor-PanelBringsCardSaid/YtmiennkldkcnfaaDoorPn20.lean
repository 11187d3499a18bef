/- The arguments of the laws, opened. No conditions. -/
import Derived.Test.YtmiennkldkcnfaaDoorPn19
import Derived.Test.YtmiennkldkcnfaaDoorElems
namespace Go.Proofs.YtmiennkldkcnfaaDoor
set_option maxRecDepth 100000
set_option linter.unusedVariables false
open Go.ChangeShapes Go.WideShapes Go.ChangeAt Go.RowKit Go.Joins Go.Deep
theorem bdu8 {a : Int} (h : (Lit.int .u8 a).wf = true) : 0 ≤ a ∧ a ≤ 255 := by
  simp [Lit.wf, IntKind.min, IntKind.max, IntKind.signed, IntKind.bits] at h
  exact h
theorem bdu64 {a : Int} (h : (Lit.int .u64 a).wf = true) : 0 ≤ a ∧ a ≤ 18446744073709551615 := by
  simp [Lit.wf, IntKind.min, IntKind.max, IntKind.signed, IntKind.bits] at h
  exact h
theorem bdi64 {a : Int} (h : (Lit.int .i64 a).wf = true) : -9223372036854775808 ≤ a ∧ a ≤ 9223372036854775807 := by
  simp [Lit.wf, IntKind.min, IntKind.max, IntKind.signed, IntKind.bits] at h
  exact h
structure UsArg (W : World) (v : Value) (L : List Nat) : Prop where
  ua : UA W v L
  len : L.length ≤ maxLen
  cap : Cap v
  lt : ∀ x ∈ L, x < 18446744073709551616
abbrev UsN := { a : Nat // a < 18446744073709551616 }
instance : Inhabited UsN := ⟨⟨0, by omega⟩⟩
section
variable {H : Type} {enc : TypeId × Value → H} {W : World}
theorem okWide_str {fs : Array Field} {t : TypeId} {r : Reach} {b0 : Nat} {v : Value} (ht : Tryd.prog.underlying t = some (.struct fs)) (h : Value.okWide Tryd.prog W r b0 t v) : ∃ cs, v = .agg cs ∧ cs.size = Tryd.prog.cellsOf t := by
  simp only [Value.okWide, ht] at h
  obtain ⟨cs, h1, h2, _⟩ := h
  exact ⟨cs, h1, h2⟩
theorem us_one {n : Nat} {l : List Value} {y : DataW H × List MemPlace} (h : DataW.trod enc Tryd.prog W 0 (fun _ => true) true n 63 l = some y) : ∃ z : UsN, l = [U6 z.1] := by
  obtain ⟨a, e0, _, w0⟩ := DataW.trod_int Tryd.underlying63 h
  have hb := bdu64 w0
  refine ⟨⟨a.toNat, by omega⟩, ?_⟩
  rw [e0]
  show [Value.int .u64 a] = [Value.int .u64 ((a.toNat : Nat) : Int)]
  rw [Int.toNat_of_nonneg hb.1]
theorem t_us {n : Nat} {cs : List Value} {y : DataW H × List MemPlace} (h : DataW.trod enc Tryd.prog W 0 (fun _ => true) true n 32 cs = some y) : ∃ v l, cs = [v] ∧ UsArg W v l := by
  obtain ⟨v', l, e, h1, h2, h3⟩ := t_elems (α := UsN) (fun z => [U6 z.1]) 1 (by omega) (fun _ => rfl) Tryd.underlying32 (by kernel_rfl) (fun n cs' y h => us_one h) h
  refine ⟨v', l.map Subtype.val, e, ⟨?_, by rw [List.length_map]; exact h2, h3, fun x hx => ?_⟩⟩
  · unfold UA
    rw [List.length_map, List.map_map]
    have : l.flatMap (fun z => [U6 z.1]) = l.map (U6 ∘ Subtype.val) := by
      clear h1 h2 h3 e h
      induction l with
      | nil => rfl
      | cons a l ih => rw [List.flatMap_cons, ih]; rfl
    rw [this] at h1
    exact h1
  · obtain ⟨z, -, rfl⟩ := List.mem_map.1 hx
    exact z.2
theorem open_us {base : Nat} {v : Value} {d : DataW H} {p : List MemPlace} (hv : Value.okWide Tryd.prog W .any base 32 v) (h : DataW.Trod enc Tryd.prog W 0 (fun _ => true) true 32 v d p) : ∃ l, UsArg W v l := by
  obtain ⟨a0, len0, cap0, rfl⟩ := okWide_slice Tryd.underlying32 hv
  obtain ⟨fuel, hf⟩ := h
  obtain ⟨v', l, e, h1⟩ := t_us hf
  simp [Value.cells] at e
  rw [e]
  exact ⟨l, h1⟩
theorem open_rc {base : Nat} {v : Value} {d : DataW H} {p : List MemPlace} (hv : Value.okWide Tryd.prog W .any base 31 v) (h : DataW.Trod enc Tryd.prog W 0 (fun _ => true) true 31 v d p) : ∃ c, v = rcV c ∧ rcOk c := by
  obtain ⟨cs, rfl, hsz⟩ := okWide_str Tryd.underlying31 hv
  obtain ⟨fuel, hf⟩ := h
  obtain ⟨xs, m, _, _, hl, hn, hx⟩ := DataW.trod_struct Tryd.underlying31 hf
  have hC : Tryd.prog.cellsOf 31 = 4 := by kernel_rfl
  have hI : Tryd.prog.cellsOf 3 = 1 := by kernel_rfl
  have h0 := hx 0 _ rfl
  have h1 := hx 1 _ rfl
  have h2 := hx 2 _ rfl
  have h3 := hx 3 _ rfl
  obtain ⟨l⟩ := cs
  rw [hC] at hsz
  match l, hsz, xs, hn, h0, h1, h2, h3 with
  | [x0, x1, x2, x3], _, [y0, y1, y2, y3], _, h0, h1, h2, h3 =>
    have k0 : DataW.trod enc Tryd.prog W 0 (fun _ => true) true m 3 [x0] = some y0 := by simpa [hI, Value.cells] using h0
    have k1 : DataW.trod enc Tryd.prog W 0 (fun _ => true) true m 3 [x1] = some y1 := by simpa [hI, Value.cells] using h1
    have k2 : DataW.trod enc Tryd.prog W 0 (fun _ => true) true m 3 [x2] = some y2 := by simpa [hI, Value.cells] using h2
    have k3 : DataW.trod enc Tryd.prog W 0 (fun _ => true) true m 3 [x3] = some y3 := by simpa [hI, Value.cells] using h3
    obtain ⟨a, e0, _, w0⟩ := DataW.trod_int Tryd.underlying3 k0
    obtain ⟨b, e1, _, w1⟩ := DataW.trod_int Tryd.underlying3 k1
    obtain ⟨c, e2, _, w2⟩ := DataW.trod_int Tryd.underlying3 k2
    obtain ⟨d, e3, _, w3⟩ := DataW.trod_int Tryd.underlying3 k3
    simp at e0 e1 e2 e3
    subst e0 e1 e2 e3
    exact ⟨⟨a, b, c, d⟩, rfl, bdi64 w0, bdi64 w1, bdi64 w2, bdi64 w3⟩
abbrev q4V (a b c d : Int) : Value := .agg #[.int .u8 a, .int .u8 b, .int .u8 c, .int .u8 d]
def q4Ok (a b c d : Int) : Prop := (0 ≤ a ∧ a ≤ 255) ∧ (0 ≤ b ∧ b ≤ 255) ∧ (0 ≤ c ∧ c ≤ 255) ∧ (0 ≤ d ∧ d ≤ 255)
theorem open_q4 {base : Nat} {v : Value} {d : DataW H} {p : List MemPlace} (hv : Value.okWide Tryd.prog W .any base 29 v) (h : DataW.Trod enc Tryd.prog W 0 (fun _ => true) true 29 v d p) : ∃ a b c d, v = q4V a b c d ∧ q4Ok a b c d := by
  obtain ⟨cs, rfl, hsz⟩ := okWide_arr Tryd.underlying29 hv
  obtain ⟨fuel, hf⟩ := h
  obtain ⟨xs, m, _, _, _, hl, hx⟩ := DataW.trod_array Tryd.underlying29 hf
  have hC : Tryd.prog.cellsOf 29 = 4 := by kernel_rfl
  rw [hC] at hsz
  obtain ⟨l⟩ := cs
  match l, hsz, hx with
  | [c0, c1, c2, c3], _, hx =>
    have x0 := hx 0 (by omega)
    have x1 := hx 1 (by omega)
    have x2 := hx 2 (by omega)
    have x3 := hx 3 (by omega)
    rw [cU8, List.getElem?_eq_getElem (by omega)] at x0 x1 x2 x3
    simp [Value.cells] at x0 x1 x2 x3
    obtain ⟨a, e0, _, wa⟩ := DataW.trod_int Tryd.underlying5 x0
    obtain ⟨b, e1, _, wb⟩ := DataW.trod_int Tryd.underlying5 x1
    obtain ⟨c, e2, _, wc⟩ := DataW.trod_int Tryd.underlying5 x2
    obtain ⟨d, e3, _, wd⟩ := DataW.trod_int Tryd.underlying5 x3
    simp at e0 e1 e2 e3
    subst e0 e1 e2 e3
    exact ⟨a, b, c, d, rfl, bdu8 wa, bdu8 wb, bdu8 wc, bdu8 wd⟩
theorem open_rows2 {base : Nat} {v : Value} {d : DataW H} {p : List MemPlace} (hv : Value.okWide Tryd.prog W .any base 41 v) (h : DataW.Trod enc Tryd.prog W 0 (fun _ => true) true 41 v d p) : ∃ p q l m, v = .agg #[p, q] ∧ UsArg W p l ∧ UsArg W q m := by
  obtain ⟨cs, rfl, hsz⟩ := okWide_str Tryd.underlying41 hv
  obtain ⟨fuel, hf⟩ := h
  obtain ⟨xs, m, _, _, hl, hn, hx⟩ := DataW.trod_struct Tryd.underlying41 hf
  have hC : Tryd.prog.cellsOf 41 = 2 := by kernel_rfl
  have hS : Tryd.prog.cellsOf 32 = 1 := by kernel_rfl
  have h0 := hx 0 _ rfl
  have h1 := hx 1 _ rfl
  obtain ⟨l⟩ := cs
  rw [hC] at hsz
  match l, hsz, xs, hn, h0, h1 with
  | [x0, x1], _, [y0, y1], _, h0, h1 =>
    have k0 : DataW.trod enc Tryd.prog W 0 (fun _ => true) true m 32 [x0] = some y0 := by simpa [hS, Value.cells] using h0
    have k1 : DataW.trod enc Tryd.prog W 0 (fun _ => true) true m 32 [x1] = some y1 := by simpa [hS, Value.cells] using h1
    obtain ⟨u0, l0, e0, g0⟩ := t_us k0
    obtain ⟨u1, l1, e1, g1⟩ := t_us k1
    obtain rfl : x0 = u0 := by simpa using e0
    obtain rfl : x1 = u1 := by simpa using e1
    exact ⟨_, _, l0, l1, rfl, g0, g1⟩
theorem open_case {base : Nat} {v : Value} {d : DataW H} {p : List MemPlace} (hv : Value.okWide Tryd.prog W .any base 53 v) (h : DataW.Trod enc Tryd.prog W 0 (fun _ => true) true 53 v d p) : ∃ a b c p q l m, v = .agg #[.int .u8 a, .int .u8 b, p, q, .int .u8 c] ∧ ((0 ≤ a ∧ a ≤ 255) ∧ (0 ≤ b ∧ b ≤ 255) ∧ (0 ≤ c ∧ c ≤ 255)) ∧ UsArg W p l ∧ UsArg W q m := by
  obtain ⟨cs, rfl, hsz⟩ := okWide_str Tryd.underlying53 hv
  obtain ⟨fuel, hf⟩ := h
  obtain ⟨xs, m, _, _, hl, hn, hx⟩ := DataW.trod_struct Tryd.underlying53 hf
  have hC : Tryd.prog.cellsOf 53 = 5 := by kernel_rfl
  have hR : Tryd.prog.cellsOf 41 = 2 := by kernel_rfl
  have hS : Tryd.prog.cellsOf 32 = 1 := by kernel_rfl
  have h0 := hx 0 _ rfl
  have h1 := hx 1 _ rfl
  have h2 := hx 2 _ rfl
  have h3 := hx 3 _ rfl
  obtain ⟨l⟩ := cs
  rw [hC] at hsz
  match l, hsz, xs, hn, h0, h1, h2, h3 with
  | [x0, x1, x2, x3, x4], _, [y0, y1, y2, y3], _, h0, h1, h2, h3 =>
    have k0 : DataW.trod enc Tryd.prog W 0 (fun _ => true) true m 5 [x0] = some y0 := by simpa [cU8, Value.cells] using h0
    have k1 : DataW.trod enc Tryd.prog W 0 (fun _ => true) true m 5 [x1] = some y1 := by simpa [cU8, Value.cells] using h1
    have k2 : DataW.trod enc Tryd.prog W 0 (fun _ => true) true m 41 [x2, x3] = some y2 := by simpa [hR, Value.cells] using h2
    have k3 : DataW.trod enc Tryd.prog W 0 (fun _ => true) true m 5 [x4] = some y3 := by simpa [cU8, Value.cells] using h3
    obtain ⟨zs, m', _, _, hl', hn', hz⟩ := DataW.trod_struct Tryd.underlying41 k2
    have i0 := hz 0 _ rfl
    have i1 := hz 1 _ rfl
    match zs, hn', i0, i1 with
    | [z0, z1], _, i0, i1 =>
      have j0 : DataW.trod enc Tryd.prog W 0 (fun _ => true) true m' 32 [x2] = some z0 := by simpa [hS, Value.cells] using i0
      have j1 : DataW.trod enc Tryd.prog W 0 (fun _ => true) true m' 32 [x3] = some z1 := by simpa [hS, Value.cells] using i1
      obtain ⟨a, e0, _, w0⟩ := DataW.trod_int Tryd.underlying5 k0
      obtain ⟨b, e1, _, w1⟩ := DataW.trod_int Tryd.underlying5 k1
      obtain ⟨c, e3, _, w3⟩ := DataW.trod_int Tryd.underlying5 k3
      obtain ⟨u0, l0, f0, g0⟩ := t_us j0
      obtain ⟨u1, l1, f1, g1⟩ := t_us j1
      simp at e0 e1 e3
      subst e0 e1 e3
      obtain rfl : x2 = u0 := by simpa using f0
      obtain rfl : x3 = u1 := by simpa using f1
      exact ⟨a, b, c, _, _, l0, l1, rfl, ⟨bdu8 w0, bdu8 w1, bdu8 w3⟩, g0, g1⟩
end
end Go.Proofs.YtmiennkldkcnfaaDoor
