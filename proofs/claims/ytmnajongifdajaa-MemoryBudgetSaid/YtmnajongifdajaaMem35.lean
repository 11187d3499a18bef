/- The arguments of the laws, opened. No conditions. -/
import Derived.Test.YtmnajongifdajaaMem34
namespace Go.Proofs.Ytmnajongifdajaa
set_option maxRecDepth 100000
set_option linter.unusedVariables false
open Go.ChangeShapes Go.WideShapes Go.ChangeAt Go.RowKit Go.Joins Go.Deep ME
section
variable {H : Type} {enc : TypeId × Value → H} {W : World}
abbrev AcS := { a : Ac // ME.acOk a }
instance : Inhabited AcS := ⟨⟨(0, 0, 0), by unfold ME.acOk; simp⟩⟩
theorem ac_field {n : Nat} {l : List Value} {y : DataW H × List MemPlace} (h : DataW.trod enc Try.prog W 0 (fun _ => true) true n 37 l = some y) : ∃ z : AcS, l = ME.acv z.1 := by
  obtain ⟨xs, m, _, _, hl, hn, hx⟩ := DataW.trod_struct Try.underlying37 h
  have hC : Try.prog.cellsOf 37 = 3 := by kernel_rfl
  have hI : Try.prog.cellsOf 3 = 1 := by kernel_rfl
  have hU : Try.prog.cellsOf 5 = 1 := by kernel_rfl
  have h0 := hx 0 _ rfl
  have h1 := hx 1 _ rfl
  have h2 := hx 2 _ rfl
  rw [hC] at hl
  match l, hl, xs, hn, h0, h1, h2 with
  | [x0, x1, x2], _, [y0, y1, y2], _, h0, h1, h2 =>
    have k0 : DataW.trod enc Try.prog W 0 (fun _ => true) true m 5 [x0] = some y0 := by simpa [hU] using h0
    have k1 : DataW.trod enc Try.prog W 0 (fun _ => true) true m 5 [x1] = some y1 := by simpa [hU] using h1
    have k2 : DataW.trod enc Try.prog W 0 (fun _ => true) true m 3 [x2] = some y2 := by simpa [hI] using h2
    obtain ⟨a, e0, _, w0⟩ := DataW.trod_int Try.underlying5 k0
    obtain ⟨b, e1, _, w1⟩ := DataW.trod_int Try.underlying5 k1
    obtain ⟨c, e2, _, w2⟩ := DataW.trod_int Try.underlying3 k2
    simp at e0 e1 e2
    subst e0 e1 e2
    exact ⟨⟨(a, b, c), bd8 (show (Lit.int .u8 a).wf = true from w0), bd8 (show (Lit.int .u8 b).wf = true from w1), bd64 (show (Lit.int .i64 c).wf = true from w2)⟩, rfl⟩
theorem open_acts {base : Nat} {v : Value} {d : DataW H} {p : List MemPlace} (hv : Value.okWide Try.prog W .any base 22 v) (h : DataW.Trod enc Try.prog W 0 (fun _ => true) true 22 v d p) : ∃ l, AcArg W v l := by
  obtain ⟨a0, len0, cap0, rfl⟩ := okWide_slice Try.underlying22 hv
  obtain ⟨fuel, hf⟩ := h
  obtain ⟨v', l, e, h1, h2, -⟩ := t_elems (α := AcS) (fun z => ME.acv z.1) 3 (by omega) (fun _ => rfl) Try.underlying22 (by kernel_rfl) (fun n cs' y h => ac_field h) hf
  simp [Value.cells] at e
  rw [e]
  refine ⟨l.map Subtype.val, ?_, by rw [List.length_map]; exact h2, fun a ha => ?_⟩
  · rw [List.length_map, List.flatMap_map]
    exact h1
  · obtain ⟨z, -, rfl⟩ := List.mem_map.1 ha
    exact z.2
theorem okWide_str {fs : Array Field} {t : TypeId} {r : Reach} {b0 : Nat} {v : Value} (ht : Try.prog.underlying t = some (.struct fs)) (h : Value.okWide Try.prog W r b0 t v) : ∃ cs, v = .agg cs ∧ cs.size = Try.prog.cellsOf t := by
  simp only [Value.okWide, ht] at h
  obtain ⟨cs, h1, h2, _⟩ := h
  exact ⟨cs, h1, h2⟩
theorem t_key {n : Nat} {l : List Value} {y : DataW H × List MemPlace} (h : DataW.trod enc Try.prog W 0 (fun _ => true) true n 32 l = some y) : ∃ a b c, l = [.int .i64 a, .int .i64 b, .int .i64 c] ∧ (Lit.int .i64 a).wf = true ∧ (Lit.int .i64 b).wf = true ∧ (Lit.int .i64 c).wf = true := by
  obtain ⟨xs, m, _, _, hl, hn, hx⟩ := DataW.trod_struct Try.underlying32 h
  have hC : Try.prog.cellsOf 32 = 3 := by kernel_rfl
  have hI : Try.prog.cellsOf 3 = 1 := by kernel_rfl
  have h0 := hx 0 _ rfl
  have h1 := hx 1 _ rfl
  have h2 := hx 2 _ rfl
  rw [hC] at hl
  match l, hl, xs, hn, h0, h1, h2 with
  | [x0, x1, x2], _, [y0, y1, y2], _, h0, h1, h2 =>
    have k0 : DataW.trod enc Try.prog W 0 (fun _ => true) true m 3 [x0] = some y0 := by simpa [hI] using h0
    have k1 : DataW.trod enc Try.prog W 0 (fun _ => true) true m 3 [x1] = some y1 := by simpa [hI] using h1
    have k2 : DataW.trod enc Try.prog W 0 (fun _ => true) true m 3 [x2] = some y2 := by simpa [hI] using h2
    obtain ⟨a, e0, _, w0⟩ := DataW.trod_int Try.underlying3 k0
    obtain ⟨b, e1, _, w1⟩ := DataW.trod_int Try.underlying3 k1
    obtain ⟨c, e2, _, w2⟩ := DataW.trod_int Try.underlying3 k2
    simp at e0 e1 e2
    subst e0 e1 e2
    exact ⟨a, b, c, rfl, w0, w1, w2⟩
theorem open_owned {base : Nat} {v : Value} {d : DataW H} {p : List MemPlace} (hv : Value.okWide Try.prog W .any base 34 v) (h : DataW.Trod enc Try.prog W 0 (fun _ => true) true 34 v d p) : ∃ a b c d, v = .agg #[.int .i64 a, .int .i64 b, .int .i64 c, .int .i64 d] ∧ (Lit.int .i64 a).wf = true ∧ (Lit.int .i64 b).wf = true ∧ (Lit.int .i64 c).wf = true ∧ (Lit.int .i64 d).wf = true := by
  obtain ⟨cs, rfl, hsz⟩ := okWide_str Try.underlying34 hv
  obtain ⟨fuel, hf⟩ := h
  obtain ⟨xs, m, _, _, hl, hn, hx⟩ := DataW.trod_struct Try.underlying34 hf
  have hC : Try.prog.cellsOf 34 = 4 := by kernel_rfl
  have hI : Try.prog.cellsOf 3 = 1 := by kernel_rfl
  have hK : Try.prog.cellsOf 32 = 3 := by kernel_rfl
  have h0 := hx 0 _ rfl
  have h1 := hx 1 _ rfl
  obtain ⟨l⟩ := cs
  rw [hC] at hsz
  match l, hsz, xs, hn, h0, h1 with
  | [x0, x1, x2, x3], _, [y0, y1], _, h0, h1 =>
    have k0 : DataW.trod enc Try.prog W 0 (fun _ => true) true m 3 [x0] = some y0 := by simpa [hI, hK, Value.cells] using h0
    have k1 : DataW.trod enc Try.prog W 0 (fun _ => true) true m 32 [x1, x2, x3] = some y1 := by simpa [hI, hK, Value.cells] using h1
    obtain ⟨a, e0, _, w0⟩ := DataW.trod_int Try.underlying3 k0
    obtain ⟨b, c, d, e1, w1, w2, w3⟩ := t_key k1
    simp at e0 e1
    obtain ⟨rfl, rfl, rfl⟩ := e1
    subst e0
    exact ⟨_, _, _, _, rfl, w0, w1, w2, w3⟩
theorem open_last {base : Nat} {v : Value} {d : DataW H} {p : List MemPlace} (hv : Value.okWide Try.prog W .any base 59 v) (h : DataW.Trod enc Try.prog W 0 (fun _ => true) true 59 v d p) : ∃ a b c d, v = .agg #[.int .i64 a, .int .i64 b, .int .i64 c, .int .i64 d] ∧ (Lit.int .i64 a).wf = true ∧ (Lit.int .i64 b).wf = true ∧ (Lit.int .i64 c).wf = true ∧ (Lit.int .i64 d).wf = true := by
  obtain ⟨cs, rfl, hsz⟩ := okWide_str Try.underlying59 hv
  obtain ⟨fuel, hf⟩ := h
  obtain ⟨xs, m, _, _, hl, hn, hx⟩ := DataW.trod_struct Try.underlying59 hf
  have hC : Try.prog.cellsOf 59 = 4 := by kernel_rfl
  have hI : Try.prog.cellsOf 3 = 1 := by kernel_rfl
  have hK : Try.prog.cellsOf 32 = 3 := by kernel_rfl
  have h0 := hx 0 _ rfl
  have h1 := hx 1 _ rfl
  obtain ⟨l⟩ := cs
  rw [hC] at hsz
  match l, hsz, xs, hn, h0, h1 with
  | [x0, x1, x2, x3], _, [y0, y1], _, h0, h1 =>
    have k0 : DataW.trod enc Try.prog W 0 (fun _ => true) true m 32 [x0, x1, x2] = some y0 := by simpa [hI, hK, Value.cells] using h0
    have k1 : DataW.trod enc Try.prog W 0 (fun _ => true) true m 3 [x3] = some y1 := by simpa [hI, hK, Value.cells] using h1
    obtain ⟨a, b, c, e0, w0, w1, w2⟩ := t_key k0
    obtain ⟨d, e1, _, w3⟩ := DataW.trod_int Try.underlying3 k1
    simp at e0 e1
    obtain ⟨rfl, rfl, rfl⟩ := e0
    subst e1
    exact ⟨_, _, _, _, rfl, w0, w1, w2, w3⟩
end
theorem i64_and63 (n : Int) : bits .and .i64 n 63 = n % 64 := by
  have h127 : (BitVec.ofInt 64 63).toNat = 2 ^ 6 - 1 := by decide
  have key : (BitVec.ofInt 64 n &&& BitVec.ofInt 64 63).toNat = (n % ((2 ^ 64 : Nat) : Int)).toNat % 2 ^ 6 := by
    rw [BitVec.toNat_and, h127, Nat.and_two_pow_sub_one_eq_mod, BitVec.toNat_ofInt]
  show IntKind.i64.wrap ((BitVec.ofInt 64 n &&& BitVec.ofInt 64 63).toNat : Nat) = n % 64
  rw [key, IntKind.wrap_i64]
  omega
end Go.Proofs.Ytmnajongifdajaa
