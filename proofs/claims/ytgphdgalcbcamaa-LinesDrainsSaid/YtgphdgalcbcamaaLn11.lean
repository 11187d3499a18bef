/- The arguments of the laws, opened; messages compared. No conditions. -/
import Derived.Test.YtgphdgalcbcamaaLn10
import Derived.Test.YtgphdgalcbcamaaElems
namespace Go.Proofs.Ytgphdgalcbcamaa
set_option maxRecDepth 100000
set_option linter.unusedVariables false
open Go.ChangeShapes Go.WideShapes Go.ChangeAt Go.RowKit Go.Joins Go.Deep
section
variable {H : Type} {enc : TypeId × Value → H} {W : World}
theorem okWide_str {fs : Array Field} {t : TypeId} {r : Reach} {b0 : Nat} {v : Value} (ht : Try.prog.underlying t = some (.struct fs)) (h : Value.okWide Try.prog W r b0 t v) : ∃ cs, v = .agg cs ∧ cs.size = Try.prog.cellsOf t := by
  simp only [Value.okWide, ht] at h
  obtain ⟨cs, h1, h2, _⟩ := h
  exact ⟨cs, h1, h2⟩
def trOk (t : Tr) : Prop := (-9223372036854775808 ≤ t.c ∧ t.c ≤ 9223372036854775807) ∧ (-9223372036854775808 ≤ t.d ∧ t.d ≤ 9223372036854775807)
abbrev TrS := { a : Tr // trOk a }
instance : Inhabited TrS := ⟨⟨⟨false, 0, 0⟩, by unfold trOk; simp⟩⟩
theorem t_tr {n : Nat} {l : List Value} {y : DataW H × List MemPlace} (h : DataW.trod enc Try.prog W 0 (fun _ => true) true n 43 l = some y) : ∃ z : TrS, l = trL z.1 := by
  obtain ⟨xs, m, _, _, hl, hn, hx⟩ := DataW.trod_struct Try.underlying43 h
  have hC : Try.prog.cellsOf 43 = 3 := by kernel_rfl
  have hI : Try.prog.cellsOf 3 = 1 := by kernel_rfl
  have hB : Try.prog.cellsOf 4 = 1 := by kernel_rfl
  have h0 := hx 0 _ rfl
  have h1 := hx 1 _ rfl
  have h2 := hx 2 _ rfl
  rw [hC] at hl
  match l, hl, xs, hn, h0, h1, h2 with
  | [x0, x1, x2], _, [y0, y1, y2], _, h0, h1, h2 =>
    have k0 : DataW.trod enc Try.prog W 0 (fun _ => true) true m 4 [x0] = some y0 := by simpa [hB] using h0
    have k1 : DataW.trod enc Try.prog W 0 (fun _ => true) true m 3 [x1] = some y1 := by simpa [hI, hB] using h1
    have k2 : DataW.trod enc Try.prog W 0 (fun _ => true) true m 3 [x2] = some y2 := by simpa [hI, hB] using h2
    obtain ⟨a, e0, _⟩ := DataW.trod_bool Try.underlying4 k0
    obtain ⟨b, e1, _, w1⟩ := DataW.trod_int Try.underlying3 k1
    obtain ⟨c, e2, _, w2⟩ := DataW.trod_int Try.underlying3 k2
    simp at e0 e1 e2
    subst e0 e1 e2
    exact ⟨⟨⟨a, b, c⟩, bd64 (show (Lit.int .i64 b).wf = true from w1), bd64 (show (Lit.int .i64 c).wf = true from w2)⟩, rfl⟩
/-- A slice of troubles. -/
structure TrArg (W : World) (v : Value) (l : List Tr) : Prop where
  src : SrcN 3 W v l.length (trs l)
  len : l.length ≤ maxLen
  cap : Cap v
theorem TrArg.keep {W' : World} {v : Value} {l : List Tr} (h : TrArg W v l) (hb : Below W.heap.size W W') : TrArg W' v l := ⟨h.src.keep hb, h.len, h.cap⟩
theorem open_trs {base : Nat} {v : Value} {d : DataW H} {p : List MemPlace} (hv : Value.okWide Try.prog W .any base 22 v) (h : DataW.Trod enc Try.prog W 0 (fun _ => true) true 22 v d p) : ∃ l, TrArg W v l := by
  obtain ⟨a0, len0, cap0, rfl⟩ := okWide_slice Try.underlying22 hv
  obtain ⟨fuel, hf⟩ := h
  obtain ⟨v', l, e, h1, h2, h3⟩ := t_elems (α := TrS) (fun z => trL z.1) 3 (by omega) (fun _ => rfl) Try.underlying22 (by kernel_rfl) (fun n cs' y h => t_tr h) hf
  simp [Value.cells] at e
  rw [e]
  refine ⟨l.map Subtype.val, ?_, by rw [List.length_map]; exact h2, h3⟩
  unfold trs
  rw [List.length_map, List.flatMap_map]
  exact h1
theorem open_tr {base : Nat} {v : Value} {d : DataW H} {p : List MemPlace} (hv : Value.okWide Try.prog W .any base 43 v) (h : DataW.Trod enc Try.prog W 0 (fun _ => true) true 43 v d p) : ∃ x b c, v = .agg #[.bool x, .int .i64 b, .int .i64 c] ∧ trOk ⟨x, b, c⟩ := by
  obtain ⟨cs, rfl, hsz⟩ := okWide_str Try.underlying43 hv
  obtain ⟨fuel, hf⟩ := h
  obtain ⟨z, e⟩ := t_tr hf
  obtain ⟨l⟩ := cs
  simp [Value.cells] at e
  exact ⟨z.1.l, z.1.c, z.1.d, by rw [e]; rfl, z.2⟩
def msOk (f o : Int) (s : ByteArray) : Prop := (-9223372036854775808 ≤ f ∧ f ≤ 9223372036854775807) ∧ (-9223372036854775808 ≤ o ∧ o ≤ 9223372036854775807) ∧ s.size ≤ maxLen
theorem t_ms {n : Nat} {l : List Value} {y : DataW H × List MemPlace} (h : DataW.trod enc Try.prog W 0 (fun _ => true) true n 31 l = some y) : ∃ f o s, l = [.int .i64 f, .int .i64 o, .string s] ∧ msOk f o s := by
  obtain ⟨xs, m, _, _, hl, hn, hx⟩ := DataW.trod_struct Try.underlying31 h
  have hC : Try.prog.cellsOf 31 = 3 := by kernel_rfl
  have hI : Try.prog.cellsOf 3 = 1 := by kernel_rfl
  have hS : Try.prog.cellsOf 9 = 1 := by kernel_rfl
  have h0 := hx 0 _ rfl
  have h1 := hx 1 _ rfl
  have h2 := hx 2 _ rfl
  rw [hC] at hl
  match l, hl, xs, hn, h0, h1, h2 with
  | [x0, x1, x2], _, [y0, y1, y2], _, h0, h1, h2 =>
    have k0 : DataW.trod enc Try.prog W 0 (fun _ => true) true m 3 [x0] = some y0 := by simpa [hI] using h0
    have k1 : DataW.trod enc Try.prog W 0 (fun _ => true) true m 3 [x1] = some y1 := by simpa [hI] using h1
    have k2 : DataW.trod enc Try.prog W 0 (fun _ => true) true m 9 [x2] = some y2 := by simpa [hI, hS] using h2
    obtain ⟨a, e0, _, w0⟩ := DataW.trod_int Try.underlying3 k0
    obtain ⟨b, e1, _, w1⟩ := DataW.trod_int Try.underlying3 k1
    obtain ⟨c, e2, _, w2⟩ := DataW.trod_string Try.underlying9 k2
    simp at e0 e1 e2
    subst e0 e1 e2
    exact ⟨a, b, c, rfl, bd64 w0, bd64 w1, w2⟩
theorem open_ms {base : Nat} {v : Value} {d : DataW H} {p : List MemPlace} (hv : Value.okWide Try.prog W .any base 31 v) (h : DataW.Trod enc Try.prog W 0 (fun _ => true) true 31 v d p) : ∃ f o s, v = msV f o s ∧ msOk f o s := by
  obtain ⟨cs, rfl, hsz⟩ := okWide_str Try.underlying31 hv
  obtain ⟨fuel, hf⟩ := h
  obtain ⟨f, o, s, e, hk⟩ := t_ms hf
  obtain ⟨l⟩ := cs
  simp [Value.cells] at e
  exact ⟨f, o, s, by rw [e], hk⟩
end
theorem eq_ms (w : World) (b c b' c' : Int) (e e' : ByteArray) : (Op.equalIn 10000 31 (msV b c e) (msV b' c' e')).run Try.prog w = .ok (b == b' && c == c' && e.toList == e'.toList) w := by
  have p0 : ∀ a b c, (part 3 #[.int .i64 a, .int .i64 b, .string c] 0).run Try.prog w = .ok (.int .i64 a) w := fun a b c => by simp [part, isAgg, run_underlying Try.underlying3]
  have p1 : ∀ a b c, (part 3 #[.int .i64 a, .int .i64 b, .string c] 1).run Try.prog w = .ok (.int .i64 b) w := fun a b c => by simp [part, isAgg, run_underlying Try.underlying3]
  have p2 : ∀ a b c, (part 9 #[.int .i64 a, .int .i64 b, .string c] 2).run Try.prog w = .ok (.string c) w := fun a b c => by simp [part, isAgg, run_underlying Try.underlying9]
  have pe : ∀ a b : Int, (Op.equalIn 9999 3 (.int .i64 a) (.int .i64 b)).run Try.prog w = .ok (a == b) w := fun a b => run_equalIn_int w 9998 3 .i64 .i64 _ _ Try.underlying3
  have ps : ∀ a b : ByteArray, (Op.equalIn 9999 9 (.string a) (.string b)).run Try.prog w = .ok (a.toList == b.toList) w := fun a b => run_equalIn_string w 9998 9 _ _ Try.underlying9
  rw [Op.equalIn]
  simp only [Sem.run_bind, run_underlying Try.underlying31, Result.andThen_ok]
  cases hx : (b == b') <;> cases hy : (c == c') <;> cases hz : (e.toList == e'.toList) <;> simp [p1, p2, pe, ps, hx, hy, hz, p0]
theorem eql_ms (w : World) (b c : Int) (e : ByteArray) : (binOp .eql 31 (msV b c e) (msV b c e)).run Try.prog w = .ok (.bool true) w := by
  rw [run_eql_struct, eq_ms]
  simp
theorem neq_ms (w : World) (b c : Int) (e : ByteArray) : (binOp .neq 31 (msV b c e) (msV b c e)).run Try.prog w = .ok (.bool false) w := by
  rw [run_neq_struct, eq_ms]
  simp
end Go.Proofs.Ytgphdgalcbcamaa
