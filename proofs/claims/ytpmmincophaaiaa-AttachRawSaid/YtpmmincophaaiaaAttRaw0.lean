/- Glyphs as an argument. No conditions. -/
import Derived.Test.YtpmmincophaaiaaAttDV
namespace Go.Proofs.Ytpmmincophaaiaa
set_option maxRecDepth 100000
set_option linter.unusedVariables false
open Go.ChangeShapes Go.WideShapes Go.ChangeAt Go.RowKit Go.Joins Go.Deep
/-- Glyphs that came in. -/
def DrArg (W : World) (v : Value) (D : List AT.Dr) : Prop := ∃ a cap, v = .slice a D.length cap ∧ (D.length ≤ cap ∧ cap ≤ maxLen) ∧ (D = [] ∨ ∃ g o, a = some ⟨g, o, none⟩ ∧ g < W.heap.size ∧ ∀ i d, D[i]? = some d → ∃ ca cn cc aa ac, AnAt W (.slice aa d.anchors.length ac) d.anchors ∧ (d.anchors.length ≤ ac ∧ ac ≤ maxLen) ∧ W.cell? ⟨g, o + i * 6, none⟩ = some (.slice ca cn cc) ∧ W.cell? ⟨g, o + i * 6 + 1, none⟩ = some (.slice aa d.anchors.length ac) ∧ W.cell? ⟨g, o + i * 6 + 2, none⟩ = some (.int .i64 d.hang.1) ∧ W.cell? ⟨g, o + i * 6 + 3, none⟩ = some (.int .i64 d.hang.2.1) ∧ W.cell? ⟨g, o + i * 6 + 4, none⟩ = some (.int .i64 d.hang.2.2) ∧ W.cell? ⟨g, o + i * 6 + 5, none⟩ = some (.int .i64 d.adv))
theorem DrArg.keep {W W' : World} {v : Value} {D : List AT.Dr} (h : DrArg W v D) (hb : Below W.heap.size W W') : DrArg W' v D := by
  obtain ⟨a, cap, e, hc, h⟩ := h
  refine ⟨a, cap, e, hc, ?_⟩
  rcases h with h | ⟨g, o, e2, hg, h⟩
  · exact .inl h
  · refine .inr ⟨g, o, e2, Nat.lt_of_lt_of_le hg hb.size, fun i d hd => ?_⟩
    obtain ⟨ca, cn, cc, aa, ac, ha, hac, c0, c1, c2, c3, c4, c5⟩ := h i d hd
    exact ⟨ca, cn, cc, aa, ac, ha.keep hb, hac, (hb.cell (p := ⟨g, o + i * 6, none⟩) hg).trans c0, (hb.cell (p := ⟨g, o + i * 6 + 1, none⟩) hg).trans c1, (hb.cell (p := ⟨g, o + i * 6 + 2, none⟩) hg).trans c2, (hb.cell (p := ⟨g, o + i * 6 + 3, none⟩) hg).trans c3, (hb.cell (p := ⟨g, o + i * 6 + 4, none⟩) hg).trans c4, (hb.cell (p := ⟨g, o + i * 6 + 5, none⟩) hg).trans c5⟩
section
variable {H : Type} {enc : TypeId × Value → H} {W : World}
theorem an_field {n : Nat} {l : List Value} {y : DataW H × List MemPlace} (h : DataW.trod enc Try.prog W 0 (fun _ => true) true n 33 l = some y) : ∃ z : AT.An, l = [.int .i64 z.1, .int .i64 z.2.1, .int .i64 z.2.2] := by
  obtain ⟨xs, m, _, _, hl, hn, hx⟩ := DataW.trod_struct Try.underlying33 h
  have hC : Try.prog.cellsOf 33 = 3 := by kernel_rfl
  have hI : Try.prog.cellsOf 3 = 1 := by kernel_rfl
  have h0 := hx 0 _ rfl
  have h1 := hx 1 _ rfl
  have h2 := hx 2 _ rfl
  rw [hC] at hl
  match l, hl, xs, hn, h0, h1, h2 with
  | [x0, x1, x2], _, [y0, y1, y2], _, h0, h1, h2 =>
    have k0 : DataW.trod enc Try.prog W 0 (fun _ => true) true m 3 [x0] = some y0 := by simpa [hI] using h0
    have k1 : DataW.trod enc Try.prog W 0 (fun _ => true) true m 3 [x1] = some y1 := by simpa [hI] using h1
    have k2 : DataW.trod enc Try.prog W 0 (fun _ => true) true m 3 [x2] = some y2 := by simpa [hI] using h2
    obtain ⟨a, e0, _, _⟩ := DataW.trod_int Try.underlying3 k0
    obtain ⟨b, e1, _, _⟩ := DataW.trod_int Try.underlying3 k1
    obtain ⟨c, e2, _, _⟩ := DataW.trod_int Try.underlying3 k2
    simp at e0 e1 e2
    subst e0 e1 e2
    exact ⟨(a, b, c), rfl⟩
theorem an_of {n : Nat} {x : Value} {y : DataW H × List MemPlace} (h : DataW.trod enc Try.prog W 0 (fun _ => true) true n 31 [x] = some y) : ∃ (l : List AT.An) (aa : Option Addr) (ac : Nat), x = .slice aa l.length ac ∧ AnAt W x l ∧ l.length ≤ ac ∧ ac ≤ maxLen := by
  rcases open_slice Try.underlying31 h with ⟨hcs, _⟩ | ⟨a, len, cap, m, n', D, Pl, hcs, _, hl, hm, hmm, _, hx⟩
  · simp at hcs
    subst hcs
    exact ⟨[], none, 0, rfl, ⟨none, 0, rfl, .inl rfl⟩, Nat.le_refl _, by simp [maxLen]⟩
  · simp at hcs hmm
    subst hcs hmm
    have hC : Try.prog.cellsOf 33 = 3 := by kernel_rfl
    rw [hC] at hx
    have each : ∀ i, i < m → ∃ z : AT.An, W.cell? (a.add (i * 3)) = some (.int .i64 z.1) ∧ W.cell? (a.add (i * 3 + 1)) = some (.int .i64 z.2.1) ∧ W.cell? (a.add (i * 3 + 2)) = some (.int .i64 z.2.2) := fun i hi => by
      obtain ⟨cs', h1, h2⟩ := hx i hi
      obtain ⟨z, rfl⟩ := an_field h2
      obtain ⟨_, _, hcell⟩ := World.cells?_some h1
      have e0 := hcell 0 (by omega)
      have e1 := hcell 1 (by omega)
      have e2 := hcell 2 (by omega)
      rw [add_add] at e0 e1 e2
      exact ⟨z, by simpa using e0, by simpa using e1, by simpa using e2⟩
    obtain ⟨q, hq⟩ := choose_lt each
    have hlen : ((List.range len).map q).length = len := by simp
    refine ⟨(List.range len).map q, some a, m, by rw [hlen], ⟨some a, m, by rw [hlen], ?_⟩, by rw [hlen]; exact hl, hm⟩
    rcases Nat.eq_zero_or_pos len with e | e
    · subst e
      exact .inl rfl
    · right
      have h0 := (hq 0 (by omega)).1
      have h0' := spot_lit (w := W) (a := a) (by simpa using h0)
      have hlt := World.block_lt_of_cell? W _ h0
      obtain ⟨g, o, s⟩ := a
      simp at h0'
      subst h0'
      rw [add_lit'] at hlt
      refine ⟨g, o, rfl, hlt, fun i z hz => ?_⟩
      have hi : i < len := by have := (List.getElem?_eq_some_iff.1 hz).1; rw [hlen] at this; exact this
      rw [List.getElem?_map, List.getElem?_range hi] at hz
      obtain rfl := Option.some.inj hz
      obtain ⟨z0, z1, z2⟩ := hq i (by omega)
      rw [add_lit'] at z0 z1 z2
      exact ⟨z0, z1, z2⟩
theorem dr_of {n : Nat} {l : List Value} {y : DataW H × List MemPlace} (h : DataW.trod enc Try.prog W 0 (fun _ => true) true n 35 l = some y) :
    ∃ (d : AT.Dr) (ca : Option Addr) (cn cc : Nat) (aa : Option Addr) (ac : Nat), l = [.slice ca cn cc, .slice aa d.anchors.length ac, .int .i64 d.hang.1, .int .i64 d.hang.2.1, .int .i64 d.hang.2.2, .int .i64 d.adv] ∧ AnAt W (.slice aa d.anchors.length ac) d.anchors ∧ d.anchors.length ≤ ac ∧ ac ≤ maxLen := by
  obtain ⟨xs, m, _, _, hl, hn, hx⟩ := DataW.trod_struct Try.underlying35 h
  have hC : Try.prog.cellsOf 35 = 6 := by kernel_rfl
  have hI : Try.prog.cellsOf 3 = 1 := by kernel_rfl
  have hA : Try.prog.cellsOf 33 = 3 := by kernel_rfl
  have hS : Try.prog.cellsOf 31 = 1 := by kernel_rfl
  have hP : Try.prog.cellsOf 30 = 1 := by kernel_rfl
  have h0 := hx 0 _ rfl
  have h1 := hx 1 _ rfl
  have h2 := hx 2 _ rfl
  have h3 := hx 3 _ rfl
  rw [hC] at hl
  match l, hl, xs, hn, h0, h1, h2, h3 with
  | [x0, x1, x2, x3, x4, x5], _, [y0, y1, y2, y3], _, h0, h1, h2, h3 =>
    have k0 : DataW.trod enc Try.prog W 0 (fun _ => true) true m 30 [x0] = some y0 := by simpa [hP] using h0
    have k1 : DataW.trod enc Try.prog W 0 (fun _ => true) true m 31 [x1] = some y1 := by simpa [hS] using h1
    have k2 : DataW.trod enc Try.prog W 0 (fun _ => true) true m 33 [x2, x3, x4] = some y2 := by simpa [hA] using h2
    have k3 : DataW.trod enc Try.prog W 0 (fun _ => true) true m 3 [x5] = some y3 := by simpa [hI] using h3
    obtain ⟨l1, aa, ac, rfl, ha, hc1, hc2⟩ := an_of k1
    obtain ⟨z, hz⟩ := an_field k2
    simp at hz
    obtain ⟨rfl, rfl, rfl⟩ := hz
    obtain ⟨b, e3, _, _⟩ := DataW.trod_int Try.underlying3 k3
    simp at e3
    subst e3
    have hx0 : ∃ (ca : Option Addr) (cn cc : Nat), x0 = .slice ca cn cc := by
      rcases open_slice Try.underlying30 k0 with ⟨hcs, _⟩ | ⟨a, len, cap, m', n', D, Pl, hcs, _⟩
      · simp at hcs
        exact ⟨_, _, _, hcs⟩
      · simp at hcs
        exact ⟨_, _, _, hcs⟩
    obtain ⟨ca, cn, cc, rfl⟩ := hx0
    exact ⟨⟨l1, z, b⟩, ca, cn, cc, aa, ac, rfl, ha, hc1, hc2⟩
theorem open_drs {base : Nat} {v : Value} {d : DataW H} {p : List MemPlace} (hv : Value.okWide Try.prog W .any base 24 v) (h : DataW.Trod enc Try.prog W 0 (fun _ => true) true 24 v d p) : ∃ D : List AT.Dr, DrArg W v D := by
  obtain ⟨a0, len0, cap0, rfl⟩ := okWide_slice Try.underlying24 hv
  obtain ⟨fuel, hf⟩ := h
  rcases open_slice Try.underlying24 hf with ⟨hcs, _⟩ | ⟨a, len, cap, m, n', D, Pl, hcs, _, hl, hm, hmm, _, hx⟩
  · simp [Value.cells] at hcs
    obtain ⟨rfl, rfl, rfl⟩ := hcs
    exact ⟨[], none, 0, rfl, ⟨Nat.le_refl _, by simp [maxLen]⟩, .inl rfl⟩
  · simp [Value.cells] at hcs
    obtain ⟨rfl, rfl, rfl⟩ := hcs
    simp at hmm
    subst hmm
    have hC : Try.prog.cellsOf 35 = 6 := by kernel_rfl
    rw [hC] at hx
    have each : ∀ i, i < m → ∃ z : AT.Dr, ∃ (ca : Option Addr) (cn cc : Nat) (aa : Option Addr) (ac : Nat), AnAt W (.slice aa z.anchors.length ac) z.anchors ∧ (z.anchors.length ≤ ac ∧ ac ≤ maxLen) ∧ W.cell? (a.add (i * 6)) = some (.slice ca cn cc) ∧ W.cell? (a.add (i * 6 + 1)) = some (.slice aa z.anchors.length ac) ∧ W.cell? (a.add (i * 6 + 2)) = some (.int .i64 z.hang.1) ∧ W.cell? (a.add (i * 6 + 3)) = some (.int .i64 z.hang.2.1) ∧ W.cell? (a.add (i * 6 + 4)) = some (.int .i64 z.hang.2.2) ∧ W.cell? (a.add (i * 6 + 5)) = some (.int .i64 z.adv) := fun i hi => by
      obtain ⟨cs', h1, h2⟩ := hx i hi
      obtain ⟨z, ca, cn, cc, aa, ac, rfl, ha, hc1, hc2⟩ := dr_of h2
      obtain ⟨_, _, hcell⟩ := World.cells?_some h1
      have e0 := hcell 0 (by omega)
      have e1 := hcell 1 (by omega)
      have e2 := hcell 2 (by omega)
      have e3 := hcell 3 (by omega)
      have e4 := hcell 4 (by omega)
      have e5 := hcell 5 (by omega)
      rw [add_add] at e0 e1 e2 e3 e4 e5
      exact ⟨z, ca, cn, cc, aa, ac, ha, ⟨hc1, hc2⟩, by simpa using e0, by simpa using e1, by simpa using e2, by simpa using e3, by simpa using e4, by simpa using e5⟩
    haveI : Inhabited AT.Dr := ⟨⟨[], (0, 0, 0), 0⟩⟩
    obtain ⟨q, hq⟩ := choose_lt each
    have hlen : ((List.range len0).map q).length = len0 := by simp
    refine ⟨(List.range len0).map q, some a, m, by rw [hlen], ⟨by rw [hlen]; exact hl, hm⟩, ?_⟩
    rcases Nat.eq_zero_or_pos len0 with e | e
    · subst e
      exact .inl rfl
    · right
      obtain ⟨ca, cn, cc, aa, ac, _, _, h0, _⟩ := hq 0 (by omega)
      have h0' := spot_lit (w := W) (a := a) (by simpa using h0)
      have hlt := World.block_lt_of_cell? W _ h0
      obtain ⟨g, o, s⟩ := a
      simp at h0'
      subst h0'
      rw [add_lit'] at hlt
      refine ⟨g, o, rfl, hlt, fun i z hz => ?_⟩
      have hi : i < len0 := by have := (List.getElem?_eq_some_iff.1 hz).1; rw [hlen] at this; exact this
      rw [List.getElem?_map, List.getElem?_range hi] at hz
      obtain rfl := Option.some.inj hz
      obtain ⟨ca, cn, cc, aa, ac, ha, hac, z0, z1, z2, z3, z4, z5⟩ := hq i (by omega)
      rw [add_lit'] at z0 z1 z2 z3 z4 z5
      exact ⟨ca, cn, cc, aa, ac, ha, hac, z0, z1, z2, z3, z4, z5⟩
end
end Go.Proofs.Ytpmmincophaaiaa
