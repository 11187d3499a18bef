/- The argument of PanelWrites, opened. No conditions. -/
import Derived.Test.YtmiennkldkcnfaaDoorPn26
import Derived.Test.YtmiennkldkcnfaaDoorPn23
namespace Go.Proofs.YtmiennkldkcnfaaDoor
set_option maxRecDepth 100000
set_option linter.unusedVariables false
open Go.ChangeShapes Go.WideShapes Go.ChangeAt Go.RowKit Go.Joins Go.Deep
structure ClArg (W : World) (v : Value) (L : List Cl) : Prop where
  src : SrcN 11 W v L.length (L.flatMap clv)
  len : L.length ≤ maxLen
  cap : Cap v
  each : ∀ z ∈ L, ClOk W z
theorem ClOk.keep {W V : World} {z : Cl} (h : ClOk W z) (hb : Below W.heap.size W V) : ClOk V z := ⟨h.what, h.q, h.raw, h.us.keep hb, h.fail⟩
theorem us_nil (W : World) : UsArg W (.slice none 0 0) [] := ⟨⟨none, 0, rfl, rfl, .inl ⟨rfl, fun _ => rfl⟩⟩, by simp [maxLen], fun a n c h => by injection h with _ h2 h3; subst h2 h3; exact ⟨Nat.le_refl _, by simp [maxLen]⟩, fun x hx => by simp at hx⟩
section
variable {H : Type} {enc : TypeId × Value → H} {W : World}
abbrev ClS (W : World) := { z : Cl // ClOk W z }
instance : Inhabited (ClS W) := ⟨⟨⟨0, 0, 0, 0, 0, ⟨0, 0, 0, 0⟩, .slice none 0 0, [], 0⟩, ⟨by simp, by unfold q4Ok; simp, by unfold rcOk; simp, us_nil W, by simp⟩⟩⟩
theorem cl_one {n : Nat} {l : List Value} {y : DataW H × List MemPlace} (h : DataW.trod enc Tryd.prog W 0 (fun _ => true) true n 34 l = some y) : ∃ z : ClS W, l = clv z.1 := by
  obtain ⟨xs, m, _, _, hl, hn, hx⟩ := DataW.trod_struct Tryd.underlying34 h
  have hC : Tryd.prog.cellsOf 34 = 11 := by kernel_rfl
  have hI : Tryd.prog.cellsOf 3 = 1 := by kernel_rfl
  have hS : Tryd.prog.cellsOf 32 = 1 := by kernel_rfl
  have hR : Tryd.prog.cellsOf 31 = 4 := by kernel_rfl
  have hQ : Tryd.prog.cellsOf 29 = 4 := by kernel_rfl
  have h0 := hx 0 _ rfl
  have h1 := hx 1 _ rfl
  have h2 := hx 2 _ rfl
  have h3 := hx 3 _ rfl
  have h4 := hx 4 _ rfl
  rw [hC] at hl
  match l, hl, xs, hn, h0, h1, h2, h3, h4 with
  | [x0, x1, x2, x3, x4, x5, x6, x7, x8, x9, x10], _, [y0, y1, y2, y3, y4], _, h0, h1, h2, h3, h4 =>
    have k0 : DataW.trod enc Tryd.prog W 0 (fun _ => true) true m 5 [x0] = some y0 := by simpa [cU8] using h0
    have k1 : DataW.trod enc Tryd.prog W 0 (fun _ => true) true m 29 [x1, x2, x3, x4] = some y1 := by simpa [hQ] using h1
    have k2 : DataW.trod enc Tryd.prog W 0 (fun _ => true) true m 31 [x5, x6, x7, x8] = some y2 := by simpa [hR] using h2
    have k3 : DataW.trod enc Tryd.prog W 0 (fun _ => true) true m 32 [x9] = some y3 := by simpa [hS] using h3
    have k4 : DataW.trod enc Tryd.prog W 0 (fun _ => true) true m 3 [x10] = some y4 := by simpa [hI] using h4
    obtain ⟨a, e0, _, w0⟩ := DataW.trod_int Tryd.underlying5 k0
    obtain ⟨f, e4, _, w4⟩ := DataW.trod_int Tryd.underlying3 k4
    obtain ⟨v9, l9, e9, g9⟩ := t_us k3
    obtain ⟨qs, m', _, _, _, hl', hq⟩ := DataW.trod_array Tryd.underlying29 k1
    have q0 := hq 0 (by omega)
    have q1 := hq 1 (by omega)
    have q2 := hq 2 (by omega)
    have q3 := hq 3 (by omega)
    rw [cU8, List.getElem?_eq_getElem (by omega)] at q0 q1 q2 q3
    simp at q0 q1 q2 q3
    obtain ⟨a1, f0, _, v0⟩ := DataW.trod_int Tryd.underlying5 q0
    obtain ⟨a2, f1, _, v1⟩ := DataW.trod_int Tryd.underlying5 q1
    obtain ⟨a3, f2, _, v2⟩ := DataW.trod_int Tryd.underlying5 q2
    obtain ⟨a4, f3, _, v3⟩ := DataW.trod_int Tryd.underlying5 q3
    obtain ⟨rs, m2, _, _, _, hr', hr⟩ := DataW.trod_struct Tryd.underlying31 k2
    have r0 := hr 0 _ rfl
    have r1 := hr 1 _ rfl
    have r2 := hr 2 _ rfl
    have r3 := hr 3 _ rfl
    match rs, hr', r0, r1, r2, r3 with
    | [s0, s1, s2, s3], _, r0, r1, r2, r3 =>
      have j0 : DataW.trod enc Tryd.prog W 0 (fun _ => true) true m2 3 [x5] = some s0 := by simpa [hI] using r0
      have j1 : DataW.trod enc Tryd.prog W 0 (fun _ => true) true m2 3 [x6] = some s1 := by simpa [hI] using r1
      have j2 : DataW.trod enc Tryd.prog W 0 (fun _ => true) true m2 3 [x7] = some s2 := by simpa [hI] using r2
      have j3 : DataW.trod enc Tryd.prog W 0 (fun _ => true) true m2 3 [x8] = some s3 := by simpa [hI] using r3
      obtain ⟨b1, t0, _, u0⟩ := DataW.trod_int Tryd.underlying3 j0
      obtain ⟨b2, t1, _, u1⟩ := DataW.trod_int Tryd.underlying3 j1
      obtain ⟨b3, t2, _, u2⟩ := DataW.trod_int Tryd.underlying3 j2
      obtain ⟨b4, t3, _, u3⟩ := DataW.trod_int Tryd.underlying3 j3
      simp at e0 e4 f0 f1 f2 f3 t0 t1 t2 t3 e9
      subst e0 e4 f0 f1 f2 f3 t0 t1 t2 t3 e9
      exact ⟨⟨⟨a, a1, a2, a3, a4, ⟨b1, b2, b3, b4⟩, x9, l9, f⟩, ⟨bdu8 w0, ⟨bdu8 v0, bdu8 v1, bdu8 v2, bdu8 v3⟩, ⟨bdi64 u0, bdi64 u1, bdi64 u2, bdi64 u3⟩, g9, bdi64 w4⟩⟩, rfl⟩
theorem open_cls {base : Nat} {v : Value} {d : DataW H} {p : List MemPlace} (hv : Value.okWide Tryd.prog W .any base 23 v) (h : DataW.Trod enc Tryd.prog W 0 (fun _ => true) true 23 v d p) : ∃ l, ClArg W v l := by
  obtain ⟨a0, len0, cap0, rfl⟩ := okWide_slice Tryd.underlying23 hv
  obtain ⟨fuel, hf⟩ := h
  obtain ⟨v', l, e, h1, h2, h3⟩ := t_elems (α := ClS W) (fun z => clv z.1) 11 (by omega) (fun _ => rfl) Tryd.underlying23 (by kernel_rfl) (fun n cs' y h => cl_one h) hf
  simp [Value.cells] at e
  rw [e]
  refine ⟨l.map Subtype.val, ?_, by rw [List.length_map]; exact h2, h3, fun z hz => ?_⟩
  · rw [List.length_map, List.flatMap_map]
    exact h1
  · obtain ⟨y, -, rfl⟩ := List.mem_map.1 hz
    exact y.2
end
end Go.Proofs.YtmiennkldkcnfaaDoor
