/- Arguments of the laws of layer 9, opened. No conditions. -/
import Derived.Test.YtbhkbjnmpaebdaaAx28
import Derived.Deep.Matrix
import Derived.Deep.Slices
namespace Go.Proofs.Ytbhkbjnmpaebdaa
set_option maxRecDepth 100000
set_option linter.unusedVariables false
open Go.ChangeShapes Go.WideShapes Go.ChangeAt Go.RowKit Go.Joins Go.Deep
theorem spot_lit {w : World} {a : Addr} {v : Value} (h : w.cell? (a.add 0) = some v) : a = ⟨a.block, a.off, none⟩ := by
  have h0 : w.cell? a = some v := by simpa [Addr.add] using h
  exact spot_none h0
theorem add_lit' (g o i : Nat) : (⟨g, o, none⟩ : Addr).add i = ⟨g, o + i, none⟩ := by cases i <;> simp [Addr.add]
/-- A slice may be cut up to its length. -/
def Cap (v : Value) : Prop := ∀ a n c, v = .slice a n c → n ≤ c ∧ c ≤ maxLen
section
variable {H : Type} {enc : TypeId × Value → H} {W : World}
theorem flat_get {α : Type} {f : α → List Value} {k : Nat} (hk : 0 < k) (hf : ∀ z, (f z).length = k) : ∀ (l : List α) (j : Nat) (u : Value), (l.flatMap f)[j]? = some u → ∃ z, l[j / k]? = some z ∧ (f z)[j % k]? = some u
  | [], j, u, h => by simp at h
  | z :: l, j, u, h => by
    rw [List.flatMap_cons] at h
    by_cases hj : j < k
    · rw [List.getElem?_append_left (by rw [hf]; exact hj)] at h
      rw [Nat.div_eq_of_lt hj, Nat.mod_eq_of_lt hj]
      exact ⟨z, rfl, h⟩
    · rw [List.getElem?_append_right (by rw [hf]; omega), hf] at h
      obtain ⟨z', h1, h2⟩ := flat_get hk hf l (j - k) u h
      have e1 : j / k = (j - k) / k + 1 := by
        have : j = (j - k) + k := by omega
        rw [this, Nat.add_div_right _ hk, show j - k + k - k = j - k by omega]
      have e2 : j % k = (j - k) % k := by
        have : j = (j - k) + k := by omega
        rw [this, Nat.add_mod_right, show j - k + k - k = j - k by omega]
      rw [e1, e2]
      exact ⟨z', by simpa using h1, h2⟩
/-- A slice of elements of k cells each, where an element is a number of them. -/
theorem t_elems {α : Type} [Inhabited α] (f : α → List Value) (k : Nat) (hk : 0 < k) (hf : ∀ z, (f z).length = k) {t e : TypeId} (ht : Try.prog.underlying t = some (.slice e)) (hC : Try.prog.cellsOf e = k)
    (hone : ∀ n cs' (y : DataW H × List MemPlace), DataW.trod enc Try.prog W 0 (fun _ => true) true n e cs' = some y → ∃ z, cs' = f z) {fuel : Nat} {cs : List Value} {y : DataW H × List MemPlace} (h : DataW.trod enc Try.prog W 0 (fun _ => true) true fuel t cs = some y) :
    ∃ (v : Value) (l : List α), cs = [v] ∧ SrcN k W v l.length (l.flatMap f) ∧ l.length ≤ maxLen ∧ Cap v := by
  rcases open_slice ht h with ⟨hcs, _⟩ | ⟨a, len, cap, m, n', D, Pl, hcs, _, hl, hm, hmm, _, hx⟩
  · exact ⟨_, [], hcs, ⟨none, 0, rfl, by simp, .inl ⟨rfl, fun _ => rfl⟩⟩, by simp [maxLen], fun a n c h => by injection h with _ h2 h3; subst h2 h3; exact ⟨Nat.le_refl _, by simp [maxLen]⟩⟩
  · simp at hmm
    subst hmm
    rw [hC] at hx
    have each : ∀ i, i < m → ∃ z : α, ∀ j (u : Value), j < k → (f z)[j]? = some u → W.cell? (a.add (i * k + j)) = some u := fun i hi => by
      obtain ⟨cs', h1, h2⟩ := hx i hi
      obtain ⟨z, rfl⟩ := hone _ _ _ h2
      obtain ⟨_, _, hcell⟩ := World.cells?_some h1
      refine ⟨z, fun j u hj hu => ?_⟩
      have e0 := hcell j hj
      rw [add_add] at e0
      rw [e0]
      exact hu
    obtain ⟨q, hq⟩ := choose_lt each
    have hlen : ((List.range len).map q).length = len := by simp
    refine ⟨_, (List.range len).map q, hcs, ⟨some a, m, by rw [hlen], AX.flat_len hf _, ?_⟩, by rw [hlen]; omega, fun a' n c h => by injection h with _ h2 h3; subst h2 h3; exact ⟨hl, hm⟩⟩
    rcases Nat.eq_zero_or_pos len with e | e
    · exact .inl ⟨by rw [hlen]; exact e, fun e => by simp at e⟩
    · right
      obtain ⟨u0, hu0⟩ : ∃ u0, (f (q 0))[0]? = some u0 := ⟨_, List.getElem?_eq_getElem (by rw [hf]; exact hk)⟩
      have h0 := hq 0 (by omega) 0 u0 hk hu0
      have h0' := spot_lit (w := W) (a := a) (by simpa using h0)
      have hlt := World.block_lt_of_cell? W _ h0
      obtain ⟨g, o, s⟩ := a
      simp at h0'
      subst h0'
      rw [add_lit'] at hlt
      refine ⟨g, o, rfl, hlt, fun j u hu => ?_⟩
      obtain ⟨z, hz, hzu⟩ := flat_get hk hf _ j u hu
      have hi : j / k < len := by have := (List.getElem?_eq_some_iff.1 hz).1; rw [hlen] at this; exact this
      rw [List.getElem?_map, List.getElem?_range hi] at hz
      obtain rfl := Option.some.inj hz
      have := hq (j / k) (by omega) (j % k) u (Nat.mod_lt _ hk) hzu
      rw [add_lit', show o + (j / k * k + j % k) = o + j by rw [Nat.mul_comm, Nat.div_add_mod]] at this
      exact this
theorem tn_field {n : Nat} {l : List Value} {y : DataW H × List MemPlace} (h : DataW.trod enc Try.prog W 0 (fun _ => true) true n 71 l = some y) : ∃ z : AX.Tn, l = AX.tnv z := by
  obtain ⟨xs, m, _, _, hl, hn, hx⟩ := DataW.trod_struct Try.underlying71 h
  have hC : Try.prog.cellsOf 71 = 3 := by kernel_rfl
  have hI : Try.prog.cellsOf 3 = 1 := by kernel_rfl
  have h0 := hx 0 _ rfl
  have h1 := hx 1 _ rfl
  have h2 := hx 2 _ rfl
  rw [hC] at hl
  match l, hl, xs, hn, h0, h1, h2 with
  | [x0, x1, x2], _, [y0, y1, y2], _, h0, h1, h2 =>
    have k0 : DataW.trod enc Try.prog W 0 (fun _ => true) true m 3 [x0] = some y0 := by simpa [hI] using h0
    have k1 : DataW.trod enc Try.prog W 0 (fun _ => true) true m 3 [x1] = some y1 := by simpa [hI] using h1
    have k2 : DataW.trod enc Try.prog W 0 (fun _ => true) true m 3 [x2] = some y2 := by simpa [hI] using h2
    obtain ⟨a, e0, _, _⟩ := DataW.trod_int Try.underlying3 k0
    obtain ⟨b, e1, _, _⟩ := DataW.trod_int Try.underlying3 k1
    obtain ⟨c, e2, _, _⟩ := DataW.trod_int Try.underlying3 k2
    simp at e0 e1 e2
    subst e0 e1 e2
    exact ⟨(a, b, c), rfl⟩
theorem gr_field {n : Nat} {l : List Value} {y : DataW H × List MemPlace} (h : DataW.trod enc Try.prog W 0 (fun _ => true) true n 60 l = some y) : ∃ z : AX.Pr, l = AX.prv z := by
  obtain ⟨xs, m, _, _, hl, hn, hx⟩ := DataW.trod_struct Try.underlying60 h
  have hC : Try.prog.cellsOf 60 = 2 := by kernel_rfl
  have hI : Try.prog.cellsOf 3 = 1 := by kernel_rfl
  have h0 := hx 0 _ rfl
  have h1 := hx 1 _ rfl
  rw [hC] at hl
  match l, hl, xs, hn, h0, h1 with
  | [x0, x1], _, [y0, y1], _, h0, h1 =>
    have k0 : DataW.trod enc Try.prog W 0 (fun _ => true) true m 3 [x0] = some y0 := by simpa [hI] using h0
    have k1 : DataW.trod enc Try.prog W 0 (fun _ => true) true m 3 [x1] = some y1 := by simpa [hI] using h1
    obtain ⟨a, e0, _, _⟩ := DataW.trod_int Try.underlying3 k0
    obtain ⟨b, e1, _, _⟩ := DataW.trod_int Try.underlying3 k1
    simp at e0 e1
    subst e0 e1
    exact ⟨(a, b), rfl⟩
theorem pr_field {n : Nat} {l : List Value} {y : DataW H × List MemPlace} (h : DataW.trod enc Try.prog W 0 (fun _ => true) true n 30 l = some y) : ∃ z : AX.Pr, l = AX.prv z := by
  obtain ⟨xs, m, _, _, hl, hn, hx⟩ := DataW.trod_array Try.underlying30 h
  have hC : Try.prog.cellsOf 30 = 2 := by kernel_rfl
  have hI : Try.prog.cellsOf 3 = 1 := by kernel_rfl
  have h0 := hx 0 (by omega)
  have h1 := hx 1 (by omega)
  rw [hC] at hl
  match l, hl, xs, hn, h0, h1 with
  | [x0, x1], _, [y0, y1], _, h0, h1 =>
    have k0 : DataW.trod enc Try.prog W 0 (fun _ => true) true m 3 [x0] = some y0 := by simpa [hI] using h0
    have k1 : DataW.trod enc Try.prog W 0 (fun _ => true) true m 3 [x1] = some y1 := by simpa [hI] using h1
    obtain ⟨a, e0, _, _⟩ := DataW.trod_int Try.underlying3 k0
    obtain ⟨b, e1, _, _⟩ := DataW.trod_int Try.underlying3 k1
    simp at e0 e1
    subst e0 e1
    exact ⟨(a, b), rfl⟩
theorem int_field {n : Nat} {l : List Value} {y : DataW H × List MemPlace} (h : DataW.trod enc Try.prog W 0 (fun _ => true) true n 3 l = some y) : ∃ z : Int, l = [.int .i64 z] := by
  obtain ⟨a, e0, _, _⟩ := DataW.trod_int Try.underlying3 h
  exact ⟨a, e0⟩
theorem SrcN.int {v : Value} {l : List Int} (h : SrcN 1 W v l.length (l.flatMap fun z => [Value.int .i64 z])) : InAt W v l := by
  obtain ⟨ao, c, e, -, h⟩ := h
  refine ⟨ao, c, e, ?_⟩
  rcases h with ⟨h, -⟩ | ⟨g, o, e2, hg, hc⟩
  · exact .inl (List.eq_nil_of_length_eq_zero h)
  · refine .inr ⟨g, o, e2, hg, fun i z hz => ?_⟩
    have := hc (i * 1 + 0) (.int .i64 z) (AX.flat_at (f := fun z => [Value.int .i64 z]) (fun _ => rfl) l i z 0 _ hz rfl)
    simpa using this
/-- A list of numbers as an argument. -/
def InArg (W : World) (v : Value) (l : List Int) : Prop := InAt W v l ∧ l.length ≤ maxLen ∧ Cap v
def PrArg (W : World) (v : Value) (l : List AX.Pr) : Prop := SrcN 2 W v l.length (AX.prc l) ∧ l.length ≤ maxLen ∧ Cap v
def TnArg (W : World) (v : Value) (l : List AX.Tn) : Prop := SrcN 3 W v l.length (AX.tnc l) ∧ l.length ≤ maxLen ∧ Cap v
theorem t_ints {fuel : Nat} {cs : List Value} {y : DataW H × List MemPlace} (h : DataW.trod enc Try.prog W 0 (fun _ => true) true fuel 25 cs = some y) : ∃ v l, cs = [v] ∧ InArg W v l := by
  obtain ⟨v, l, e, h1, h2, h3⟩ := t_elems (fun z => [Value.int .i64 z]) 1 (by omega) (fun _ => rfl) Try.underlying25 (by kernel_rfl) (fun n cs' y h => int_field h) h
  exact ⟨v, l, e, h1.int, h2, h3⟩
theorem t_prs {fuel : Nat} {cs : List Value} {y : DataW H × List MemPlace} (h : DataW.trod enc Try.prog W 0 (fun _ => true) true fuel 22 cs = some y) : ∃ v l, cs = [v] ∧ PrArg W v l :=
  t_elems AX.prv 2 (by omega) AX.prv_len Try.underlying22 (by kernel_rfl) (fun n cs' y h => pr_field h) h
theorem t_grs {fuel : Nat} {cs : List Value} {y : DataW H × List MemPlace} (h : DataW.trod enc Try.prog W 0 (fun _ => true) true fuel 53 cs = some y) : ∃ v l, cs = [v] ∧ PrArg W v l :=
  t_elems AX.prv 2 (by omega) AX.prv_len Try.underlying53 (by kernel_rfl) (fun n cs' y h => gr_field h) h
theorem t_tns {fuel : Nat} {cs : List Value} {y : DataW H × List MemPlace} (h : DataW.trod enc Try.prog W 0 (fun _ => true) true fuel 40 cs = some y) : ∃ v l, cs = [v] ∧ TnArg W v l :=
  t_elems AX.tnv 3 (by omega) AX.tnv_len Try.underlying40 (by kernel_rfl) (fun n cs' y h => tn_field h) h
/-- A list of lists of numbers as an argument. -/
theorem t_lns {fuel : Nat} {cs : List Value} {y : DataW H × List MemPlace} (h : DataW.trod enc Try.prog W 0 (fun _ => true) true fuel 54 cs = some y) : ∃ v LL, cs = [v] ∧ LnAt W v LL ∧ LL.length ≤ maxLen ∧ Cap v := by
  rcases open_slice Try.underlying54 h with ⟨hcs, _⟩ | ⟨a, len, cap, m, n', D, Pl, hcs, _, hl, hm, hmm, _, hx⟩
  · exact ⟨_, [], hcs, ⟨none, 0, rfl, .inl rfl⟩, by simp [maxLen], fun a n c h => by injection h with _ h2 h3; subst h2 h3; exact ⟨Nat.le_refl _, by simp [maxLen]⟩⟩
  · simp at hmm
    subst hmm
    have hC : Try.prog.cellsOf 25 = 1 := by kernel_rfl
    rw [hC] at hx
    have each : ∀ i, i < m → ∃ z : List Int, ∃ v, W.cell? (a.add i) = some v ∧ InArg W v z := fun i hi => by
      obtain ⟨cs', h1, h2⟩ := hx i hi
      obtain ⟨v, l, rfl, h3⟩ := t_ints h2
      obtain ⟨_, _, hcell⟩ := World.cells?_some h1
      have e0 := hcell 0 (by omega)
      rw [add_add] at e0
      exact ⟨l, v, by simpa using e0, h3⟩
    obtain ⟨q, hq⟩ := choose_lt each
    have hlen : ((List.range len).map q).length = len := by simp
    refine ⟨_, (List.range len).map q, hcs, ⟨some a, m, by rw [hlen], ?_⟩, by rw [hlen]; omega, fun a' n c h => by injection h with _ h2 h3; subst h2 h3; exact ⟨hl, hm⟩⟩
    rcases Nat.eq_zero_or_pos len with e | e
    · exact .inl (List.eq_nil_of_length_eq_zero (by rw [hlen]; exact e))
    · right
      obtain ⟨v0, h0, -⟩ := hq 0 (by omega)
      have h0' := spot_lit (w := W) (a := a) (by simpa using h0)
      have hlt := World.block_lt_of_cell? W _ h0
      obtain ⟨g, o, s⟩ := a
      simp at h0'
      subst h0'
      rw [add_lit'] at hlt
      refine ⟨g, o, rfl, hlt, fun i L hL => ?_⟩
      have hi : i < len := by have := (List.getElem?_eq_some_iff.1 hL).1; rw [hlen] at this; exact this
      rw [List.getElem?_map, List.getElem?_range hi] at hL
      obtain rfl := Option.some.inj hL
      obtain ⟨v, h1, h2, h3, -⟩ := hq i (by omega)
      have h2' := h2
      obtain ⟨la, lc, rfl, -⟩ := h2
      rw [add_lit'] at h1
      exact ⟨la, lc, h1, h3, h2'⟩
theorem okWide_str {fs : Array Field} {t : TypeId} {r : Reach} {b0 : Nat} {v : Value} (ht : Try.prog.underlying t = some (.struct fs)) (h : Value.okWide Try.prog W r b0 t v) : ∃ cs, v = .agg cs ∧ cs.size = Try.prog.cellsOf t := by
  simp only [Value.okWide, ht] at h
  obtain ⟨cs, h1, h2, _⟩ := h
  exact ⟨cs, h1, h2⟩
theorem open_reg {base : Nat} {v : Value} {d : DataW H} {p : List MemPlace} (hv : Value.okWide Try.prog W .any base 42 v) (h : DataW.Trod enc Try.prog W 0 (fun _ => true) true 42 v d p) : ∃ v' l, v = .agg #[v'] ∧ TnArg W v' l := by
  obtain ⟨cs, rfl, hsz⟩ := okWide_str Try.underlying42 hv
  obtain ⟨fuel, hf⟩ := h
  obtain ⟨xs, m, _, _, hl, hn, hx⟩ := DataW.trod_struct Try.underlying42 hf
  have hC : Try.prog.cellsOf 42 = 1 := by kernel_rfl
  have hS : Try.prog.cellsOf 40 = 1 := by kernel_rfl
  have h0 := hx 0 _ rfl
  obtain ⟨l⟩ := cs
  rw [hC] at hsz
  match l, hsz, xs, hn, h0 with
  | [x0], _, [y0], _, h0 =>
    have k0 : DataW.trod enc Try.prog W 0 (fun _ => true) true m 40 [x0] = some y0 := by simpa [hS, Value.cells] using h0
    obtain ⟨v', l, e, h1⟩ := t_tns k0
    obtain rfl : x0 = v' := by simpa using e
    exact ⟨x0, l, rfl, h1⟩
theorem open_rows3 {base : Nat} {v : Value} {d : DataW H} {p : List MemPlace} (hv : Value.okWide Try.prog W .any base 43 v) (h : DataW.Trod enc Try.prog W 0 (fun _ => true) true 43 v d p) : ∃ v0 v1 v2 l0 l1 l2, v = .agg #[v0, v1, v2] ∧ InArg W v0 l0 ∧ InArg W v1 l1 ∧ InArg W v2 l2 := by
  obtain ⟨cs, rfl, hsz⟩ := okWide_arr Try.underlying43 hv
  obtain ⟨fuel, hf⟩ := h
  obtain ⟨xs, m, _, _, hl, hn, hx⟩ := DataW.trod_array Try.underlying43 hf
  have hC : Try.prog.cellsOf 43 = 3 := by kernel_rfl
  have hS : Try.prog.cellsOf 25 = 1 := by kernel_rfl
  have h0 := hx 0 (by omega)
  have h1 := hx 1 (by omega)
  have h2 := hx 2 (by omega)
  obtain ⟨l⟩ := cs
  rw [hC] at hsz
  match l, hsz, xs, hn, h0, h1, h2 with
  | [x0, x1, x2], _, [y0, y1, y2], _, h0, h1, h2 =>
    have k0 : DataW.trod enc Try.prog W 0 (fun _ => true) true m 25 [x0] = some y0 := by simpa [hS, Value.cells] using h0
    have k1 : DataW.trod enc Try.prog W 0 (fun _ => true) true m 25 [x1] = some y1 := by simpa [hS, Value.cells] using h1
    have k2 : DataW.trod enc Try.prog W 0 (fun _ => true) true m 25 [x2] = some y2 := by simpa [hS, Value.cells] using h2
    obtain ⟨u0, l0, e0, g0⟩ := t_ints k0
    obtain ⟨u1, l1, e1, g1⟩ := t_ints k1
    obtain ⟨u2, l2, e2, g2⟩ := t_ints k2
    obtain rfl : x0 = u0 := by simpa using e0
    obtain rfl : x1 = u1 := by simpa using e1
    obtain rfl : x2 = u2 := by simpa using e2
    exact ⟨x0, x1, x2, l0, l1, l2, rfl, g0, g1, g2⟩
theorem open_grows2 {base : Nat} {v : Value} {d : DataW H} {p : List MemPlace} (hv : Value.okWide Try.prog W .any base 77 v) (h : DataW.Trod enc Try.prog W 0 (fun _ => true) true 77 v d p) : ∃ v0 v1 l0 l1, v = .agg #[v0, v1] ∧ PrArg W v0 l0 ∧ PrArg W v1 l1 := by
  obtain ⟨cs, rfl, hsz⟩ := okWide_arr Try.underlying77 hv
  obtain ⟨fuel, hf⟩ := h
  obtain ⟨xs, m, _, _, hl, hn, hx⟩ := DataW.trod_array Try.underlying77 hf
  have hC : Try.prog.cellsOf 77 = 2 := by kernel_rfl
  have hS : Try.prog.cellsOf 53 = 1 := by kernel_rfl
  have h0 := hx 0 (by omega)
  have h1 := hx 1 (by omega)
  obtain ⟨l⟩ := cs
  rw [hC] at hsz
  match l, hsz, xs, hn, h0, h1 with
  | [x0, x1], _, [y0, y1], _, h0, h1 =>
    have k0 : DataW.trod enc Try.prog W 0 (fun _ => true) true m 53 [x0] = some y0 := by simpa [hS, Value.cells] using h0
    have k1 : DataW.trod enc Try.prog W 0 (fun _ => true) true m 53 [x1] = some y1 := by simpa [hS, Value.cells] using h1
    obtain ⟨u0, l0, e0, g0⟩ := t_grs k0
    obtain ⟨u1, l1, e1, g1⟩ := t_grs k1
    obtain rfl : x0 = u0 := by simpa using e0
    obtain rfl : x1 = u1 := by simpa using e1
    exact ⟨x0, x1, l0, l1, rfl, g0, g1⟩
/-- A case as an argument. -/
structure CaArg (W : World) (v : Value) (LL : List (List Int)) (la lg lw : List Int) (x : Int) : Prop where
  out : ∃ (ar : Option Addr) (cr : Nat) (aa : Option Addr) (ca : Nat) (ag : Option Addr) (cg : Nat) (aw : Option Addr) (cw : Nat), v = CaV ar LL.length cr aa la.length ca ag lg.length cg aw lw.length cw x ∧ (LnAt W (.slice ar LL.length cr) LL ∧ LL.length ≤ maxLen) ∧ InArg W (.slice aa la.length ca) la ∧ InArg W (.slice ag lg.length cg) lg ∧ InArg W (.slice aw lw.length cw) lw ∧ 0 ≤ x ∧ x ≤ 255
theorem open_case {base : Nat} {v : Value} {d : DataW H} {p : List MemPlace} (hv : Value.okWide Try.prog W .any base 56 v) (h : DataW.Trod enc Try.prog W 0 (fun _ => true) true 56 v d p) : ∃ LL la lg lw x, CaArg W v LL la lg lw x := by
  obtain ⟨cs, rfl, hsz⟩ := okWide_str Try.underlying56 hv
  obtain ⟨fuel, hf⟩ := h
  obtain ⟨xs, m, _, _, hl, hn, hx⟩ := DataW.trod_struct Try.underlying56 hf
  have hC : Try.prog.cellsOf 56 = 5 := by kernel_rfl
  have hS : Try.prog.cellsOf 25 = 1 := by kernel_rfl
  have hR : Try.prog.cellsOf 54 = 1 := by kernel_rfl
  have hU : Try.prog.cellsOf 5 = 1 := by kernel_rfl
  have h0 := hx 0 _ rfl
  have h1 := hx 1 _ rfl
  have h2 := hx 2 _ rfl
  have h3 := hx 3 _ rfl
  have h4 := hx 4 _ rfl
  obtain ⟨l⟩ := cs
  rw [hC] at hsz
  match l, hsz, xs, hn, h0, h1, h2, h3, h4 with
  | [x0, x1, x2, x3, x4], _, [y0, y1, y2, y3, y4], _, h0, h1, h2, h3, h4 =>
    have k0 : DataW.trod enc Try.prog W 0 (fun _ => true) true m 54 [x0] = some y0 := by simpa [hR, Value.cells] using h0
    have k1 : DataW.trod enc Try.prog W 0 (fun _ => true) true m 25 [x1] = some y1 := by simpa [hS, Value.cells] using h1
    have k2 : DataW.trod enc Try.prog W 0 (fun _ => true) true m 25 [x2] = some y2 := by simpa [hS, Value.cells] using h2
    have k3 : DataW.trod enc Try.prog W 0 (fun _ => true) true m 25 [x3] = some y3 := by simpa [hS, Value.cells] using h3
    have k4 : DataW.trod enc Try.prog W 0 (fun _ => true) true m 5 [x4] = some y4 := by simpa [hU, Value.cells] using h4
    obtain ⟨u0, LL, e0, g0, g0', -⟩ := t_lns k0
    obtain ⟨u1, l1, e1, g1⟩ := t_ints k1
    obtain ⟨u2, l2, e2, g2⟩ := t_ints k2
    obtain ⟨u3, l3, e3, g3⟩ := t_ints k3
    obtain ⟨x, e4, _, w4⟩ := DataW.trod_int Try.underlying5 k4
    have hb := bd8 w4
    obtain rfl : x0 = u0 := by simpa using e0
    obtain rfl : x1 = u1 := by simpa using e1
    obtain rfl : x2 = u2 := by simpa using e2
    obtain rfl : x3 = u3 := by simpa using e3
    obtain rfl : x4 = .int .u8 x := by simpa using e4
    have f0 := g0
    have f1 := g1.1
    have f2 := g2.1
    have f3 := g3.1
    obtain ⟨ar, cr, rfl, -⟩ := f0
    obtain ⟨aa, ca, rfl, -⟩ := f1
    obtain ⟨ag, cg, rfl, -⟩ := f2
    obtain ⟨aw, cw, rfl, -⟩ := f3
    exact ⟨LL, l1, l2, l3, x, ⟨ar, cr, aa, ca, ag, cg, aw, cw, rfl, ⟨g0, g0'⟩, g1, g2, g3, hb.1, hb.2⟩⟩
/-- An axis as an argument. -/
theorem open_axis {base : Nat} {v : Value} {d : DataW H} {p : List MemPlace} (hv : Value.okWide Try.prog W .any base 24 v) (h : DataW.Trod enc Try.prog W 0 (fun _ => true) true 24 v d p) : ∃ v' x, v = AxV v' x ∧ PrArg W v' x.map ∧ x.name.size ≤ maxLen ∧ (-9223372036854775808 ≤ x.lo ∧ x.lo ≤ 9223372036854775807) ∧ (-9223372036854775808 ≤ x.de ∧ x.de ≤ 9223372036854775807) ∧ (-9223372036854775808 ≤ x.hi ∧ x.hi ≤ 9223372036854775807) := by
  obtain ⟨cs, rfl, hsz⟩ := okWide_str Try.underlying24 hv
  obtain ⟨fuel, hf⟩ := h
  obtain ⟨xs, m, _, _, hl, hn, hx⟩ := DataW.trod_struct Try.underlying24 hf
  have hC : Try.prog.cellsOf 24 = 5 := by kernel_rfl
  have hS : Try.prog.cellsOf 22 = 1 := by kernel_rfl
  have hI : Try.prog.cellsOf 3 = 1 := by kernel_rfl
  have hT : Try.prog.cellsOf 9 = 1 := by kernel_rfl
  have h0 := hx 0 _ rfl
  have h1 := hx 1 _ rfl
  have h2 := hx 2 _ rfl
  have h3 := hx 3 _ rfl
  have h4 := hx 4 _ rfl
  obtain ⟨l⟩ := cs
  rw [hC] at hsz
  match l, hsz, xs, hn, h0, h1, h2, h3, h4 with
  | [x0, x1, x2, x3, x4], _, [y0, y1, y2, y3, y4], _, h0, h1, h2, h3, h4 =>
    have k0 : DataW.trod enc Try.prog W 0 (fun _ => true) true m 9 [x0] = some y0 := by simpa [hT, Value.cells] using h0
    have k1 : DataW.trod enc Try.prog W 0 (fun _ => true) true m 3 [x1] = some y1 := by simpa [hI, Value.cells] using h1
    have k2 : DataW.trod enc Try.prog W 0 (fun _ => true) true m 3 [x2] = some y2 := by simpa [hI, Value.cells] using h2
    have k3 : DataW.trod enc Try.prog W 0 (fun _ => true) true m 3 [x3] = some y3 := by simpa [hI, Value.cells] using h3
    have k4 : DataW.trod enc Try.prog W 0 (fun _ => true) true m 22 [x4] = some y4 := by simpa [hS, Value.cells] using h4
    obtain ⟨s, e0, _, w0⟩ := DataW.trod_string Try.underlying9 k0
    obtain ⟨z1, e1, _, w1⟩ := DataW.trod_int Try.underlying3 k1
    obtain ⟨z2, e2, _, w2⟩ := DataW.trod_int Try.underlying3 k2
    obtain ⟨z3, e3, _, w3⟩ := DataW.trod_int Try.underlying3 k3
    obtain ⟨u4, l4, e4, g4⟩ := t_prs k4
    obtain rfl : x0 = .string s := by simpa using e0
    obtain rfl : x1 = .int .i64 z1 := by simpa using e1
    obtain rfl : x2 = .int .i64 z2 := by simpa using e2
    obtain rfl : x3 = .int .i64 z3 := by simpa using e3
    obtain rfl : x4 = u4 := by simpa using e4
    exact ⟨x4, ⟨s, z1, z2, z3, l4⟩, rfl, g4, w0, bd64 w1, bd64 w2, bd64 w3⟩
theorem open_prs {base : Nat} {v : Value} {d : DataW H} {p : List MemPlace} (hv : Value.okWide Try.prog W .any base 22 v) (h : DataW.Trod enc Try.prog W 0 (fun _ => true) true 22 v d p) : ∃ l, PrArg W v l := by
  obtain ⟨a0, len0, cap0, rfl⟩ := okWide_slice Try.underlying22 hv
  obtain ⟨fuel, hf⟩ := h
  obtain ⟨v', l, e, h1⟩ := t_prs hf
  simp [Value.cells] at e
  rw [e]
  exact ⟨l, h1⟩
theorem open_grs {base : Nat} {v : Value} {d : DataW H} {p : List MemPlace} (hv : Value.okWide Try.prog W .any base 53 v) (h : DataW.Trod enc Try.prog W 0 (fun _ => true) true 53 v d p) : ∃ l, PrArg W v l := by
  obtain ⟨a0, len0, cap0, rfl⟩ := okWide_slice Try.underlying53 hv
  obtain ⟨fuel, hf⟩ := h
  obtain ⟨v', l, e, h1⟩ := t_grs hf
  simp [Value.cells] at e
  rw [e]
  exact ⟨l, h1⟩
theorem open_ins {base : Nat} {v : Value} {d : DataW H} {p : List MemPlace} (hv : Value.okWide Try.prog W .any base 25 v) (h : DataW.Trod enc Try.prog W 0 (fun _ => true) true 25 v d p) : ∃ l, InArg W v l := by
  obtain ⟨a0, len0, cap0, rfl⟩ := okWide_slice Try.underlying25 hv
  obtain ⟨fuel, hf⟩ := h
  obtain ⟨v', l, e, h1⟩ := t_ints hf
  simp [Value.cells] at e
  rw [e]
  exact ⟨l, h1⟩
end
theorem InArg.keep {W W' : World} {v : Value} {l : List Int} (h : InArg W v l) (hb : Below W.heap.size W W') : InArg W' v l := ⟨h.1.keep hb, h.2⟩
theorem PrArg.keep {W W' : World} {v : Value} {l : List AX.Pr} (h : PrArg W v l) (hb : Below W.heap.size W W') : PrArg W' v l := ⟨h.1.keep hb, h.2⟩
theorem TnArg.keep {W W' : World} {v : Value} {l : List AX.Tn} (h : TnArg W v l) (hb : Below W.heap.size W W') : TnArg W' v l := ⟨h.1.keep hb, h.2⟩
end Go.Proofs.Ytbhkbjnmpaebdaa
