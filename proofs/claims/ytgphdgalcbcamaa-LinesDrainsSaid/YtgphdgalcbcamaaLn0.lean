/- Blocks that are kept; parcels, and rows of them. No conditions. -/
import Derived.Test.YtgphdgalcbcamaaAppN
namespace Go.Proofs.Ytgphdgalcbcamaa
set_option maxRecDepth 100000
set_option linter.unusedVariables false
open Go.RowKit Go.Deep
/-- All blocks outside S are kept. -/
structure FrS (S : Nat → Prop) (W W' : World) : Prop where
  size : W.heap.size ≤ W'.heap.size
  block : ∀ b, b < W.heap.size → ¬ S b → W'.heap[b]? = W.heap[b]?
  below : ∀ U : World, Below U.heap.size U W → (∀ b, S b → U.heap.size ≤ b) → Below U.heap.size U W'
theorem FrS.refl (S : Nat → Prop) (W : World) : FrS S W W := ⟨Nat.le_refl _, fun _ _ _ => rfl, fun _ h _ => h⟩
theorem FrS.trans {S : Nat → Prop} {A B C : World} (h : FrS S A B) (k : FrS S B C) : FrS S A C :=
  ⟨Nat.le_trans h.size k.size, fun b h1 h2 => (k.block b (Nat.lt_of_lt_of_le h1 h.size) h2).trans (h.block b h1 h2), fun U h1 h2 => k.below U (h.below U h1 h2) h2⟩
theorem FrS.mono {S T : Nat → Prop} {A B : World} (h : FrS S A B) (hst : ∀ b, S b → T b) : FrS T A B :=
  ⟨h.size, fun b h1 h2 => h.block b h1 (fun x => h2 (hst b x)), fun U h1 h2 => h.below U h1 (fun b hb => h2 b (hst b hb))⟩
theorem FrS.set {S : Nat → Prop} (W : World) {b i : Nat} (hb : S b) (u : Value) : FrS S W (W.setCell ⟨b, i, none⟩ u) :=
  ⟨Nat.le_of_eq (by simp), fun c _ h2 => Below.heap_setCell W ⟨b, i, none⟩ u c (fun e => h2 (by rw [e]; exact hb)), fun U h h2 => bset h (p := ⟨b, i, none⟩) (h2 b hb) u⟩
theorem FrS.of {S : Nat → Prop} {A B : World} (h : Below A.heap.size A B) : FrS S A B := ⟨h.size, fun b h1 _ => h.block b h1, fun U h1 _ => bnext h1 h⟩
theorem FrS.over {S T : Nat → Prop} {A B C : World} (h : FrS S A B) (k : FrS T B C) (hT : ∀ b, T b → S b ∨ A.heap.size ≤ b) : FrS S A C :=
  ⟨Nat.le_trans h.size k.size, fun b h1 h2 => (k.block b (Nat.lt_of_lt_of_le h1 h.size) (fun x => by rcases hT b x with z | z; exact h2 z; omega)).trans (h.block b h1 h2), fun U h1 h2 => k.below U (h.below U h1 h2) (fun b hb => (hT b hb).elim (h2 b) (fun z => Nat.le_trans h1.size z))⟩
theorem FrS.then {S : Nat → Prop} {A B C : World} (h : FrS S A B) (k : Below B.heap.size B C) : FrS S A C := h.over (FrS.of (S := fun _ => False) k) (fun _ x => x.elim)
theorem FrS.grown {S : Nat → Prop} {W W' : World} {row : Option Nat} (hg : W.grownBy W' row) (h : ∀ r, row = some r → S r) : FrS S W W' :=
  ⟨hg.size, fun b h1 h2 => hg.block b h1 (fun e => h2 (h b e.symm)), fun U h1 h2 => h1.grown hg h1.size (fun r e => h2 r (h r e))⟩
theorem FrS.own {S : Nat → Prop} {A B : World} {N e k n : Nat} {v : Value} {U : List Value} (h : FrS S A B) (ho : A.ownsRow N e k v n U) (hv : ∀ q, v.ownBlock = some q → ¬ S q) : B.ownsRow N e k v n U := by
  refine ⟨ho.1, ?_⟩
  rcases ho.2 with h1 | ⟨g, cap, cur, rfl, hb, hg, rest⟩
  · exact .inl h1
  · refine .inr ⟨g, cap, cur, rfl, hb, ?_, rest⟩
    rw [h.block g (Array.getElem?_eq_some_iff.1 hg).1 (hv g rfl)]
    exact hg
theorem FrS.nd {S : Nat → Prop} {A B : World} {b : Nat} {o : Obj} (hf : FrS S A B) (h : A.heap[b]? = some o) (hn : ¬ S b) : B.heap[b]? = some o := (hf.block b (Array.getElem?_eq_some_iff.1 h).1 hn).trans h
theorem nd_cell {W : World} {b i : Nat} {cs : Array Value} {T : TypeId} {v : Value} {fr : Nat × Nat} (h : W.heap[b]? = some (.cells cs T fr)) (hv : cs[i]? = some v) : W.cell? ⟨b, i, none⟩ = some v := by
  simp [World.cell?, h, hv]
theorem nd_froz {W : World} {b : Nat} {cs : Array Value} {T : TypeId} (h : W.heap[b]? = some (.cells cs T (0, 0))) (i : Nat) : W.frozen? ⟨b, i, none⟩ = false := by
  simp [World.frozen?, h]
abbrev ptr (b : Nat) : Value := .pointer (some ⟨b, 0, none⟩)
/-- A parcel: its time, its number, from, to, the text. -/
structure Pc where
  t : Int
  n : Int
  f : Int
  o : Int
  s : ByteArray
def pcL (p : Pc) : List Value := [.int .i64 p.t, .int .i64 p.n, .int .i64 p.f, .int .i64 p.o, .string p.s]
abbrev pcV (p : Pc) : Value := .agg #[.int .i64 p.t, .int .i64 p.n, .int .i64 p.f, .int .i64 p.o, .string p.s]
theorem pcL_len (p : Pc) : (pcL p).length = 5 := rfl
def pcs (L : List Pc) : List Value := L.flatMap pcL
theorem pcs_len (L : List Pc) : (pcs L).length = L.length * 5 := flat_len pcL_len L
theorem pcs_app (A B : List Pc) : pcs (A ++ B) = pcs A ++ pcs B := List.flatMap_append
theorem pcs_one (p : Pc) : pcs [p] = pcL p := by simp [pcs]
theorem pcs_cells (l : List Pc) : ∀ u ∈ pcs l, u.oneCell' = true := fun u hu => by
  obtain ⟨k, -, hk⟩ := List.mem_flatMap.1 hu
  simp only [pcL, List.mem_cons, List.not_mem_nil, or_false] at hk
  rcases hk with rfl | rfl | rfl | rfl | rfl <;> rfl
theorem pc_at {W : World} {n c : Nat} {a : Option Addr} {A : List Pc} (h : SrcN 5 W (.slice a n c) n (pcs A)) {i : Nat} {p : Pc} (hk : A[i]? = some p) (hi : i < n) :
    ∃ g o, a = some ⟨g, o, none⟩ ∧ g < W.heap.size ∧ W.cell? ⟨g, o + i * 5, none⟩ = some (.int .i64 p.t) ∧ W.cell? ⟨g, o + i * 5 + 1, none⟩ = some (.int .i64 p.n) ∧ W.cell? ⟨g, o + i * 5 + 2, none⟩ = some (.int .i64 p.f) ∧ W.cell? ⟨g, o + i * 5 + 3, none⟩ = some (.int .i64 p.o) ∧ W.cell? ⟨g, o + i * 5 + 4, none⟩ = some (.string p.s) := by
  obtain ⟨ao, c', e1, hl, h1⟩ := h
  injection e1 with e1 _ _
  subst e1
  rcases h1 with ⟨h1, _⟩ | ⟨g, o, rfl, hgl, hc⟩
  · omega
  · have q := fun (j : Nat) (u : Value) (hu : (pcL p)[j]? = some u) => hc (i * 5 + j) u (flat_at pcL_len A i p j u hk hu)
    exact ⟨g, o, rfl, hgl, q 0 _ rfl, q 1 _ rfl, q 2 _ rfl, q 3 _ rfl, q 4 _ rfl⟩
/-- The same of a row of one's own: at its block's head. -/
theorem pc_own {W : World} {B e n c : Nat} {a : Option Addr} {A : List Pc} (h : W.ownsRow B e 5 (.slice a n c) n (pcs A)) {i : Nat} {p : Pc} (hk : A[i]? = some p) (hi : i < n) :
    ∃ g, a = some ⟨g, 0, none⟩ ∧ B ≤ g ∧ g < W.heap.size ∧ W.cell? ⟨g, i * 5, none⟩ = some (.int .i64 p.t) ∧ W.cell? ⟨g, i * 5 + 1, none⟩ = some (.int .i64 p.n) ∧ W.cell? ⟨g, i * 5 + 2, none⟩ = some (.int .i64 p.f) ∧ W.cell? ⟨g, i * 5 + 3, none⟩ = some (.int .i64 p.o) ∧ W.cell? ⟨g, i * 5 + 4, none⟩ = some (.string p.s) := by
  obtain ⟨g, o, rfl, hg, h0, h1, h2, h3, h4⟩ := pc_at (own_srcN h) hk hi
  rcases h.2 with ⟨hv, hn⟩ | ⟨g', cap, cur, hv, hb, hgg, _⟩
  · simp at hv
  · injection hv with hv _ _
    have hv := Option.some.inj hv
    injection hv with e1 e2
    subst e1 e2
    simp only [Nat.zero_add] at h0 h1 h2 h3 h4
    exact ⟨g, rfl, hb, hg, h0, h1, h2, h3, h4⟩
/-- A parcel stored into a row. -/
theorem pc_set {W : World} {B e n c g : Nat} {A : List Pc} (h : W.ownsRow B e 5 (.slice (some ⟨g, 0, none⟩) n c) n (pcs A)) (i : Nat) (hi : i < A.length) (p : Pc) :
    ∃ V, ((((W.setCell ⟨g, i * 5, none⟩ (.int .i64 p.t)).setCell ⟨g, i * 5 + 1, none⟩ (.int .i64 p.n)).setCell ⟨g, i * 5 + 2, none⟩ (.int .i64 p.f)).setCell ⟨g, i * 5 + 3, none⟩ (.int .i64 p.o)).setCell ⟨g, i * 5 + 4, none⟩ (.string p.s) = V ∧
      V.ownsRow B e 5 (.slice (some ⟨g, 0, none⟩) n c) n (pcs (A.set i p)) ∧ FrS (fun b => b = g) W V := by
  refine ⟨_, rfl, ?_, ?_⟩
  · have h0 := (h.stored (i * 5) (.int .i64 p.t)).1
    have h1 := (h0.stored (i * 5 + 1) (.int .i64 p.n)).1
    have h2 := (h1.stored (i * 5 + 2) (.int .i64 p.f)).1
    have h3 := (h2.stored (i * 5 + 3) (.int .i64 p.o)).1
    have h4 := (h3.stored (i * 5 + 4) (.string p.s)).1
    have hset : ((((((pcs A).set (i * 5) (.int .i64 p.t)).set (i * 5 + 1) (.int .i64 p.n)).set (i * 5 + 2) (.int .i64 p.f)).set (i * 5 + 3) (.int .i64 p.o)).set (i * 5 + 4) (.string p.s)) = pcs (A.set i p) := by
      clear h h0 h1 h2 h3 h4
      induction A generalizing i with
      | nil => simp at hi
      | cons x A ih =>
        cases i with
        | zero => simp [pcs, pcL]
        | succ i =>
          have hi' : i < A.length := by simpa using hi
          have := ih i hi'
          have e : (i + 1) * 5 = i * 5 + 5 := by omega
          simp only [pcs, List.flatMap_cons, pcL, List.cons_append, List.nil_append, e, List.set_cons_succ] at this ⊢
          rw [this]
    rw [hset] at h4
    exact h4
  · have s := fun (V : World) (i : Nat) (u : Value) => FrS.set (S := fun b => b = g) V (b := g) (i := i) rfl u
    exact ((((s _ _ _).trans (s _ _ _)).trans (s _ _ _)).trans (s _ _ _)).trans (s _ _ _)
end Go.Proofs.Ytgphdgalcbcamaa
