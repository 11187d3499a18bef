/- Places of the reference. No conditions. -/
import Derived.Test.YtpmmincophaaiaaAttGo
namespace Go.Proofs.Ytpmmincophaaiaa
set_option maxRecDepth 100000
set_option linter.unusedVariables false
open Go.RowKit Go.Deep
/-- A place in a block of its own. -/
def PtB (V : World) (g : Nat) (p : Int × Int) : Prop := V.heap[g]? = some (.cells #[.int .i64 p.1, .int .i64 p.2] 37 (0, 0))
theorem PtB.lt {V : World} {g : Nat} {p : Int × Int} (h : PtB V g p) : g < V.heap.size := (Array.getElem?_eq_some_iff.1 h).1
theorem PtB.keep {V V' : World} {g : Nat} {p : Int × Int} (h : PtB V g p) (hb : Below V.heap.size V V') : PtB V' g p := (hb.block g h.lt).trans h
theorem PtB.cells {V : World} {g : Nat} {p : Int × Int} (h : PtB V g p) : V.cell? ⟨g, 0, none⟩ = some (.int .i64 p.1) ∧ V.cell? ⟨g, 1, none⟩ = some (.int .i64 p.2) := by
  unfold PtB at h
  constructor <;> simp [World.cell?, h]
theorem PtB.frozen {V : World} {g : Nat} {p : Int × Int} (h : PtB V g p) (j : Nat) : V.frozen? ⟨g, j, none⟩ = false := by
  unfold PtB at h
  simp [World.frozen?, h]
theorem PtB.put {V : World} {g : Nat} {p : Int × Int} (h : PtB V g p) (q : Int × Int) : PtB ((V.setCell ⟨g, 0, none⟩ (.int .i64 q.1)).setCell ⟨g, 1, none⟩ (.int .i64 q.2)) g q :=
  heap_setCell_same _ g 1 _ 37 (.int .i64 q.2) (heap_setCell_same V g 0 _ 37 (.int .i64 q.1) h)
theorem pt_src {X : World} {B : Nat} {a b : Value} {t : TypeId} (h : X.heap[B]? = some (.cells #[a, b] t (0, 0))) : ∀ j u, [a, b][j]? = some u → X.cell? ((⟨B, 0, none⟩ : Addr).add j) = some u := by
  intro j u hj
  match j, hj with
  | 0, hj => simp at hj; subst hj; simp [World.cell?, Addr.add, h]
  | 1, hj => simp at hj; subst hj; simp [World.cell?, Addr.add, h]
  | j + 2, hj => simp at hj
theorem info_pair : (Try.prog.info? 37).map (fun i => (i.zero, i.size, i.bytes)) = some (some (.agg #[.int .i64 0, .int .i64 0]), 2, 16) := by kernel_rfl
/-- A row of places that lies there. -/
def PtAt (W : World) (v : Value) (l : List (Int × Int)) : Prop := ∃ a c, v = .slice a l.length c ∧ (l = [] ∨ ∃ g o, a = some ⟨g, o, none⟩ ∧ g < W.heap.size ∧ ∀ i x, l[i]? = some x → W.cell? ⟨g, o + i * 2, none⟩ = some (.int .i64 x.1) ∧ W.cell? ⟨g, o + i * 2 + 1, none⟩ = some (.int .i64 x.2))
theorem PtAt.keep {W W' : World} {v : Value} {l : List (Int × Int)} (h : PtAt W v l) (hb : Below W.heap.size W W') : PtAt W' v l := by
  obtain ⟨a, c, e, h⟩ := h
  refine ⟨a, c, e, ?_⟩
  rcases h with h | ⟨g, o, e2, hg, hc⟩
  · exact .inl h
  · exact .inr ⟨g, o, e2, Nat.lt_of_lt_of_le hg hb.size, fun i x hx => ⟨(hb.cell (p := ⟨g, o + i * 2, none⟩) hg).trans (hc i x hx).1, (hb.cell (p := ⟨g, o + i * 2 + 1, none⟩) hg).trans (hc i x hx).2⟩⟩
theorem addr_add' (g i : Nat) : ((⟨g, 0, none⟩ : Addr).add i) = ⟨g, i, none⟩ := by cases i <;> simp [Addr.add]
theorem own_pt {w : World} {B e : Nat} {v : Value} {l : List (Int × Int)} {n : Nat} (hn : n = l.length) (h : w.ownsRow B e 2 v n (AT.ptc l)) : PtAt w v l := by
  subst hn
  rcases h.2 with ⟨hv, h0⟩ | ⟨g, cap, cur, hv, hb, hg, _⟩
  · exact ⟨none, 0, by rw [hv, h0], .inl (List.eq_nil_of_length_eq_zero h0)⟩
  · refine ⟨_, cap, hv, ?_⟩
    subst hv
    refine .inr ⟨g, 0, rfl, (Array.getElem?_eq_some_iff.1 hg).1, fun i x hx => ?_⟩
    have hi := (List.getElem?_eq_some_iff.1 hx).1
    obtain ⟨h1, h2⟩ := AT.ptc_at l i x hx
    rw [Nat.zero_add]
    exact ⟨(h.cellAt (i * 2) (by omega)).trans h1, (h.cellAt (i * 2 + 1) (by omega)).trans h2⟩
end Go.Proofs.Ytpmmincophaaiaa
