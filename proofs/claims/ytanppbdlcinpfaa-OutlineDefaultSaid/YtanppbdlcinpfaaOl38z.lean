/- Glyphs that numbers make: their parts, plainly and in memory. No conditions. -/
import Derived.Test.YtanppbdlcinpfaaOl37
set_option linter.unusedSimpArgs false
set_option linter.unusedVariables false
namespace Go.Proofs.Ytanppbdlcinpfaa
set_option maxRecDepth 100000
set_option linter.unusedVariables false
open Go.RowKit Go.Deep
/-- A glyph that is being made: its Draw in block Bd, its numbers in block X. -/
structure MdS (W1 W : World) (Bd X : Nat) (la : Option Addr) (lc : Nat) (L : List Int) (vc va vd : Value) (h : Ac) (ad : Int) : Prop where
  dw : DwOk W Bd la lc L
  box : W.heap[X]? = some (.cells #[vc, va, .int .i64 h.c, .int .i64 h.x, .int .i64 h.y, .int .i64 ad, vd, .slice none 0 0] 34 (0, 0))
  fr : FrS (fun q => q = Bd ∨ W1.heap.size ≤ q) W1 W
  le : W1.heap.size ≤ X
  lb : Bd < W1.heap.size
section
variable {W1 W V : World} {Bd X lc : Nat} {la : Option Addr} {L : List Int} {vc va vd : Value} {h : Ac} {ad : Int}
theorem MdS.lt (s : MdS W1 W Bd X la lc L vc va vd h ad) : X < W.heap.size := (Array.getElem?_eq_some_iff.1 s.box).1
theorem MdS.up {S : Nat → Prop} (s : MdS W1 W Bd X la lc L vc va vd h ad) (hf : FrS S W V) (hS : ∀ q, S q → X < q) : MdS W1 V Bd X la lc L vc va vd h ad :=
  ⟨s.dw.fr hf (fun q hq => by have := hS q hq; have := s.le; have := s.lb; omega), hf.nd s.box (fun hx => by have := hS X hx; omega), s.fr.over hf (fun q hq => .inl (.inr (by have := hS q hq; have := s.le; omega))), s.le, s.lb⟩
theorem MdS.keep (s : MdS W1 W Bd X la lc L vc va vd h ad) (hb : Below W.heap.size W V) : MdS W1 V Bd X la lc L vc va vd h ad := s.up (FrS.of (S := fun _ => False) hb) (fun _ x => x.elim)
theorem MdS.next (s : MdS W1 W Bd X la lc L vc va vd h ad) (hf : FrS (fun q => q = Bd) W V) (hd : DwOk V Bd la lc L) : MdS W1 V Bd X la lc L vc va vd h ad :=
  ⟨hd, hf.nd s.box (by have := s.le; have := s.lb; omega), s.fr.over hf (fun q hq => .inl (.inl hq)), s.le, s.lb⟩
theorem MdS.set (s : MdS W1 W Bd X la lc L vc va vd h ad) (i : Nat) (u : Value) : DwOk (W.setCell ⟨X, i, none⟩ u) Bd la lc L ∧ FrS (fun q => q = Bd ∨ W1.heap.size ≤ q) W1 (W.setCell ⟨X, i, none⟩ u) :=
  ⟨s.dw.fr (FrS.one W X i u) (fun q hq => by have := s.le; have := s.lb; omega), s.fr.put (.inl (.inr s.le)) u⟩
theorem MdS.put0 (s : MdS W1 W Bd X la lc L vc va vd h ad) (u : Value) : MdS W1 (W.setCell ⟨X, 0, none⟩ u) Bd X la lc L u va vd h ad := ⟨(s.set 0 u).1, heap_setCell_same W X 0 _ _ u s.box, (s.set 0 u).2, s.le, s.lb⟩
theorem MdS.put1 (s : MdS W1 W Bd X la lc L vc va vd h ad) (u : Value) : MdS W1 (W.setCell ⟨X, 1, none⟩ u) Bd X la lc L vc u vd h ad := ⟨(s.set 1 u).1, heap_setCell_same W X 1 _ _ u s.box, (s.set 1 u).2, s.le, s.lb⟩
theorem MdS.put6 (s : MdS W1 W Bd X la lc L vc va vd h ad) (u : Value) : MdS W1 (W.setCell ⟨X, 6, none⟩ u) Bd X la lc L vc va u h ad := ⟨(s.set 6 u).1, heap_setCell_same W X 6 _ _ u s.box, (s.set 6 u).2, s.le, s.lb⟩
theorem MdS.hang (s : MdS W1 W Bd X la lc L vc va vd h ad) (c x y : Int) : MdS W1 (((W.setCell ⟨X, 2, none⟩ (.int .i64 c)).setCell ⟨X, 3, none⟩ (.int .i64 x)).setCell ⟨X, 4, none⟩ (.int .i64 y)) Bd X la lc L vc va vd ⟨c, x, y⟩ ad := by
  have s1 : MdS W1 (W.setCell ⟨X, 2, none⟩ (.int .i64 c)) Bd X la lc L vc va vd ⟨c, h.x, h.y⟩ ad := ⟨(s.set 2 _).1, heap_setCell_same W X 2 _ _ _ s.box, (s.set 2 _).2, s.le, s.lb⟩
  have s2 : MdS W1 ((W.setCell ⟨X, 2, none⟩ (.int .i64 c)).setCell ⟨X, 3, none⟩ (.int .i64 x)) Bd X la lc L vc va vd ⟨c, x, h.y⟩ ad := ⟨(s1.set 3 _).1, heap_setCell_same _ X 3 _ _ _ s1.box, (s1.set 3 _).2, s.le, s.lb⟩
  exact ⟨(s2.set 4 _).1, heap_setCell_same _ X 4 _ _ _ s2.box, (s2.set 4 _).2, s.le, s.lb⟩
theorem MdS.cells (s : MdS W1 W Bd X la lc L vc va vd h ad) : W.cell? ⟨X, 0, none⟩ = some vc ∧ W.cell? ⟨X, 1, none⟩ = some va ∧ W.cell? ⟨X, 2, none⟩ = some (.int .i64 h.c) ∧ W.cell? ⟨X, 3, none⟩ = some (.int .i64 h.x) ∧ W.cell? ⟨X, 4, none⟩ = some (.int .i64 h.y) ∧ W.cell? ⟨X, 5, none⟩ = some (.int .i64 ad) ∧ W.cell? ⟨X, 6, none⟩ = some vd ∧ W.cell? ⟨X, 7, none⟩ = some (.slice none 0 0) :=
  ⟨nd_cell s.box rfl, nd_cell s.box rfl, nd_cell s.box rfl, nd_cell s.box rfl, nd_cell s.box rfl, nd_cell s.box rfl, nd_cell s.box rfl, nd_cell s.box rfl⟩
theorem MdS.froz (s : MdS W1 W Bd X la lc L vc va vd h ad) (i : Nat) : W.frozen? ⟨X, i, none⟩ = false := nd_froz s.box i
end
theorem sto8 {w : World} {X : Nat} {u0 u1 u2 u3 u4 u5 u6 u7 : Value} {T : TypeId} (hb : w.heap[X]? = some (.cells #[u0, u1, u2, u3, u4, u5, u6, u7] T (0, 0))) (a b c d e f g h : Value) :
    ∃ V, ((((((((w.setCell ⟨X, 0, none⟩ a).setCell ⟨X, 1, none⟩ b).setCell ⟨X, 2, none⟩ c).setCell ⟨X, 3, none⟩ d).setCell ⟨X, 4, none⟩ e).setCell ⟨X, 5, none⟩ f).setCell ⟨X, 6, none⟩ g).setCell ⟨X, 7, none⟩ h) = V ∧ V.heap[X]? = some (.cells #[a, b, c, d, e, f, g, h] T (0, 0)) ∧ FrS (fun y => y = X) w V := by
  have s := fun (V : World) (i : Nat) (u : Value) => FrS.set (S := fun b => b = X) V (b := X) (i := i) rfl u
  obtain ⟨w1, e1⟩ : ∃ V, w.setCell ⟨X, 0, none⟩ a = V := ⟨_, rfl⟩
  have h1 : w1.heap[X]? = some (.cells #[a, u1, u2, u3, u4, u5, u6, u7] T (0, 0)) := by rw [← e1]; exact heap_setCell_same w X 0 _ T a hb
  have f1 : FrS (fun y => y = X) w w1 := by rw [← e1]; exact s _ _ _
  obtain ⟨w2, e2⟩ : ∃ V, w1.setCell ⟨X, 1, none⟩ b = V := ⟨_, rfl⟩
  have h2 : w2.heap[X]? = some (.cells #[a, b, u2, u3, u4, u5, u6, u7] T (0, 0)) := by rw [← e2]; exact heap_setCell_same w1 X 1 _ T b h1
  have f2 : FrS (fun y => y = X) w w2 := by rw [← e2]; exact f1.trans (s _ _ _)
  obtain ⟨w3, e3⟩ : ∃ V, w2.setCell ⟨X, 2, none⟩ c = V := ⟨_, rfl⟩
  have h3 : w3.heap[X]? = some (.cells #[a, b, c, u3, u4, u5, u6, u7] T (0, 0)) := by rw [← e3]; exact heap_setCell_same w2 X 2 _ T c h2
  have f3 : FrS (fun y => y = X) w w3 := by rw [← e3]; exact f2.trans (s _ _ _)
  obtain ⟨w4, e4⟩ : ∃ V, w3.setCell ⟨X, 3, none⟩ d = V := ⟨_, rfl⟩
  have h4 : w4.heap[X]? = some (.cells #[a, b, c, d, u4, u5, u6, u7] T (0, 0)) := by rw [← e4]; exact heap_setCell_same w3 X 3 _ T d h3
  have f4 : FrS (fun y => y = X) w w4 := by rw [← e4]; exact f3.trans (s _ _ _)
  obtain ⟨w5, e5⟩ : ∃ V, w4.setCell ⟨X, 4, none⟩ e = V := ⟨_, rfl⟩
  have h5 : w5.heap[X]? = some (.cells #[a, b, c, d, e, u5, u6, u7] T (0, 0)) := by rw [← e5]; exact heap_setCell_same w4 X 4 _ T e h4
  have f5 : FrS (fun y => y = X) w w5 := by rw [← e5]; exact f4.trans (s _ _ _)
  obtain ⟨w6, e6⟩ : ∃ V, w5.setCell ⟨X, 5, none⟩ f = V := ⟨_, rfl⟩
  have h6 : w6.heap[X]? = some (.cells #[a, b, c, d, e, f, u6, u7] T (0, 0)) := by rw [← e6]; exact heap_setCell_same w5 X 5 _ T f h5
  have f6 : FrS (fun y => y = X) w w6 := by rw [← e6]; exact f5.trans (s _ _ _)
  obtain ⟨w7, e7⟩ : ∃ V, w6.setCell ⟨X, 6, none⟩ g = V := ⟨_, rfl⟩
  have h7 : w7.heap[X]? = some (.cells #[a, b, c, d, e, f, g, u7] T (0, 0)) := by rw [← e7]; exact heap_setCell_same w6 X 6 _ T g h6
  have f7 : FrS (fun y => y = X) w w7 := by rw [← e7]; exact f6.trans (s _ _ _)
  obtain ⟨w8, e8⟩ : ∃ V, w7.setCell ⟨X, 7, none⟩ h = V := ⟨_, rfl⟩
  have h8 : w8.heap[X]? = some (.cells #[a, b, c, d, e, f, g, h] T (0, 0)) := by rw [← e8]; exact heap_setCell_same w7 X 7 _ T h h7
  have f8 : FrS (fun y => y = X) w w8 := by rw [← e8]; exact f7.trans (s _ _ _)
  exact ⟨w8, by rw [e1, e2, e3, e4, e5, e6, e7, e8], h8, f8⟩
theorem heap8 {W : World} {X : Nat} {o : Obj} (h : W.heap[X]? = some o) : X < W.heap.size := (Array.getElem?_eq_some_iff.1 h).1
/-- What contours that were made are like. -/
def CtOk (c : List Pt) : Prop := 3 ≤ c.length ∧ c.length ≤ 5 ∧ ∀ p ∈ c, (OL.co p.x && OL.co p.y) = true
theorem CtOk.ctr {c : List Pt} (h : CtOk c) : OL.ctr c = true := by
  unfold OL.ctr
  rw [decide_eq_true h.1, Bool.true_and, List.all_eq_true]
  exact h.2.2
theorem co_of {x : Int} (h0 : -128 ≤ x) (h1 : x ≤ 128) : OL.co x = true := by unfold OL.co; rw [decide_eq_true h0, decide_eq_true h1]; rfl
theorem cts_ok {C : List (List Pt)} (h : ∀ c ∈ C, CtOk c) : OL.contours C = true ∧ OL.pts C ≤ 5 * C.length := by
  constructor
  · unfold OL.contours
    rw [List.all_eq_true]
    exact fun c hc => (h c hc).ctr
  · induction C with
    | nil => simp [OL.pts]
    | cons c C ih =>
      have h1 := (h c (List.mem_cons_self ..)).2.1
      have h2 := ih fun d hd => h d (List.mem_cons_of_mem _ hd)
      unfold OL.pts at h2 ⊢
      rw [List.map_cons, List.sum_cons, List.length_cons]
      omega
/-- What anchors that were made are like. -/
def AnOk (cl : Int) (A : List Ac) : Prop := ∀ (i : Nat) (a : Ac), A[i]? = some a → a.c = cl + i ∧ (OL.co a.x && OL.co a.y) = true
theorem AnOk.go : ∀ {A : List Ac} {cl la : Int}, AnOk cl A → la < cl → cl + A.length ≤ 10 → OL.anGo la A = true
  | [], _, _, _, _, _ => rfl
  | a :: A, cl, la, h, h1, h2 => by
    obtain ⟨h3, h4⟩ := h 0 a rfl
    rw [List.length_cons] at h2
    have h5 : AnOk (cl + 1) A := fun i b hb => by
      obtain ⟨h6, h7⟩ := h (i + 1) b (by simpa using hb)
      exact ⟨by rw [h6]; omega, h7⟩
    unfold OL.anGo
    rw [decide_eq_true (show la < a.c by omega), decide_eq_true (show a.c ≤ 9 by omega), h4, h5.go (by omega) (by omega)]
    rfl
theorem AnOk.snoc {cl : Int} {A : List Ac} {a : Ac} (h : AnOk cl A) (h1 : a.c = cl + A.length) (h2 : (OL.co a.x && OL.co a.y) = true) : AnOk cl (A ++ [a]) := fun i b hb => by
  by_cases hi : i < A.length
  · rw [List.getElem?_append_left hi] at hb
    exact h i b hb
  · have h3 := (List.getElem?_eq_some_iff.1 hb).1
    rw [List.length_append, List.length_singleton] at h3
    rw [List.getElem?_append_right (by omega), show i - A.length = 0 by omega] at hb
    obtain rfl := Option.some.inj hb
    exact ⟨by rw [h1]; omega, h2⟩
theorem dsGo_snoc {reg : Int} {n : Nat} {hc : Int} {d : Dl} : ∀ {D : List Dl} {la : Int}, OL.dsGo reg n hc la D = true → (∀ e ∈ D, e.r < d.r) → la < d.r → (∀ l, l < d.r → OL.delta l reg n hc d = true) → OL.dsGo reg n hc la (D ++ [d]) = true
  | [], la, _, _, h2, h3 => by
    show (OL.delta la reg n hc d && true) = true
    rw [h3 la h2]
    rfl
  | e :: D, la, h, h1, h2, h3 => by
    show (OL.delta la reg n hc e && OL.dsGo reg n hc e.r (D ++ [d])) = true
    have h4 : (OL.delta la reg n hc e && OL.dsGo reg n hc e.r D) = true := h
    rw [Bool.and_eq_true] at h4
    rw [h4.1, dsGo_snoc h4.2 (fun x hx => h1 x (List.mem_cons_of_mem _ hx)) (h1 e (List.mem_cons_self ..)) h3]
    rfl
theorem MvOk.delta {G : Gl} {rg : Nat} {ad : Int} {m : List (Int × Int)} (h : MvOk G rg ad m) {reg l : Int} (h0 : (rg : Int) < reg) (h1 : l < (rg : Int)) : OL.delta l reg (OL.points G) G.hg.c ⟨rg, ad, m⟩ = true := by
  unfold OL.delta
  dsimp only
  have h2 : OL.mo ad = true := by unfold OL.mo; rw [decide_eq_true (show -64 ≤ ad by have := h.lo; omega), decide_eq_true (show ad ≤ 64 by have := h.hi; omega)]; rfl
  have h3 : m.all (fun p => OL.mo p.1 && OL.mo p.2) = true := List.all_eq_true.2 h.all
  rw [decide_eq_true h1, decide_eq_true h0, h2, decide_eq_true h.len, h3]
  by_cases hc : G.hg.c = 0
  · rw [decide_eq_true (h.last hc)]; simp
  · rw [decide_eq_true (show G.hg.c ≠ 0 from hc)]; simp
end Go.Proofs.Ytanppbdlcinpfaa
