/- Texts merged: Fr, Ol0, Ol1, Ol2, Ol3. No conditions. -/
import Derived.Test.YtanppbdlcinpfaaAx21
import Derived.Test.YtanppbdlcinpfaaHeldIn
import Derived.Deep.Cut
import Derived.Deep.CutBlock
import Derived.Test.YtanppbdlcinpfaaAx22
/- Blocks that are kept: all but those of a set. No conditions. -/
section
namespace Go.Proofs.Ytanppbdlcinpfaa
set_option maxRecDepth 100000
set_option linter.unusedVariables false
open Go.RowKit Go.Deep
/-- All blocks outside S are kept. -/
structure FrS (S : Nat → Prop) (W W' : World) : Prop where
  size : W.heap.size ≤ W'.heap.size
  block : ∀ b, b < W.heap.size → ¬ S b → W'.heap[b]? = W.heap[b]?
  below : ∀ U : World, Below U.heap.size U W → (∀ b, S b → U.heap.size ≤ b) → Below U.heap.size U W'
theorem FrS.refl (S : Nat → Prop) (W : World) : FrS S W W := ⟨Nat.le_refl _, fun _ _ _ => rfl, fun _ h _ => h⟩
theorem FrS.trans {S : Nat → Prop} {A B C : World} (h : FrS S A B) (k : FrS S B C) : FrS S A C :=
  ⟨Nat.le_trans h.size k.size, fun b h1 h2 => (k.block b (Nat.lt_of_lt_of_le h1 h.size) h2).trans (h.block b h1 h2), fun U h1 h2 => k.below U (h.below U h1 h2) h2⟩
theorem FrS.mono {S T : Nat → Prop} {A B : World} (h : FrS S A B) (hst : ∀ b, S b → T b) : FrS T A B :=
  ⟨h.size, fun b h1 h2 => h.block b h1 (fun x => h2 (hst b x)), fun U h1 h2 => h.below U h1 (fun b hb => h2 b (hst b hb))⟩
theorem FrS.set {S : Nat → Prop} (W : World) {b i : Nat} (hb : S b) (u : Value) : FrS S W (W.setCell ⟨b, i, none⟩ u) :=
  ⟨Nat.le_of_eq (by simp), fun c _ h2 => Below.heap_setCell W ⟨b, i, none⟩ u c (fun e => h2 (by rw [e]; exact hb)), fun U h h2 => bset h (p := ⟨b, i, none⟩) (h2 b hb) u⟩
theorem FrS.of {S : Nat → Prop} {A B : World} (h : Below A.heap.size A B) : FrS S A B := ⟨h.size, fun b h1 _ => h.block b h1, fun U h1 _ => bnext h1 h⟩
theorem FrS.over {S T : Nat → Prop} {A B C : World} (h : FrS S A B) (k : FrS T B C) (hT : ∀ b, T b → S b ∨ A.heap.size ≤ b) : FrS S A C :=
  ⟨Nat.le_trans h.size k.size, fun b h1 h2 => (k.block b (Nat.lt_of_lt_of_le h1 h.size) (fun x => by rcases hT b x with z | z; exact h2 z; omega)).trans (h.block b h1 h2), fun U h1 h2 => k.below U (h.below U h1 h2) (fun b hb => (hT b hb).elim (h2 b) (fun z => Nat.le_trans h1.size z))⟩
theorem FrS.then {S : Nat → Prop} {A B C : World} (h : FrS S A B) (k : Below B.heap.size B C) : FrS S A C := h.over (FrS.of (S := fun _ => False) k) (fun _ x => x.elim)
theorem FrS.grown {S : Nat → Prop} {W W' : World} {row : Option Nat} (hg : W.grownBy W' row) (h : ∀ r, row = some r → S r) : FrS S W W' :=
  ⟨hg.size, fun b h1 h2 => hg.block b h1 (fun e => h2 (h b e.symm)), fun U h1 h2 => h1.grown hg h1.size (fun r e => h2 r (h r e))⟩
theorem FrS.own {S : Nat → Prop} {A B : World} {N e k n : Nat} {v : Value} {U : List Value} (h : FrS S A B) (ho : A.ownsRow N e k v n U) (hv : ∀ q, v.ownBlock = some q → ¬ S q) : B.ownsRow N e k v n U := by
  refine ⟨ho.1, ?_⟩
  rcases ho.2 with h1 | ⟨g, cap, cur, rfl, hb, hg, rest⟩
  · exact .inl h1
  · refine .inr ⟨g, cap, cur, rfl, hb, ?_, rest⟩
    rw [h.block g (Array.getElem?_eq_some_iff.1 hg).1 (hv g rfl)]
    exact hg
theorem FrS.nd {S : Nat → Prop} {A B : World} {b : Nat} {o : Obj} (hf : FrS S A B) (h : A.heap[b]? = some o) (hn : ¬ S b) : B.heap[b]? = some o := (hf.block b (Array.getElem?_eq_some_iff.1 h).1 hn).trans h
theorem nd_cell {W : World} {b i : Nat} {cs : Array Value} {T : TypeId} {v : Value} {fr : Nat × Nat} (h : W.heap[b]? = some (.cells cs T fr)) (hv : cs[i]? = some v) : W.cell? ⟨b, i, none⟩ = some v := by
  simp [World.cell?, h, hv]
theorem nd_froz {W : World} {b : Nat} {cs : Array Value} {T : TypeId} (h : W.heap[b]? = some (.cells cs T (0, 0))) (i : Nat) : W.frozen? ⟨b, i, none⟩ = false := by
  simp [World.frozen?, h]
abbrev ptr (b : Nat) : Value := .pointer (some ⟨b, 0, none⟩)
theorem set3 {w : World} {X : Nat} {u0 u1 u2 : Value} {T : TypeId} (h : w.heap[X]? = some (.cells #[u0, u1, u2] T (0, 0))) (a b c : Value) :
    ∃ V, ((w.setCell ⟨X, 0, none⟩ a).setCell ⟨X, 1, none⟩ b).setCell ⟨X, 2, none⟩ c = V ∧ V.heap[X]? = some (.cells #[a, b, c] T (0, 0)) ∧ FrS (fun y => y = X) w V := by
  have s := fun (V : World) (i : Nat) (u : Value) => FrS.set (S := fun b => b = X) V (b := X) (i := i) rfl u
  refine ⟨_, rfl, ?_, ((s _ _ _).trans (s _ _ _)).trans (s _ _ _)⟩
  exact heap_setCell_same _ X 2 _ T c (heap_setCell_same _ X 1 _ T b (heap_setCell_same w X 0 _ T a h))
end Go.Proofs.Ytanppbdlcinpfaa
end
/- Glyphs, plainly; how they lie in memory. No conditions. -/
section
namespace Go.Proofs.Ytanppbdlcinpfaa
set_option maxRecDepth 100000
set_option linter.unusedVariables false
open Go.RowKit Go.Deep
structure Pt where
  x : Int
  y : Int
  on : Bool
deriving DecidableEq
structure Ac where
  c : Int
  x : Int
  y : Int
deriving DecidableEq
structure Dl where
  r : Int
  a : Int
  m : List (Int × Int)
deriving DecidableEq
structure Dr where
  cs : List (List Pt)
  an : List Ac
  hg : Ac
  ad : Int
deriving DecidableEq
structure Gl where
  cs : List (List Pt)
  an : List Ac
  hg : Ac
  ad : Int
  ds : List Dl
  pr : List (Int × Int)
deriving DecidableEq
def ptv (p : Pt) : List Value := [.int .i64 p.x, .int .i64 p.y, .bool p.on]
def acv (a : Ac) : List Value := [.int .i64 a.c, .int .i64 a.x, .int .i64 a.y]
def ptc (l : List Pt) : List Value := l.flatMap ptv
def acc (l : List Ac) : List Value := l.flatMap acv
theorem ptv_len (p : Pt) : (ptv p).length = 3 := rfl
theorem acv_len (p : Ac) : (acv p).length = 3 := rfl
theorem ptc_len (l : List Pt) : (ptc l).length = l.length * 3 := AX.flat_len ptv_len l
theorem acc_len (l : List Ac) : (acc l).length = l.length * 3 := AX.flat_len acv_len l
theorem ptc_app (a b : List Pt) : ptc (a ++ b) = ptc a ++ ptc b := List.flatMap_append
theorem acc_app (a b : List Ac) : acc (a ++ b) = acc a ++ acc b := List.flatMap_append
theorem ptc_one (l : List Pt) : ∀ u ∈ ptc l, u.oneCell' = true := fun u hu => by
  obtain ⟨k, -, hk⟩ := List.mem_flatMap.1 hu
  simp only [ptv, List.mem_cons, List.not_mem_nil, or_false] at hk
  rcases hk with rfl | rfl | rfl <;> rfl
theorem acc_one (l : List Ac) : ∀ u ∈ acc l, u.oneCell' = true := fun u hu => by
  obtain ⟨k, -, hk⟩ := List.mem_flatMap.1 hu
  simp only [acv, List.mem_cons, List.not_mem_nil, or_false] at hk
  rcases hk with rfl | rfl | rfl <;> rfl
/-- Rows of points, of anchors, of pairs. -/
def PtAt (W : World) (v : Value) (l : List Pt) : Prop := SrcN 3 W v l.length (ptc l)
def AcAt (W : World) (v : Value) (l : List Ac) : Prop := SrcN 3 W v l.length (acc l)
def MvAt (W : World) (v : Value) (l : List (Int × Int)) : Prop := SrcN 2 W v l.length (AX.prc l)
section
variable {W V : World} {v : Value}
theorem PtAt.keep {l : List Pt} (h : PtAt W v l) (hb : Below W.heap.size W V) : PtAt V v l := SrcN.keep h hb
theorem AcAt.keep {l : List Ac} (h : AcAt W v l) (hb : Below W.heap.size W V) : AcAt V v l := SrcN.keep h hb
theorem MvAt.keep {l : List (Int × Int)} (h : MvAt W v l) (hb : Below W.heap.size W V) : MvAt V v l := SrcN.keep h hb
theorem SrcN.shape {k n : Nat} {U : List Value} (h : SrcN k W v n U) : ∃ a c, v = .slice a n c := by
  obtain ⟨a, c, e, -⟩ := h
  exact ⟨a, c, e⟩
theorem PtAt.shape {l : List Pt} (h : PtAt W v l) : ∃ a c, v = .slice a l.length c := SrcN.shape h
theorem AcAt.shape {l : List Ac} (h : AcAt W v l) : ∃ a c, v = .slice a l.length c := SrcN.shape h
theorem MvAt.shape {l : List (Int × Int)} (h : MvAt W v l) : ∃ a c, v = .slice a l.length c := SrcN.shape h
theorem srcN_at {α : Type} {f : α → List Value} {k : Nat} (hf : ∀ x, (f x).length = k) (hk : 0 < k) {a : Option Addr} {n m c : Nat} {l : List α} (h : SrcN k W (.slice a m c) n (l.flatMap f)) {i : Nat} {x : α} (hx : l[i]? = some x) :
    ∃ g o, a = some ⟨g, o, none⟩ ∧ g < W.heap.size ∧ ∀ j u, (f x)[j]? = some u → W.cell? ⟨g, o + i * k + j, none⟩ = some u := by
  obtain ⟨ao, c', e1, hl, h1⟩ := h
  injection e1 with e1 _ _
  subst e1
  rcases h1 with ⟨h1, _⟩ | ⟨g, o, rfl, hgl, hc⟩
  · have := (List.getElem?_eq_some_iff.1 hx).1
    rw [AX.flat_len hf, h1, Nat.zero_mul] at hl
    have h2 := Nat.mul_pos (show 0 < l.length by omega) hk
    omega
  · refine ⟨g, o, rfl, hgl, fun j u hu => ?_⟩
    rw [Nat.add_assoc]
    exact hc _ u (AX.flat_at hf l i x j u hx hu)
theorem PtAt.cell {a : Option Addr} {m c : Nat} {l : List Pt} (h : PtAt W (.slice a m c) l) {i : Nat} {p : Pt} (hx : l[i]? = some p) :
    ∃ g o, a = some ⟨g, o, none⟩ ∧ g < W.heap.size ∧ W.cell? ⟨g, o + i * 3, none⟩ = some (.int .i64 p.x) ∧ W.cell? ⟨g, o + i * 3 + 1, none⟩ = some (.int .i64 p.y) ∧ W.cell? ⟨g, o + i * 3 + 2, none⟩ = some (.bool p.on) := by
  obtain ⟨g, o, e, hg, hc⟩ := srcN_at ptv_len (by decide) h hx
  exact ⟨g, o, e, hg, hc 0 _ rfl, hc 1 _ rfl, hc 2 _ rfl⟩
theorem AcAt.cell {a : Option Addr} {m c : Nat} {l : List Ac} (h : AcAt W (.slice a m c) l) {i : Nat} {p : Ac} (hx : l[i]? = some p) :
    ∃ g o, a = some ⟨g, o, none⟩ ∧ g < W.heap.size ∧ W.cell? ⟨g, o + i * 3, none⟩ = some (.int .i64 p.c) ∧ W.cell? ⟨g, o + i * 3 + 1, none⟩ = some (.int .i64 p.x) ∧ W.cell? ⟨g, o + i * 3 + 2, none⟩ = some (.int .i64 p.y) := by
  obtain ⟨g, o, e, hg, hc⟩ := srcN_at acv_len (by decide) h hx
  exact ⟨g, o, e, hg, hc 0 _ rfl, hc 1 _ rfl, hc 2 _ rfl⟩
theorem MvAt.cell {a : Option Addr} {m c : Nat} {l : List (Int × Int)} (h : MvAt W (.slice a m c) l) {i : Nat} {p : Int × Int} (hx : l[i]? = some p) :
    ∃ g o, a = some ⟨g, o, none⟩ ∧ g < W.heap.size ∧ W.cell? ⟨g, o + i * 2, none⟩ = some (.int .i64 p.1) ∧ W.cell? ⟨g, o + i * 2 + 1, none⟩ = some (.int .i64 p.2) := by
  obtain ⟨g, o, e, hg, hc⟩ := srcN_at AX.prv_len (by decide) h hx
  exact ⟨g, o, e, hg, hc 0 _ rfl, hc 1 _ rfl⟩
end
/-- Contours: a row of rows. -/
def CsAt (W : World) (v : Value) (C : List (List Pt)) : Prop := ∃ vs : List Value, SrcN 1 W v C.length vs ∧ ∀ (i : Nat) (c : List Pt), C[i]? = some c → ∃ a k, vs[i]? = some (Value.slice a c.length k) ∧ PtAt W (.slice a c.length k) c
def dlv (x : Dl × Value) : List Value := [.int .i64 x.1.r, .int .i64 x.1.a, x.2]
theorem dlv_len (x : Dl × Value) : (dlv x).length = 3 := rfl
/-- Deltas: a row of numbers with rows of moves. -/
def DsAt (W : World) (v : Value) (D : List Dl) : Prop := ∃ vs : List Value, vs.length = D.length ∧ SrcN 3 W v D.length ((D.zip vs).flatMap dlv) ∧ ∀ (i : Nat) (d : Dl), D[i]? = some d → ∃ a k, vs[i]? = some (Value.slice a d.m.length k) ∧ MvAt W (.slice a d.m.length k) d.m
section
variable {W V : World} {v : Value}
theorem CsAt.keep {C : List (List Pt)} (h : CsAt W v C) (hb : Below W.heap.size W V) : CsAt V v C := by
  obtain ⟨vs, h1, h2⟩ := h
  refine ⟨vs, h1.keep hb, fun i c hc => ?_⟩
  obtain ⟨a, k, h3, h4⟩ := h2 i c hc
  exact ⟨a, k, h3, h4.keep hb⟩
theorem DsAt.keep {D : List Dl} (h : DsAt W v D) (hb : Below W.heap.size W V) : DsAt V v D := by
  obtain ⟨vs, h0, h1, h2⟩ := h
  refine ⟨vs, h0, h1.keep hb, fun i c hc => ?_⟩
  obtain ⟨a, k, h3, h4⟩ := h2 i c hc
  exact ⟨a, k, h3, h4.keep hb⟩
theorem CsAt.shape {C : List (List Pt)} (h : CsAt W v C) : ∃ a c, v = .slice a C.length c := by
  obtain ⟨vs, h1, -⟩ := h
  exact h1.shape
theorem DsAt.shape {D : List Dl} (h : DsAt W v D) : ∃ a c, v = .slice a D.length c := by
  obtain ⟨vs, -, h1, -⟩ := h
  exact h1.shape
theorem CsAt.cell {a : Option Addr} {m k : Nat} {C : List (List Pt)} (h : CsAt W (.slice a m k) C) {i : Nat} {c : List Pt} (hx : C[i]? = some c) :
    ∃ g o pa pk, a = some ⟨g, o, none⟩ ∧ g < W.heap.size ∧ W.cell? ⟨g, o + i, none⟩ = some (.slice pa c.length pk) ∧ PtAt W (.slice pa c.length pk) c := by
  obtain ⟨vs, ⟨ao, c', e1, hl, h1⟩, h2⟩ := h
  obtain ⟨pa, pk, h3, h4⟩ := h2 i c hx
  injection e1 with e1 _ _
  subst e1
  rcases h1 with ⟨h1, _⟩ | ⟨g, o, rfl, hgl, hc⟩
  · have := (List.getElem?_eq_some_iff.1 hx).1
    omega
  · exact ⟨g, o, pa, pk, rfl, hgl, hc i _ h3, h4⟩
theorem DsAt.cell {a : Option Addr} {m k : Nat} {D : List Dl} (h : DsAt W (.slice a m k) D) {i : Nat} {d : Dl} (hx : D[i]? = some d) :
    ∃ g o pa pk, a = some ⟨g, o, none⟩ ∧ g < W.heap.size ∧ W.cell? ⟨g, o + i * 3, none⟩ = some (.int .i64 d.r) ∧ W.cell? ⟨g, o + i * 3 + 1, none⟩ = some (.int .i64 d.a) ∧ W.cell? ⟨g, o + i * 3 + 2, none⟩ = some (.slice pa d.m.length pk) ∧ MvAt W (.slice pa d.m.length pk) d.m := by
  obtain ⟨vs, h0, h1, h2⟩ := h
  obtain ⟨pa, pk, h3, h4⟩ := h2 i d hx
  have hz : (D.zip vs)[i]? = some (d, .slice pa d.m.length pk) := List.getElem?_zip_eq_some.2 ⟨hx, h3⟩
  obtain ⟨g, o, e, hg, hc⟩ := srcN_at dlv_len (by decide) h1 hz
  exact ⟨g, o, pa, pk, e, hg, hc 0 _ rfl, hc 1 _ rfl, hc 2 _ rfl, h4⟩
end
/-- A glyph. -/
def GlAt (W : World) (v : Value) (G : Gl) : Prop := ∃ vc va vd vp, v = .agg #[vc, va, .int .i64 G.hg.c, .int .i64 G.hg.x, .int .i64 G.hg.y, .int .i64 G.ad, vd, vp] ∧ CsAt W vc G.cs ∧ AcAt W va G.an ∧ DsAt W vd G.ds ∧ MvAt W vp G.pr
theorem GlAt.keep {W V : World} {v : Value} {G : Gl} (h : GlAt W v G) (hb : Below W.heap.size W V) : GlAt V v G := by
  obtain ⟨vc, va, vd, vp, e, h1, h2, h3, h4⟩ := h
  exact ⟨vc, va, vd, vp, e, h1.keep hb, h2.keep hb, h3.keep hb, h4.keep hb⟩
/-- A drawn outline. -/
def DrAt (W : World) (v : Value) (G : Dr) : Prop := ∃ vc va, v = .agg #[vc, va, .int .i64 G.hg.c, .int .i64 G.hg.x, .int .i64 G.hg.y, .int .i64 G.ad] ∧ CsAt W vc G.cs ∧ AcAt W va G.an
theorem DrAt.keep {W V : World} {v : Value} {G : Dr} (h : DrAt W v G) (hb : Below W.heap.size W V) : DrAt V v G := by
  obtain ⟨vc, va, e, h1, h2⟩ := h
  exact ⟨vc, va, e, h1.keep hb, h2.keep hb⟩
/-- Not too many of anything. -/
structure CsOk (C : List (List Pt)) : Prop where
  n : C.length ≤ 1000
  m : ∀ c ∈ C, c.length ≤ 1000
structure GlOk (G : Gl) : Prop where
  cs : CsOk G.cs
  an : G.an.length ≤ 1000
  ds : G.ds.length ≤ 1000
  mv : ∀ d ∈ G.ds, d.m.length ≤ 1000
  pr : G.pr.length ≤ 1000
namespace OL
def co (x : Int) : Bool := decide (-128 ≤ x) && decide (x ≤ 128)
def mo (x : Int) : Bool := decide (-64 ≤ x) && decide (x ≤ 64)
def pts (C : List (List Pt)) : Nat := (C.map List.length).sum
def points (G : Gl) : Nat := G.an.length + 1 + pts G.cs
def ctr (c : List Pt) : Bool := decide (3 ≤ c.length) && c.all fun p => co p.x && co p.y
def contours (C : List (List Pt)) : Bool := C.all ctr
def hang (h : Ac) : Bool := if h.c = 0 then decide (h = ⟨0, 0, 0⟩) else decide (0 < h.c) && (decide (h.c ≤ 9) && (co h.x && co h.y))
def anGo (last : Int) : List Ac → Bool
  | [] => true
  | a :: l => decide (last < a.c) && (decide (a.c ≤ 9) && (co a.x && co a.y)) && anGo a.c l
def anchors (l : List Ac) (h : Ac) : Bool := anGo 0 l && hang h
def delta (last : Int) (regions : Int) (n : Nat) (hc : Int) (d : Dl) : Bool := decide (last < d.r) && (decide (d.r < regions) && (mo d.a && decide (d.m.length = n))) && (d.m.all (fun p => mo p.1 && mo p.2)) && (decide (hc ≠ 0) || decide (d.m.getD (n - 1) (0, 0) = (0, 0)))
def dsGo (regions : Int) (n : Nat) (hc : Int) (last : Int) : List Dl → Bool
  | [] => true
  | d :: l => delta last regions n hc d && dsGo regions n hc d.r l
def check (G : Gl) (n : Int) : Int :=
  if n < 0 ∨ 8 < n then 1
  else if 6 < G.cs.length ∨ 6 < G.an.length ∨ 40 < points G then 2
  else if contours G.cs = false then 12
  else if anchors G.an G.hg = false then 35
  else if G.ad < 0 ∨ 128 < G.ad then 3
  else if dsGo n (points G) G.hg.c (-1) G.ds = false then 13
  else 0
theorem pts_take {C : List (List Pt)} {i : Nat} {c : List Pt} (h : C[i]? = some c) : pts (C.take (i + 1)) = pts (C.take i) + c.length := by
  unfold pts
  rw [List.take_add_one, h]
  simp
theorem pts_bd {C : List (List Pt)} (h : CsOk C) (i : Nat) : pts (C.take i) ≤ 1000 * i := by
  induction i with
  | zero => simp [pts]
  | succ i ih =>
    cases hc : C[i]? with
    | none => rw [List.take_add_one, hc, Option.toList_none, List.append_nil]; omega
    | some c =>
      rw [pts_take hc]
      have := h.m c (List.mem_of_getElem? hc)
      omega
theorem ctr_short {c : List Pt} (h : ¬ 3 ≤ c.length) : ctr c = false := by unfold ctr; rw [decide_eq_false h]; rfl
theorem ctr_bad {c : List Pt} {p : Pt} (hp : p ∈ c) (h : (co p.x && co p.y) = false) : ctr c = false := by
  unfold ctr
  rw [Bool.and_eq_false_iff]
  right
  rw [List.all_eq_false]
  exact ⟨p, hp, by rw [h]; simp⟩
theorem ctr_good {c : List Pt} (h3 : 3 ≤ c.length) (h : ∀ (j : Nat) (p : Pt), j < c.length → c[j]? = some p → (co p.x && co p.y) = true) : ctr c = true := by
  unfold ctr
  rw [decide_eq_true h3, Bool.true_and, List.all_eq_true]
  intro p hp
  obtain ⟨j, hj⟩ := List.mem_iff_getElem?.1 hp
  exact h j p (List.getElem?_eq_some_iff.1 hj).1 hj
theorem all_bad {α : Type} {f : α → Bool} {C : List α} {c : α} (hp : c ∈ C) (h : f c = false) : C.all f = false := by
  rw [List.all_eq_false]
  exact ⟨c, hp, by rw [h]; simp⟩
theorem all_good {α : Type} {f : α → Bool} {C : List α} (h : ∀ (j : Nat) (p : α), j < C.length → C[j]? = some p → f p = true) : C.all f = true := by
  rw [List.all_eq_true]
  intro p hp
  obtain ⟨j, hj⟩ := List.mem_iff_getElem?.1 hp
  exact h j p (List.getElem?_eq_some_iff.1 hj).1 hj
theorem upto_next {α : Type} {f : α → Bool} {C : List α} {i : Nat} {c : α} (h : ∀ (j : Nat) (p : α), j < i → C[j]? = some p → f p = true) (hc : C[i]? = some c) (hf : f c = true) : ∀ (j : Nat) (p : α), j < i + 1 → C[j]? = some p → f p = true := fun j p hj hp => by
  by_cases e : j = i
  · subst e
    rw [hc] at hp
    rw [← Option.some.inj hp]
    exact hf
  · exact h j p (by omega) hp
end OL
theorem sto2 {w : World} {X : Nat} {u0 u1 : Value} {T : TypeId} (h : w.heap[X]? = some (.cells #[u0, u1] T (0, 0))) (a b : Value) :
    ∃ V, (w.setCell ⟨X, 0, none⟩ a).setCell ⟨X, 1, none⟩ b = V ∧ V.heap[X]? = some (.cells #[a, b] T (0, 0)) ∧ FrS (fun y => y = X) w V := by
  have s := fun (V : World) (i : Nat) (u : Value) => FrS.set (S := fun b => b = X) V (b := X) (i := i) rfl u
  refine ⟨_, rfl, ?_, (s _ _ _).trans (s _ _ _)⟩
  exact heap_setCell_same _ X 1 _ T b (heap_setCell_same w X 0 _ T a h)
theorem sto3 {w : World} {X : Nat} {u0 u1 u2 : Value} {T : TypeId} (h : w.heap[X]? = some (.cells #[u0, u1, u2] T (0, 0))) (a b c : Value) :
    ∃ V, ((w.setCell ⟨X, 0, none⟩ a).setCell ⟨X, 1, none⟩ b).setCell ⟨X, 2, none⟩ c = V ∧ V.heap[X]? = some (.cells #[a, b, c] T (0, 0)) ∧ FrS (fun y => y = X) w V := by
  have s := fun (V : World) (i : Nat) (u : Value) => FrS.set (S := fun b => b = X) V (b := X) (i := i) rfl u
  refine ⟨_, rfl, ?_, ((s _ _ _).trans (s _ _ _)).trans (s _ _ _)⟩
  exact heap_setCell_same _ X 2 _ T c (heap_setCell_same _ X 1 _ T b (heap_setCell_same w X 0 _ T a h))
end Go.Proofs.Ytanppbdlcinpfaa
end
/- Whether numbers are those of a place, or of a move; how many points there are. No conditions. -/
section
namespace Go.Proofs.Ytanppbdlcinpfaa
set_option maxRecDepth 100000
set_option linter.unusedVariables false
open Go.RowKit Go.Deep
theorem coord2_any (W : World) (v : Value) (l : List Int) (hl : l.length ≤ 1000) (hv : RowAt W v (l.map (Value.int .i64))) :
    Calls Try.prog 95 #[v] W fun e w' => e = .returned (.bool (l.all OL.co)) ∧ w' = W := by
  obtain ⟨a, cap, rfl, hc⟩ := hv.out
  rw [List.length_map] at hc ⊢
  obtain ⟨n, hn⟩ : ∃ n, l.length = n := ⟨_, rfl⟩
  have HN := Lib.hid hn
  rw [hn] at hl hc ⊢
  have HC := Lib.hid hc
  clear hc hn hv
  go_enter Try.func95, Try.ntmps95
  go_upto_region 2 with fail
  go_loopw [7] (fun v wr => ∃ i : Nat, v = .int .i64 (i : Int) ∧ i ≤ n ∧ Hid (∀ (j : Nat) (x : Int), j < i → l[j]? = some x → OL.co x = true) ∧ wr = W) (fun v _ => n - (intOf v).toNat)
  case atStart => exact ⟨0, rfl, Nat.zero_le _, Lib.hid (fun j x hj => absurd hj (Nat.not_lt_zero _)), rfl⟩
  case round =>
    obtain ⟨i, rfl, hi, hyes, rfl⟩ := hrel
    by_cases hin : i < n
    · have hii : (i : Int) < (n : Int) := by omega
      have hi0 : (0 : Int) ≤ (i : Int) := by omega
      obtain ⟨x, hx⟩ : ∃ x, l[i]? = some x := ⟨l[i]'(by rw [HN.out]; exact hin), List.getElem?_eq_getElem _⟩
      rcases HC.out with h | ⟨g, o, rfl, hg, hcl⟩
      · simp at h
        rw [h] at hx
        simp at hx
      have c0 := hcl i hin
      have hgd : (l.map (Value.int .i64)).getD i (.bool false) = .int .i64 x := by simp [List.getD, hx]
      rw [hgd] at c0
      have HX := Lib.hid hx
      clear hx hgd hcl hg
      by_cases h1 : -128 ≤ x
      · by_cases h2 : x ≤ 128
        · have HY : Hid (OL.co x = true) := Lib.hid (by unfold OL.co; rw [decide_eq_true h1, decide_eq_true h2]; rfl)
          have h3 : ¬ x < -128 := by omega
          have h4 : ¬ 128 < x := by omega
          clear h1 h2
          go_wp2
          go_roundw
          case rel =>
            refine ⟨i + 1, by go_num, by omega, Lib.hid (fun j y hj hy => ?_), by first | rfl | trivial⟩
            by_cases hji : j = i
            · subst hji
              rw [HX.out] at hy
              rw [← Option.some.inj hy]
              exact HY.out
            · exact hyes.out j y (by omega) hy
          case measure => simp [intOf]; omega
        · have h4 : 128 < x := by omega
          have h3 : ¬ x < -128 := by omega
          have HNO : Hid (l.all OL.co = false) := Lib.hid (by
            rw [List.all_eq_false]
            exact ⟨x, List.mem_of_getElem? HX.out, by unfold OL.co; rw [decide_eq_false h2]; simp⟩)
          clear h1 h2
          go_wp2
          go_ret
          exact ⟨by rw [HNO.out]; rfl, rfl⟩
      · have h3 : x < -128 := by omega
        have HNO : Hid (l.all OL.co = false) := Lib.hid (by
          rw [List.all_eq_false]
          exact ⟨x, List.mem_of_getElem? HX.out, by unfold OL.co; rw [decide_eq_false h1]; simp⟩)
        clear h1
        go_wp2
        go_ret
        exact ⟨by rw [HNO.out]; rfl, rfl⟩
    · have hii : ¬ (i : Int) < (n : Int) := by omega
      have HNO : Hid (l.all OL.co = true) := Lib.hid (by
        rw [List.all_eq_true]
        intro x hx
        obtain ⟨j, hj⟩ := List.mem_iff_getElem?.1 hx
        exact hyes.out j x (by have := (List.getElem?_eq_some_iff.1 hj).1; have := HN.out; omega) hj)
      clear hin
      go_wp2
      go_ret
      exact ⟨by rw [HNO.out]; rfl, rfl⟩
theorem coord2_two (W : World) (x y : Int) : Calls Try.prog 95 #[.slice (some ⟨W.heap.size, 0, none⟩) 2 2] (W.alloc (.cells #[.int .i64 x, .int .i64 y] 3)) fun e w' => e = .returned (.bool (OL.co x && OL.co y)) ∧ w' = W.alloc (.cells #[.int .i64 x, .int .i64 y] 3) := by
  have h := coord2_any (W.alloc (.cells #[.int .i64 x, .int .i64 y] 3)) (.slice (some ⟨W.heap.size, 0, none⟩) 2 2) [x, y] (by simp) ⟨_, 2, rfl, .inr ⟨W.heap.size, 0, rfl, by simp, fun i hi => by
    have h0 := heap_alloc_new W (.cells #[.int .i64 x, .int .i64 y] 3)
    have h2 : i = 0 ∨ i = 1 := by simp at hi; omega
    rcases h2 with rfl | rfl <;> exact nd_cell h0 rfl⟩⟩
  simp only [List.all_cons, List.all_nil, Bool.and_true] at h
  exact h
theorem move2_any (W : World) (v : Value) (l : List Int) (hl : l.length ≤ 1000) (hv : RowAt W v (l.map (Value.int .i64))) :
    Calls Try.prog 96 #[v] W fun e w' => e = .returned (.bool (l.all OL.mo)) ∧ w' = W := by
  obtain ⟨a, cap, rfl, hc⟩ := hv.out
  rw [List.length_map] at hc ⊢
  obtain ⟨n, hn⟩ : ∃ n, l.length = n := ⟨_, rfl⟩
  have HN := Lib.hid hn
  rw [hn] at hl hc ⊢
  have HC := Lib.hid hc
  clear hc hn hv
  go_enter Try.func96, Try.ntmps96
  go_upto_region 2 with fail
  go_loopw [7] (fun v wr => ∃ i : Nat, v = .int .i64 (i : Int) ∧ i ≤ n ∧ Hid (∀ (j : Nat) (x : Int), j < i → l[j]? = some x → OL.mo x = true) ∧ wr = W) (fun v _ => n - (intOf v).toNat)
  case atStart => exact ⟨0, rfl, Nat.zero_le _, Lib.hid (fun j x hj => absurd hj (Nat.not_lt_zero _)), rfl⟩
  case round =>
    obtain ⟨i, rfl, hi, hyes, rfl⟩ := hrel
    by_cases hin : i < n
    · have hii : (i : Int) < (n : Int) := by omega
      have hi0 : (0 : Int) ≤ (i : Int) := by omega
      obtain ⟨x, hx⟩ : ∃ x, l[i]? = some x := ⟨l[i]'(by rw [HN.out]; exact hin), List.getElem?_eq_getElem _⟩
      rcases HC.out with h | ⟨g, o, rfl, hg, hcl⟩
      · simp at h
        rw [h] at hx
        simp at hx
      have c0 := hcl i hin
      have hgd : (l.map (Value.int .i64)).getD i (.bool false) = .int .i64 x := by simp [List.getD, hx]
      rw [hgd] at c0
      have HX := Lib.hid hx
      clear hx hgd hcl hg
      by_cases h1 : -64 ≤ x
      · by_cases h2 : x ≤ 64
        · have HY : Hid (OL.mo x = true) := Lib.hid (by unfold OL.mo; rw [decide_eq_true h1, decide_eq_true h2]; rfl)
          have h3 : ¬ x < -64 := by omega
          have h4 : ¬ 64 < x := by omega
          clear h1 h2
          go_wp2
          go_roundw
          case rel =>
            refine ⟨i + 1, by go_num, by omega, Lib.hid (fun j y hj hy => ?_), by first | rfl | trivial⟩
            by_cases hji : j = i
            · subst hji
              rw [HX.out] at hy
              rw [← Option.some.inj hy]
              exact HY.out
            · exact hyes.out j y (by omega) hy
          case measure => simp [intOf]; omega
        · have h4 : 64 < x := by omega
          have h3 : ¬ x < -64 := by omega
          have HNO : Hid (l.all OL.mo = false) := Lib.hid (by
            rw [List.all_eq_false]
            exact ⟨x, List.mem_of_getElem? HX.out, by unfold OL.mo; rw [decide_eq_false h2]; simp⟩)
          clear h1 h2
          go_wp2
          go_ret
          exact ⟨by rw [HNO.out]; rfl, rfl⟩
      · have h3 : x < -64 := by omega
        have HNO : Hid (l.all OL.mo = false) := Lib.hid (by
          rw [List.all_eq_false]
          exact ⟨x, List.mem_of_getElem? HX.out, by unfold OL.mo; rw [decide_eq_false h1]; simp⟩)
        clear h1
        go_wp2
        go_ret
        exact ⟨by rw [HNO.out]; rfl, rfl⟩
    · have hii : ¬ (i : Int) < (n : Int) := by omega
      have HNO : Hid (l.all OL.mo = true) := Lib.hid (by
        rw [List.all_eq_true]
        intro x hx
        obtain ⟨j, hj⟩ := List.mem_iff_getElem?.1 hx
        exact hyes.out j x (by have := (List.getElem?_eq_some_iff.1 hj).1; have := HN.out; omega) hj)
      clear hin
      go_wp2
      go_ret
      exact ⟨by rw [HNO.out]; rfl, rfl⟩
theorem move2_two (W : World) (x y : Int) : Calls Try.prog 96 #[.slice (some ⟨W.heap.size, 0, none⟩) 2 2] (W.alloc (.cells #[.int .i64 x, .int .i64 y] 3)) fun e w' => e = .returned (.bool (OL.mo x && OL.mo y)) ∧ w' = W.alloc (.cells #[.int .i64 x, .int .i64 y] 3) := by
  have h := move2_any (W.alloc (.cells #[.int .i64 x, .int .i64 y] 3)) (.slice (some ⟨W.heap.size, 0, none⟩) 2 2) [x, y] (by simp) ⟨_, 2, rfl, .inr ⟨W.heap.size, 0, rfl, by simp, fun i hi => by
    have h0 := heap_alloc_new W (.cells #[.int .i64 x, .int .i64 y] 3)
    have h2 : i = 0 ∨ i = 1 := by simp at hi; omega
    rcases h2 with rfl | rfl <;> exact nd_cell h0 rfl⟩⟩
  simp only [List.all_cons, List.all_nil, Bool.and_true] at h
  exact h
theorem move2_one (W : World) (x : Int) : Calls Try.prog 96 #[.slice (some ⟨W.heap.size, 0, none⟩) 1 1] (W.alloc (.cells #[.int .i64 x] 3)) fun e w' => e = .returned (.bool (OL.mo x)) ∧ w' = W.alloc (.cells #[.int .i64 x] 3) := by
  have h := move2_any (W.alloc (.cells #[.int .i64 x] 3)) (.slice (some ⟨W.heap.size, 0, none⟩) 1 1) [x] (by simp) ⟨_, 1, rfl, .inr ⟨W.heap.size, 0, rfl, by simp, fun i hi => by
    have h0 := heap_alloc_new W (.cells #[.int .i64 x] 3)
    have h2 : i = 0 := by simp at hi; omega
    rcases h2 with rfl; exact nd_cell h0 rfl⟩⟩
  simp only [List.all_cons, List.all_nil, Bool.and_true] at h
  exact h
end Go.Proofs.Ytanppbdlcinpfaa
end
/- Whether contours are right; how many points there are. No conditions. -/
section
namespace Go.Proofs.Ytanppbdlcinpfaa
set_option maxRecDepth 100000
set_option linter.unusedVariables false
open Go.RowKit Go.Deep
set_option maxHeartbeats 2000000 in
theorem contours_any (W : World) (v : Value) (C : List (List Pt)) (hv : CsAt W v C) (hok : CsOk C) :
    Calls Try.prog 65 #[v] W fun e w' => e = .returned (.bool (OL.contours C)) ∧ Below W.heap.size W w' := by
  obtain ⟨a, k, rfl⟩ := hv.shape
  obtain ⟨n, hn⟩ : ∃ n, C.length = n := ⟨_, rfl⟩
  have HN := Lib.hid hn
  have hn9 := hok.n
  rw [hn] at hv hn9 ⊢
  have HV := Lib.hid hv
  have HOK := Lib.hid hok
  clear hv hok hn
  go_enter Try.func65, Try.ntmps65
  go_upto_region 2 with fail
  go_loopw [9] (fun v wr => ∃ i : Nat, v = .int .i64 (i : Int) ∧ i ≤ n ∧ Hid (∀ (j : Nat) (c : List Pt), j < i → C[j]? = some c → OL.ctr c = true) ∧ Hid (Below W.heap.size W wr)) (fun v _ => n - (intOf v).toNat)
  case atStart => exact ⟨0, rfl, Nat.zero_le _, Lib.hid (fun j x hj => absurd hj (Nat.not_lt_zero _)), Lib.hid (Below.refl _ _)⟩
  case round =>
    obtain ⟨i, rfl, hi, HY, HB⟩ := hrel
    by_cases hin : i < n
    · have hii : (i : Int) < (n : Int) := by omega
      have hi0 : (0 : Int) ≤ (i : Int) := by omega
      obtain ⟨c, hc⟩ : ∃ c, C[i]? = some c := ⟨_, List.getElem?_eq_getElem (by rw [HN.out]; exact hin)⟩
      obtain ⟨g, o, pa, pk, rfl, hg, hcell, hpt⟩ := (HV.out.keep HB.out).cell hc
      have hcm := HOK.out.m c (List.mem_of_getElem? hc)
      obtain ⟨m, hm⟩ : ∃ m, c.length = m := ⟨_, rfl⟩
      have HM := Lib.hid hm
      rw [hm] at hcell hpt hcm
      have HPT := Lib.hid hpt
      have HCI := Lib.hid hc
      clear hc hg hm hpt
      by_cases h3 : 3 ≤ m
      · have h3' : ¬ (m : Int) < 3 := by omega
        have HM3 := Lib.hid h3
        clear h3
        go_upto_region 7 with fail
        obtain ⟨wo, hwo⟩ : ∃ wo, wo = wr := ⟨_, rfl⟩
        subst hwo
        clear hcell h3'
        go_loopw [18] (fun v wr => ∃ j : Nat, v = .int .i64 (j : Int) ∧ j ≤ m ∧ Hid (∀ (q : Nat) (p : Pt), q < j → c[q]? = some p → (OL.co p.x && OL.co p.y) = true) ∧ Hid (Below wo.heap.size wo wr)) (fun v _ => m - (intOf v).toNat)
        case atStart => exact ⟨0, rfl, Nat.zero_le _, Lib.hid (fun j x hj => absurd hj (Nat.not_lt_zero _)), Lib.hid (Below.refl _ _)⟩
        case round =>
          obtain ⟨j, rfl, hj, HYI, HBI⟩ := hrel
          by_cases hjm : j < m
          · have hjj : (j : Int) < (m : Int) := by omega
            have hj0 : (0 : Int) ≤ (j : Int) := by omega
            obtain ⟨p, hp⟩ : ∃ p, c[j]? = some p := ⟨_, List.getElem?_eq_getElem (by rw [HM.out]; exact hjm)⟩
            obtain ⟨g2, o2, rfl, hg2, c0, c1, c2⟩ := (HPT.out.keep HBI.out).cell hp
            have HPJ := Lib.hid hp
            clear hp hg2
            have hxn := heap_alloc_new wr (.cells #[.int .i64 0, .int .i64 0, .bool false] 81)
            have hbn := balloc (Below.refl _ wr) (.cells #[.int .i64 0, .int .i64 0, .bool false] 81)
            obtain ⟨X, hX⟩ : ∃ X, wr.heap.size = X := ⟨_, rfl⟩
            obtain ⟨wa, hwa⟩ : ∃ wa, wr.alloc (.cells #[.int .i64 0, .int .i64 0, .bool false] 81) = wa := ⟨_, rfl⟩
            have HXo : Hid (X = wr.heap.size) := Lib.hid hX.symm
            rw [hX, hwa] at hxn
            rw [hwa] at hbn
            have bc0 : wa.cell? ⟨X, 0, none⟩ = some (.int .i64 0) := nd_cell hxn rfl
            have bc1 : wa.cell? ⟨X, 1, none⟩ = some (.int .i64 0) := nd_cell hxn rfl
            have bc2 : wa.cell? ⟨X, 2, none⟩ = some (.bool false) := nd_cell hxn rfl
            have bf0 := nd_froz hxn 0
            have bf1 := nd_froz hxn 1
            have bf2 := nd_froz hxn 2
            obtain ⟨wx, hwx, hxx, hfx⟩ := sto3 hxn (.int .i64 p.x) (.int .i64 p.y) (.bool p.on)
            have HXX := Lib.hid hxx
            have HBX := Lib.hid (hfx.below wr hbn (fun b hb => by rw [hb, HXo.out]; exact Nat.le_refl _))
            clear hxx hfx hbn hxn
            go_upto_region 9 with fail
            try rw [hwx]
            clear bc0 bf0 bc1 bf1 bc2 bf2 hwx hX hwa
            clear c0 c1 c2
            have c0 : wx.cell? ⟨X, 0, none⟩ = some (.int .i64 p.x) := nd_cell HXX.out rfl
            have c1 : wx.cell? ⟨X, 1, none⟩ = some (.int .i64 p.y) := nd_cell HXX.out rfl
            have hct := coord2_two wx p.x p.y
            obtain ⟨r, hr⟩ : ∃ r, (OL.co p.x && OL.co p.y) = r := ⟨_, rfl⟩
            rw [hr] at hct
            have HR := Lib.hid hr
            have HC := Lib.hid hct
            clear hr hct
            have hb2 := balloc (Below.refl _ wx) (.cells #[.int .i64 p.x, .int .i64 p.y] 3)
            have HB2 := Lib.hid (bnext HBI.out (bnext HBX.out hb2))
            clear hb2
            go_wp2_with fail
            go_at_call 95
            refine HC.out.mono ?_
            rintro e w5 ⟨rfl, hw5⟩
            have HW5 := Lib.hid hw5
            clear HC c0 c1 hw5
            have HB5 : Hid (Below wo.heap.size wo w5) := Lib.hid (by rw [HW5.out]; exact HB2.out)
            cases r with
            | false =>
              have HNO : Hid (OL.contours C = false) := Lib.hid (OL.all_bad (List.mem_of_getElem? HCI.out) (OL.ctr_bad (List.mem_of_getElem? HPJ.out) HR.out))
              go_wp2
              go_ret
              exact ⟨by rw [HNO.out]; rfl, bnext HB.out HB5.out⟩
            | true =>
              go_wp2
              go_roundw
              case rel => exact ⟨j + 1, by go_num, by omega, Lib.hid (OL.upto_next (f := fun p => OL.co p.x && OL.co p.y) HYI.out HPJ.out HR.out), HB5⟩
              case measure => simp [intOf]; omega
          · have hjj : ¬ (j : Int) < (m : Int) := by omega
            have HGD : Hid (OL.ctr c = true) := Lib.hid (OL.ctr_good (by rw [HM.out]; exact HM3.out) (fun q p hq hp => HYI.out q p (by have := HM.out; omega) hp))
            clear hjm
            go_wp2
            go_roundw
            case rel => exact ⟨i + 1, by go_num, by omega, Lib.hid (OL.upto_next HY.out HCI.out HGD.out), Lib.hid (bnext HB.out HBI.out)⟩
            case measure => simp [intOf]; omega
      · have h3' : (m : Int) < 3 := by omega
        have HNO : Hid (OL.contours C = false) := Lib.hid (OL.all_bad (List.mem_of_getElem? HCI.out) (OL.ctr_short (by rw [HM.out]; exact h3)))
        clear h3
        go_wp2
        go_ret
        exact ⟨by rw [HNO.out]; rfl, HB.out⟩
    · have hii : ¬ (i : Int) < (n : Int) := by omega
      have HNO : Hid (OL.contours C = true) := Lib.hid (OL.all_good (fun j c hj hc => HY.out j c (by have := HN.out; omega) hc))
      clear hin
      go_wp2
      go_ret
      exact ⟨by rw [HNO.out]; rfl, HB.out⟩
set_option maxHeartbeats 2000000 in
theorem points_any (W : World) (v : Value) (G : Gl) (hv : GlAt W v G) (hok : GlOk G) :
    Calls Try.prog 27 #[v] W fun e w' => e = .returned (.int .i64 (OL.points G : Int)) ∧ Below W.heap.size W w' := by
  obtain ⟨C, A, ⟨hc, hx, hy⟩, ad, D, P⟩ := G
  obtain ⟨vc, va, vd, vp, rfl, h1, h2, h3, h4⟩ := hv
  dsimp only at h1 h2 h3 h4
  obtain ⟨ca, ck, rfl⟩ := h1.shape
  obtain ⟨aa, ak, rfl⟩ := h2.shape
  have hn9 := hok.cs.n
  have ha9 := hok.an
  dsimp only at hn9 ha9
  have HOK := Lib.hid hok.cs
  dsimp only at HOK
  unfold OL.points
  dsimp only
  obtain ⟨n, hn⟩ : ∃ n, C.length = n := ⟨_, rfl⟩
  obtain ⟨na, hna⟩ : ∃ na, A.length = na := ⟨_, rfl⟩
  have HN := Lib.hid hn
  rw [hn] at h1 hn9 ⊢
  rw [hna] at ha9 ⊢
  have HV := Lib.hid h1
  clear h1 h2 h3 h4 hok hn hna
  obtain ⟨B, hB⟩ : ∃ B, W.heap.size = B := ⟨_, rfl⟩
  have hx1 := heap_alloc_new W (.cells #[.slice ca n ck, .slice aa na ak, .int .i64 hc, .int .i64 hx, .int .i64 hy, .int .i64 ad, vd, vp] 34)
  have hb1 := balloc (Below.refl _ W) (.cells #[.slice ca n ck, .slice aa na ak, .int .i64 hc, .int .i64 hx, .int .i64 hy, .int .i64 ad, vd, vp] 34)
  obtain ⟨w1, hw1⟩ : ∃ w1, W.alloc (.cells #[.slice ca n ck, .slice aa na ak, .int .i64 hc, .int .i64 hx, .int .i64 hy, .int .i64 ad, vd, vp] 34) = w1 := ⟨_, rfl⟩
  rw [hw1, hB] at hx1
  rw [hw1] at hb1
  have HB1 := Lib.hid hb1
  have x0 : w1.cell? ⟨B, 0, none⟩ = some (.slice ca n ck) := nd_cell hx1 rfl
  have x1 : w1.cell? ⟨B, 1, none⟩ = some (.slice aa na ak) := nd_cell hx1 rfl
  clear hx1 hb1
  have q1 : IntKind.i64.wrap ((na : Int) + 1) = (na : Int) + 1 := IntWalk.i64_in _ (by omega)
  go_enter Try.func27, Try.ntmps27
  go_upto_region 1 with fail
  try rw [hw1]
  try rw [hB]
  clear hw1 hB
  go_upto_region 3 with fail
  clear x0 x1 q1
  go_loopw [3, 13] (fun v3 v13 wr => ∃ (i s : Nat), v13 = .int .i64 (i : Int) ∧ v3 = .int .i64 (s : Int) ∧ i ≤ n ∧ s ≤ 2000 + 1000 * i ∧ Hid (s = na + 1 + OL.pts (C.take i)) ∧ wr = w1) (fun v3 v13 _ => n - (intOf v13).toNat)
  case atStart => exact ⟨0, na + 1, rfl, by simp, Nat.zero_le _, by omega, Lib.hid (by simp [OL.pts]), rfl⟩
  case round =>
    obtain ⟨i, s, rfl, rfl, hi, hs9, HS, rfl⟩ := hrel
    by_cases hin : i < n
    · have hii : (i : Int) < (n : Int) := by omega
      have hi0 : (0 : Int) ≤ (i : Int) := by omega
      obtain ⟨c, hc'⟩ : ∃ c, C[i]? = some c := ⟨_, List.getElem?_eq_getElem (by rw [HN.out]; exact hin)⟩
      obtain ⟨g, o, pa, pk, rfl, hg, hcell, hpt⟩ := (HV.out.keep HB1.out).cell hc'
      have hcm := HOK.out.m c (List.mem_of_getElem? hc')
      have hpt := OL.pts_take hc'
      obtain ⟨m, hm⟩ : ∃ m, c.length = m := ⟨_, rfl⟩
      rw [hm] at hcell hcm hpt
      obtain ⟨t, ht⟩ : ∃ t, s + m = t := ⟨_, rfl⟩
      have HT : Hid (t = na + 1 + OL.pts (C.take (i + 1)) ∧ t ≤ 2000 + 1000 * (i + 1)) := Lib.hid (by have := HS.out; omega)
      have q1 : (s : Int) + (m : Int) = (t : Int) := by omega
      have q2 : IntKind.i64.wrap (t : Int) = (t : Int) := IntWalk.i64_in _ (by omega)
      clear hm ht hpt hcm hc' hg hs9
      go_upto_region 6 with fail
      clear q1 q2 hcell
      go_wp2
      go_roundw
      case rel => exact ⟨i + 1, t, by go_num, rfl, by omega, HT.out.2, Lib.hid HT.out.1, by first | rfl | trivial⟩
      case measure => simp [intOf]; omega
    · have hii : ¬ (i : Int) < (n : Int) := by omega
      have HE : Hid (s = na + 1 + OL.pts C) := Lib.hid (by
        have h := HS.out
        rw [List.take_of_length_le (by rw [HN.out]; omega)] at h
        exact h)
      clear hin
      go_wp2
      go_ret
      refine ⟨?_, HB1.out⟩
      show Ending.returned (Value.int .i64 (s : Int)) = _
      rw [HE.out]
      try first | rfl | simp
end Go.Proofs.Ytanppbdlcinpfaa
end
/- Whether anchors are right. No conditions. -/
section
namespace Go.Proofs.Ytanppbdlcinpfaa
set_option maxRecDepth 100000
set_option linter.unusedVariables false
open Go.RowKit Go.Deep
theorem anGo_drop {A : List Ac} {i : Nat} {a : Ac} (h : A[i]? = some a) (la : Int) : OL.anGo la (A.drop i) = (decide (la < a.c) && (decide (a.c ≤ 9) && (OL.co a.x && OL.co a.y)) && OL.anGo a.c (A.drop (i + 1))) := by
  obtain ⟨h1, h2⟩ := List.getElem?_eq_some_iff.1 h
  rw [List.drop_eq_getElem_cons h1, h2]
  rfl
set_option maxHeartbeats 2000000 in
theorem anchors_any (W : World) (v : Value) (A : List Ac) (hc hx hy : Int) (hv : AcAt W v A) (hl : A.length ≤ 1000) :
    Calls Try.prog 66 #[v, .agg #[.int .i64 hc, .int .i64 hx, .int .i64 hy]] W fun e w' => e = .returned (.bool (OL.anchors A ⟨hc, hx, hy⟩)) ∧ Below W.heap.size W w' := by
  obtain ⟨a, k, rfl⟩ := hv.shape
  obtain ⟨n, hn⟩ : ∃ n, A.length = n := ⟨_, rfl⟩
  have HN := Lib.hid hn
  rw [hn] at hv hl ⊢
  have HV := Lib.hid hv
  clear hv hn
  obtain ⟨B, hB⟩ : ∃ B, W.heap.size = B := ⟨_, rfl⟩
  have hx1 := heap_alloc_new W (.cells #[.int .i64 hc, .int .i64 hx, .int .i64 hy] 30)
  have hb1 := balloc (Below.refl _ W) (.cells #[.int .i64 hc, .int .i64 hx, .int .i64 hy] 30)
  obtain ⟨w1, hw1⟩ : ∃ w1, W.alloc (.cells #[.int .i64 hc, .int .i64 hx, .int .i64 hy] 30) = w1 := ⟨_, rfl⟩
  rw [hw1, hB] at hx1
  rw [hw1] at hb1
  have HB1 := Lib.hid hb1
  have HX1 := Lib.hid hx1
  clear hx1 hb1
  go_enter Try.func66, Try.ntmps66
  go_upto_region 1 with fail
  try rw [hw1]
  try rw [hB]
  clear hw1 hB
  go_upto_region 3 with fail
  go_loopw [5, 10] (fun v5 v10 wr => ∃ (i : Nat) (la : Int), v10 = .int .i64 (i : Int) ∧ v5 = .int .i64 la ∧ i ≤ n ∧ Hid (OL.anGo 0 A = OL.anGo la (A.drop i)) ∧ Hid (Below w1.heap.size w1 wr)) (fun v5 v10 _ => n - (intOf v10).toNat)
  case atStart => exact ⟨0, 0, rfl, rfl, Nat.zero_le _, Lib.hid rfl, Lib.hid (Below.refl _ _)⟩
  case round =>
    obtain ⟨i, la, rfl, rfl, hi, HG, HB⟩ := hrel
    by_cases hin : i < n
    · have hii : (i : Int) < (n : Int) := by omega
      have hi0 : (0 : Int) ≤ (i : Int) := by omega
      obtain ⟨p, hp⟩ : ∃ p, A[i]? = some p := ⟨_, List.getElem?_eq_getElem (by rw [HN.out]; exact hin)⟩
      obtain ⟨g, o, rfl, hg, c0, c1, c2⟩ := (HV.out.keep (bnext HB1.out HB.out)).cell hp
      have hgo := anGo_drop hp la
      rw [← HG.out] at hgo
      have HGO := Lib.hid hgo
      clear hp hg hgo
      have hxn := heap_alloc_new wr (.cells #[.int .i64 0, .int .i64 0, .int .i64 0] 30)
      have hbn := balloc (Below.refl _ wr) (.cells #[.int .i64 0, .int .i64 0, .int .i64 0] 30)
      obtain ⟨X, hX⟩ : ∃ X, wr.heap.size = X := ⟨_, rfl⟩
      obtain ⟨wa, hwa⟩ : ∃ wa, wr.alloc (.cells #[.int .i64 0, .int .i64 0, .int .i64 0] 30) = wa := ⟨_, rfl⟩
      have HXo : Hid (X = wr.heap.size) := Lib.hid hX.symm
      rw [hX, hwa] at hxn
      rw [hwa] at hbn
      have bc0 : wa.cell? ⟨X, 0, none⟩ = some (.int .i64 0) := nd_cell hxn rfl
      have bc1 : wa.cell? ⟨X, 1, none⟩ = some (.int .i64 0) := nd_cell hxn rfl
      have bc2 : wa.cell? ⟨X, 2, none⟩ = some (.int .i64 0) := nd_cell hxn rfl
      have bf0 := nd_froz hxn 0
      have bf1 := nd_froz hxn 1
      have bf2 := nd_froz hxn 2
      obtain ⟨wx, hwx, hxx, hfx⟩ := sto3 hxn (.int .i64 p.c) (.int .i64 p.x) (.int .i64 p.y)
      have HXX := Lib.hid hxx
      have HBX := Lib.hid (hfx.below wr hbn (fun b hb => by rw [hb, HXo.out]; exact Nat.le_refl _))
      clear hxx hfx hbn hxn
      go_upto_region 5 with fail
      try rw [hwx]
      clear bc0 bf0 bc1 bf1 bc2 bf2 hwx hX hwa
      clear c0 c1 c2
      have c0 : wx.cell? ⟨X, 0, none⟩ = some (.int .i64 p.c) := nd_cell HXX.out rfl
      have c1 : wx.cell? ⟨X, 1, none⟩ = some (.int .i64 p.x) := nd_cell HXX.out rfl
      have c2 : wx.cell? ⟨X, 2, none⟩ = some (.int .i64 p.y) := nd_cell HXX.out rfl
      have HBW := Lib.hid (bnext HB1.out (bnext HB.out HBX.out))
      by_cases h1 : p.c ≤ la
      · have HNO : Hid (OL.anchors A ⟨hc, hx, hy⟩ = false) := Lib.hid (by unfold OL.anchors; rw [HGO.out, decide_eq_false (show ¬ la < p.c by omega)]; rfl)
        go_wp2
        go_ret
        exact ⟨by rw [HNO.out]; rfl, HBW.out⟩
      · by_cases h2 : 9 < p.c
        · have HNO : Hid (OL.anchors A ⟨hc, hx, hy⟩ = false) := Lib.hid (by unfold OL.anchors; rw [HGO.out, decide_eq_false (show ¬ p.c ≤ 9 by omega)]; simp)
          go_wp2
          go_ret
          exact ⟨by rw [HNO.out]; rfl, HBW.out⟩
        · have hct := coord2_two wx p.x p.y
          obtain ⟨r, hr⟩ : ∃ r, (OL.co p.x && OL.co p.y) = r := ⟨_, rfl⟩
          rw [hr] at hct
          have HR := Lib.hid hr
          have HC := Lib.hid hct
          clear hr hct
          have hb2 := balloc (Below.refl _ wx) (.cells #[.int .i64 p.x, .int .i64 p.y] 3)
          have HB2 := Lib.hid (bnext (bnext HB.out HBX.out) hb2)
          clear hb2
          go_wp2_with fail
          go_at_call 95
          refine HC.out.mono ?_
          rintro e w5 ⟨rfl, hw5⟩
          have HW5 := Lib.hid hw5
          clear HC hw5
          have c0' : w5.cell? ⟨X, 0, none⟩ = some (.int .i64 p.c) := by
            rw [HW5.out]
            exact nd_cell ((Below.block (balloc (Below.refl _ wx) _) X (Array.getElem?_eq_some_iff.1 HXX.out).1).trans HXX.out) rfl
          clear c0 c1 c2
          have HB5 : Hid (Below w1.heap.size w1 w5) := Lib.hid (by rw [HW5.out]; exact HB2.out)
          have HGN := Lib.hid (show OL.anGo 0 A = (r && OL.anGo p.c (A.drop (i + 1))) from by
            rw [HGO.out, HR.out, decide_eq_true (show la < p.c by omega), decide_eq_true (show p.c ≤ 9 by omega)]
            simp)
          cases r with
          | false =>
            have HNO : Hid (OL.anchors A ⟨hc, hx, hy⟩ = false) := Lib.hid (by unfold OL.anchors; rw [HGN.out]; rfl)
            go_wp2
            go_ret
            exact ⟨by rw [HNO.out]; rfl, bnext HB1.out HB5.out⟩
          | true =>
            go_wp2
            go_roundw
            case rel => exact ⟨i + 1, p.c, by go_num, rfl, by omega, Lib.hid (by rw [HGN.out]; rfl), HB5⟩
            case measure => simp [intOf]; omega
    · have hii : ¬ (i : Int) < (n : Int) := by omega
      have HE : Hid (OL.anchors A ⟨hc, hx, hy⟩ = OL.hang ⟨hc, hx, hy⟩) := Lib.hid (by
        unfold OL.anchors
        rw [HG.out, List.drop_of_length_le (by rw [HN.out]; omega)]
        exact Bool.true_and _)
      clear hin
      have hx1 := (HB.out.block B (Array.getElem?_eq_some_iff.1 HX1.out).1).trans HX1.out
      have c0 : wr.cell? ⟨B, 0, none⟩ = some (.int .i64 hc) := nd_cell hx1 rfl
      have c1 : wr.cell? ⟨B, 1, none⟩ = some (.int .i64 hx) := nd_cell hx1 rfl
      have c2 : wr.cell? ⟨B, 2, none⟩ = some (.int .i64 hy) := nd_cell hx1 rfl
      have HBW := Lib.hid (bnext HB1.out HB.out)
      clear hx1
      by_cases h0 : hc = 0
      · subst h0
        have HH : Hid (OL.hang ⟨0, hx, hy⟩ = decide (hx = 0 ∧ hy = 0)) := Lib.hid (by
          unfold OL.hang
          rw [if_pos rfl]
          rw [decide_eq_decide]
          constructor
          · intro h; injection h with _ h2 h3; exact ⟨h2, h3⟩
          · rintro ⟨rfl, rfl⟩; rfl)
        by_cases h1 : hx = 0
        · subst h1
          by_cases h2 : hy = 0
          · subst h2
            have HT : Hid (OL.anchors A ⟨0, 0, 0⟩ = true) := Lib.hid (by rw [HE.out, HH.out]; exact decide_eq_true ⟨rfl, rfl⟩)
            go_wp2
            go_ret
            exact ⟨by rw [HT.out]; first | rfl | simp, HBW.out⟩
          · have HT : Hid (OL.anchors A ⟨0, 0, hy⟩ = false) := Lib.hid (by rw [HE.out, HH.out]; exact decide_eq_false (fun h => h2 h.2))
            go_wp2
            go_ret
            exact ⟨by rw [HT.out]; first | rfl | simp [h2], HBW.out⟩
        · have HT : Hid (OL.anchors A ⟨0, hx, hy⟩ = false) := Lib.hid (by rw [HE.out, HH.out]; exact decide_eq_false (fun h => h1 h.1))
          go_wp2
          go_ret
          exact ⟨by rw [HT.out]; first | rfl | simp [h1], HBW.out⟩
      · have hne : (hc == 0) = false := by rw [beq_eq_false_iff_ne]; exact h0
        have HH : Hid (OL.anchors A ⟨hc, hx, hy⟩ = (decide (0 < hc) && (decide (hc ≤ 9) && (OL.co hx && OL.co hy)))) := Lib.hid (by
          rw [HE.out]
          unfold OL.hang
          rw [if_neg h0])
        by_cases h1 : 0 < hc
        · by_cases h2 : hc ≤ 9
          · have hct := coord2_two wr hx hy
            obtain ⟨r, hr⟩ : ∃ r, (OL.co hx && OL.co hy) = r := ⟨_, rfl⟩
            rw [hr] at hct
            have HR := Lib.hid hr
            have HC := Lib.hid hct
            clear hr hct
            have hb2 := balloc (Below.refl _ wr) (.cells #[.int .i64 hx, .int .i64 hy] 3)
            have HB2 := Lib.hid (bnext HBW.out hb2)
            clear hb2
            go_wp2_with fail
            go_at_call 95
            refine HC.out.mono ?_
            rintro e w5 ⟨rfl, hw5⟩
            have HW5 := Lib.hid hw5
            clear HC hw5
            clear c0 c1 c2
            have HT : Hid (OL.anchors A ⟨hc, hx, hy⟩ = r) := Lib.hid (by rw [HH.out, HR.out, decide_eq_true h1, decide_eq_true h2]; rfl)
            have HB5 : Hid (Below W.heap.size W w5) := Lib.hid (by rw [HW5.out]; exact HB2.out)
            clear h1 h2 h0 hne
            go_wp2
            go_ret
            exact ⟨by rw [HT.out]; rfl, HB5.out⟩
          · have HT : Hid (OL.anchors A ⟨hc, hx, hy⟩ = false) := Lib.hid (by rw [HH.out, decide_eq_false h2]; simp)
            clear h0
            go_wp2
            go_ret
            exact ⟨by rw [HT.out]; rfl, HBW.out⟩
        · have HT : Hid (OL.anchors A ⟨hc, hx, hy⟩ = false) := Lib.hid (by rw [HH.out, decide_eq_false h1]; rfl)
          clear h0
          go_wp2
          go_ret
          exact ⟨by rw [HT.out]; rfl, HBW.out⟩
end Go.Proofs.Ytanppbdlcinpfaa
end
