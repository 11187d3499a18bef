/- Texts merged: Ax30, Ax31, Ax32, Ax33, Ax35, Ax36. No conditions. -/
import Derived.Test.YtbhkbjnmpaebdaaAx29
import Derived.Laws.OwnMore
/- Rows: more laws. No conditions. -/
section
namespace Go.Proofs.Ytbhkbjnmpaebdaa
set_option maxRecDepth 100000
set_option linter.unusedVariables false
open Go.RowKit Go.Deep
/-- A region put behind regions of our own. -/
theorem RgO.app {W1 W2 : World} {B : Nat} {v v' : Value} {vs : List Value} {R : List (List AX.Tn)} {r : List AX.Tn} {ra : Option Addr} {rn rc : Nat} {W0 : World} (h : RgO W1 B v vs R) (ht : TnAt W0 (.slice ra rn rc) r) (hB : W0.heap.size ≤ B) (h01 : Below W0.heap.size W0 W1)
    (hg : W1.grownBy W2 v.ownBlock) (hown : W2.ownsRow B 42 1 v' (R.length + 1) (vs ++ [.slice ra rn rc])) (hat : v'.ownBlock = v.ownBlock ∨ v'.ownBlock = some W1.heap.size) : RgO W2 B v' (vs ++ [.slice ra rn rc]) (R ++ [r]) := by
  have hvl : vs.length = R.length := by have := h.1.1; omega
  have ht' := ht
  obtain ⟨a0, c0, e0, -⟩ := ht'
  injection e0 with e1 e2 e3
  subst e2
  refine ⟨by rw [List.length_append]; exact hown, fun i r' hr => ?_⟩
  have hcell : ∀ q (p : Nat), q < W1.heap.size → v.ownBlock ≠ some q → W2.cell? ⟨q, p, none⟩ = W1.cell? ⟨q, p, none⟩ := fun q p hq hne => World.cell?_of_block (a := ⟨q, p, none⟩) (hg.block q hq hne.symm)
  have hs2 : W1.heap.size ≤ W2.heap.size := hg.size
  have hnew : ∀ q, q < W1.heap.size → v.ownBlock ≠ some q → v'.ownBlock ≠ some q := fun q hq hne e => by
    rcases hat with h1 | h1
    · exact hne (h1.symm.trans e)
    · have := Option.some.inj (h1.symm.trans e)
      omega
  by_cases hi : i < R.length
  · rw [List.getElem?_append_left hi] at hr
    obtain ⟨ra', rc', e, h2⟩ := h.2 i r' hr
    refine ⟨ra', rc', by rw [List.getElem?_append_left (by omega)]; exact e, ?_⟩
    rcases h2 with h2 | ⟨g, o', e2, hg', hne, hc⟩
    · exact .inl h2
    · refine .inr ⟨g, o', e2, by omega, hnew g hg' hne, fun j z hz => ?_⟩
      rw [hcell g _ hg' hne, hcell g _ hg' hne, hcell g _ hg' hne]
      exact hc j z hz
  · rw [List.getElem?_append_right (by omega)] at hr
    obtain ⟨hi0, rfl⟩ : i - R.length = 0 ∧ r = r' := by
      cases hd : i - R.length with
      | zero => rw [hd] at hr; exact ⟨rfl, by simpa using hr⟩
      | succ j => rw [hd] at hr; simp at hr
    refine ⟨ra, rc, by rw [List.getElem?_append_right (by omega), hvl, hi0]; rfl, ?_⟩
    obtain ⟨a, c, e, h3⟩ := ht
    injection e with e1 e2 e3
    subst e1
    rcases h3 with h3 | ⟨g, o', e2, hg', hc⟩
    · exact .inl h3
    · have hg1 : g < W1.heap.size := Nat.lt_of_lt_of_le hg' h01.size
      have hne : v.ownBlock ≠ some g := fun e => by
        have h1 := (h.1.lt g e).1
        omega
      refine .inr ⟨g, o', e2, by omega, hnew g hg1 hne, fun j z hz => ?_⟩
      rw [hcell g _ hg1 hne, hcell g _ hg1 hne, hcell g _ hg1 hne]
      exact ⟨(h01.cell (p := ⟨g, o' + j * 3, none⟩) hg').trans (hc j z hz).1, (h01.cell (p := ⟨g, o' + j * 3 + 1, none⟩) hg').trans (hc j z hz).2.1, (h01.cell (p := ⟨g, o' + j * 3 + 2, none⟩) hg').trans (hc j z hz).2.2⟩
theorem regs_len (LL : List (List Int)) (n : Nat) : (regs LL n).length ≤ 4 := by unfold regs; rw [List.length_map, List.length_take]; omega
theorem regs_mem {LL : List (List Int)} {n : Nat} {r : List AX.Tn} (h : r ∈ regs LL n) : ∃ l, r = AX.mkReg l n := by
  unfold regs at h
  obtain ⟨l, -, e⟩ := List.mem_map.1 h
  exact ⟨l, e.symm⟩
theorem rtouches_c {r : List AX.Tn} {l : List AX.Pr} {b : Bool} (h : AX.touches r l = b) (va v : Value) (w : World) (hal : r.length ≤ 1000000000000) (hl : l.length ≤ 1000000000000) (ha : TnAt w va r) (hv : PrAt w v l) :
    Calls Try.prog 37 #[.agg #[va], v] w fun e w' => e = .returned (.bool b) ∧ Below w.heap.size w w' := by
  have := rtouches_any r l va v w hal hl ha hv
  rwa [h] at this
theorem rwithin_c {at' : List Int} {l : List AX.Pr} {b : Bool} (h : AX.within at' l = b) (va v : Value) (w : World) (hal : at'.length ≤ 1000000000000) (hl : l.length ≤ 1000000000000) (ha : InAt w va at') (hv : PrAt w v l) :
    Calls Try.prog 35 #[va, v] w fun e w' => e = .returned (.bool b) ∧ Below w.heap.size w w' := by
  have := rwithin_any at' l va v w hal hl ha hv
  rwa [h] at this
/-- A row of ranges cut off behind m elements. -/
theorem prarg_take {W : World} {a : Option Addr} {n c m : Nat} {l : List AX.Pr} (h : PrArg W (.slice a n c) l) (hm : m ≤ n) : SrcN 2 W (.slice a m c) m (AX.prc (l.take m)) ∧ (l.take m).length = m ∧ m ≤ c := by
  obtain ⟨h1, h2, h3⟩ := h
  have h1' := h1
  obtain ⟨a', c', e, -⟩ := h1'
  injection e with e1 e2 e3
  subst e2
  have := (h3 _ _ _ rfl).1
  refine ⟨by rw [AX.prc, AX.flat_take AX.prv_len]; exact h1.take hm, by rw [List.length_take]; omega, by omega⟩
end Go.Proofs.Ytbhkbjnmpaebdaa
end
/- Appends of rows in statements that draw. No conditions. -/
section
namespace Go.Proofs.Ytbhkbjnmpaebdaa
set_option maxRecDepth 100000
set_option linter.unusedVariables false
open Go.RowKit Go.Deep
theorem run_appN {P : Program} (w : World) (base : Nat) (t ty e : TypeId) (i : TypeInfo) (z : Value) (k bytes : Nat) (ht : P.underlying t = some (.slice e)) (hi : P.info? e = some i) (hz : i.zero = some z)
    (hsize : i.size = k) (hby : i.bytes = bytes) (hzs : z.cells.size = k) (hk : 0 < k)
    (v : Value) (n : Nat) (xs : List Value) (hown : w.ownsRow base e k v n xs)
    (vx : Value) (m : Nat) (U : List Value) (hS : SrcN k w vx m U) (h1 : ∀ u ∈ U, u.oneCell' = true)
    (h63 : n + m ≤ maxLen) (hbytes : (n + m) * bytes ≤ 140737488355328) (hbase : base ≤ w.heap.size) :
    ∃ v' w', (Builtin.append_ #[t, t] ty #[v, vx]).run P w = .ok v' w' ∧ w'.ownsRow base e k v' (n + m) (xs ++ U) ∧ w.grownBy w' v.ownBlock ∧ (v'.ownBlock = v.ownBlock ∨ v'.ownBlock = some w.heap.size) := by
  obtain ⟨ao, c, rfl, hl, hU⟩ := hS
  rcases hU with ⟨hm, hc⟩ | ⟨g, of, rfl, hg, hcells⟩
  · subst hm
    obtain rfl : U = [] := List.eq_nil_of_length_eq_zero (by rw [hl]; simp)
    cases ao with
    | none =>
      obtain rfl := hc rfl
      exact ⟨v, w, run_append_owned_none (P := P) (w := w) base t ty e i k ht hi v n xs hown, by simpa using hown, World.grownBy.refl _ _, .inl rfl⟩
    | some ad =>
      obtain ⟨v', w', hr, h2, h3, -, h5⟩ := run_append_own_at (P := P) w base t ty e i z k bytes ht hi hz hsize hby hzs hk v n xs hown ad 0 c [] (by simp) (by simp) (by simp) (by simpa using h63) (by simpa using hbytes) hbase
      exact ⟨v', w', hr, by simpa using h2, h3, h5⟩
  · obtain ⟨v', w', hr, h2, h3, -, h5⟩ := run_append_own_at (P := P) w base t ty e i z k bytes ht hi hz hsize hby hzs hk v n xs hown ⟨g, of, none⟩ m c U hl (fun j u hj => by rw [Addr.add_lit]; exact hcells j u hj) h1 h63 hbytes hbase
    exact ⟨v', w', hr, h2, h3, h5⟩
/-- An append of a row, in a statement that draws. -/
theorem step_appN {P : Program} {w : World} {ops : Array Oper} {o : Oper} {a : Act} {K : Act → World → Prop} {Q : Exit → Act → World → Prop} {E : Prop} (hgd : o.guard = none) (s x : Operand) (t : TypeId)
    (ho : o.op = .call { callee := .builtin .append, args := #[s, x], argTypes := #[t, t] })
    (base : Nat) (e : TypeId) (i : TypeInfo) (z : Value) (k bytes : Nat) (ht : P.underlying t = some (.slice e)) (hi : P.info? e = some i) (hz : i.zero = some z)
    (hsize : i.size = k) (hby : i.bytes = bytes) (hzs : z.cells.size = k) (hk : 0 < k)
    (v : Value) (n : Nat) (xs : List Value) (hs : a.eval s = v) (hown : w.ownsRow base e k v n xs)
    (vx : Value) (m : Nat) (U : List Value) (hx : a.eval x = vx) (hS : SrcN k w vx m U) (h1 : ∀ u ∈ U, u.oneCell' = true)
    (h63 : n + m ≤ maxLen) (hbytes : (n + m) * bytes ≤ 140737488355328) (hbase : base ≤ w.heap.size)
    (h : ∀ v' w', w'.ownsRow base e k v' (n + m) (xs ++ U) → w.grownBy w' v.ownBlock → (v'.ownBlock = v.ownBlock ∨ v'.ownBlock = some w.heap.size) → K (a.put o.dst v') w') :
    if Region.wanted o (yielded ops a.tmps) = true then Oper.wp P o a w K Q else E := by
  have hw : Region.wanted o (yielded ops a.tmps) = true := by simp [Region.wanted, hgd]
  rw [if_pos hw]
  obtain ⟨v', w', hr, h2, h3, h5⟩ := run_appN (P := P) w base t o.type e i z k bytes ht hi hz hsize hby hzs hk v n xs hown vx m U hS h1 h63 hbytes hbase
  unfold Oper.wp execOp
  simp only [ho, resolve, invoke, builtin, Sem.run_bind, Sem.run_pure, Result.andThen_ok, List.map_toArray, List.map_cons, List.map_nil, hs, hx, hr]
  exact h v' w' h2 h3 h5
theorem InAt.take {W : World} {a : Option Addr} {n c m : Nat} {l : List Int} (h : InAt W (.slice a n c) l) (hm : m ≤ n) : InAt W (.slice a m c) (l.take m) := by
  have hn : l.length = n := by obtain ⟨a', c', e, -⟩ := h; injection e with e1 e2 e3; exact e2.symm
  have h1 := row_first h.row (m := m) (by rw [List.length_map]; omega)
  rw [← List.map_take] at h1
  exact InAt.of h1
theorem rscalar_c' {l : List AX.Tn} {at' : List Int} {a b : Int} (h : AX.scalar l at' = (a, b)) (v va : Value) (w : World) (hl : l.length ≤ 1000000000000) (hal : at'.length ≤ 1000000000000) (hv : TnAt w v l) (ha : InAt w va at') :
    Calls Try.prog 26 #[.agg #[v], va] w fun e w' => e = .returned (.agg #[.int .i64 a, .int .i64 b]) ∧ Below w.heap.size w w' := rscalar_c h v va w hl hal hv ha
theorem scalar_c' {l : List AX.Tn} {at' : List Int} {a b : Int} (h : AX.scalar l at' = (a, b)) (v va : Value) (w : World) (hl : l.length ≤ 1000000000000) (hal : at'.length ≤ 1000000000000) (hv : TnAt w v l) (ha : InAt w va at') :
    Calls Try.prog 25 #[.agg #[v], va] w fun e w' => e = .returned (.agg #[.int .i64 a, .int .i64 b]) ∧ Below w.heap.size w w' := scalar_c h v va w hl hal hv ha
end Go.Proofs.Ytbhkbjnmpaebdaa
end
/- A region that is made in a statement that draws. No conditions. -/
section
namespace Go.Proofs.Ytbhkbjnmpaebdaa
set_option maxRecDepth 100000
set_option linter.unusedVariables false
open Go.RowKit Go.Deep
/-- Rows of tents and of numbers of our own, and perhaps an empty region's block. -/
structure RS (wb W : World) (va : Value) (n : Nat) (U : List Value) (vt : Value) (m : Nat) (T : List Value) (E : Option Nat) : Prop where
  own1 : W.ownsRow wb.heap.size 71 3 va n U
  own2 : W.ownsRow wb.heap.size 3 1 vt m T
  bel : Below wb.heap.size wb W
  box : ∀ e, E = some e → W.heap[e]? = some (.cells #[.slice none 0 0] 42 (0, 0)) ∧ va.ownBlock ≠ some e ∧ vt.ownBlock ≠ some e ∧ wb.heap.size ≤ e
theorem RS.nil (wb : World) : RS wb wb.drew (.slice none 0 0) 0 [] (.slice none 0 0) 0 [] none :=
  ⟨⟨rfl, .inl ⟨rfl, rfl⟩⟩, ⟨rfl, .inl ⟨rfl, rfl⟩⟩, Below.drew (Below.refl _ _), fun e h => by simp at h⟩
theorem RS.elt {wb W : World} {va vt : Value} {n m : Nat} {U T : List Value} {e : Nat} (h : RS wb W va n U vt m T (some e)) : e < W.heap.size := (Array.getElem?_eq_some_iff.1 (h.box e rfl).1).1
theorem RS.reg {wb W W' : World} {va vt va' : Value} {n m n' : Nat} {U T U' : List Value} {E : Option Nat} (h : RS wb W va n U vt m T E) (hb : Below W.heap.size W W') (ho : W'.ownsRow W.heap.size 71 3 va' n' U') : RS wb W' va' n' U' vt m T E := by
  refine ⟨own_base ho h.bel.size, own_below h.own2 hb, bnext h.bel hb, fun e he => ?_⟩
  obtain ⟨h1, h2, h3, h4⟩ := h.box e he
  have hlt := (Array.getElem?_eq_some_iff.1 h1).1
  exact ⟨(hb.block e hlt).trans h1, fun e' => by have := (ho.lt e e').1; omega, h3, h4⟩
theorem RS.ints {wb W W' : World} {va vt vt' : Value} {n m m' : Nat} {U T T' : List Value} {E : Option Nat} (h : RS wb W va n U vt m T E) (hb : Below W.heap.size W W') (ho : W'.ownsRow W.heap.size 3 1 vt' m' T') : RS wb W' va n U vt' m' T' E := by
  refine ⟨own_below h.own1 hb, own_base ho h.bel.size, bnext h.bel hb, fun e he => ?_⟩
  obtain ⟨h1, h2, h3, h4⟩ := h.box e he
  have hlt := (Array.getElem?_eq_some_iff.1 h1).1
  exact ⟨(hb.block e hlt).trans h1, h2, fun e' => by have := (ho.lt e e').1; omega, h4⟩
theorem RS.bx {wb W : World} {va vt : Value} {n m b : Nat} {U T : List Value} (h : RS wb W va n U vt m T none) (hb : W.heap.size = b) : RS wb (W.alloc (.cells #[.slice none 0 0] 42)) va n U vt m T (some b) := by
  subst hb
  refine ⟨own_below h.own1 (balloc (Below.refl _ _) _), own_below h.own2 (balloc (Below.refl _ _) _), balloc h.bel _, fun e he => ?_⟩
  have he' := Option.some.inj he
  subst he'
  exact ⟨heap_alloc_new W _, fun e => by have := (h.own1.lt _ e).2; omega, fun e => by have := (h.own2.lt _ e).2; omega, h.bel.size⟩
theorem RS.lit {wb W : World} {va vt : Value} {n m b : Nat} {U T : List Value} {E : Option Nat} (h : RS wb W va n U vt m T E) (hb : W.heap.size = b) : RS wb (W.alloc (.cells #[] 71)) (.slice (some ⟨b, 0, none⟩) 0 0) 0 [] vt m T E := by
  subst hb
  refine ⟨own_empty W _ 3 _ h.bel.size, own_below h.own2 (balloc (Below.refl _ _) _), balloc h.bel _, fun e he => ?_⟩
  obtain ⟨h1, h2, h3, h4⟩ := h.box e he
  have hlt := (Array.getElem?_eq_some_iff.1 h1).1
  exact ⟨(Below.block (balloc (Below.refl _ W) _) e hlt).trans h1, fun e' => by have : W.heap.size = e := Option.some.inj e'; omega, h3, h4⟩
theorem RS.app {wb W W' : World} {va va' : Value} {n n' : Nat} {U U' : List Value} {E : Option Nat} (h : RS wb W va n U (.slice none 0 0) 0 [] E) (hg : W.grownBy W' va.ownBlock) (ho : W'.ownsRow wb.heap.size 71 3 va' n' U') (hat : va'.ownBlock = va.ownBlock ∨ va'.ownBlock = some W.heap.size) : RS wb W' va' n' U' (.slice none 0 0) 0 [] E := by
  refine ⟨ho, ⟨rfl, .inl ⟨rfl, rfl⟩⟩, h.bel.grown hg h.bel.size (fun j e => (h.own1.lt j e).1), fun e he => ?_⟩
  obtain ⟨h1, h2, h3, h4⟩ := h.box e he
  have hlt := (Array.getElem?_eq_some_iff.1 h1).1
  refine ⟨(hg.block e hlt (fun e' => h2 e'.symm)).trans h1, fun e' => ?_, h3, h4⟩
  rcases hat with h5 | h5
  · exact h2 (h5.symm.trans e')
  · have := Option.some.inj (h5.symm.trans e')
    omega
theorem RS.cell {wb W : World} {va vt : Value} {n m e : Nat} {U T : List Value} (h : RS wb W va n U vt m T (some e)) : W.cell? ⟨e, 0, none⟩ = some (.slice none 0 0) := cell_of (h.box e rfl).1 rfl
theorem RS.frozen {wb W : World} {va vt : Value} {n m e : Nat} {U T : List Value} (h : RS wb W va n U vt m T (some e)) : W.frozen? ⟨e, 0, none⟩ = false := frozen_of (h.box e rfl).1 0
theorem RS.fin {wb W : World} {va vt : Value} {n m e : Nat} {U T : List Value} (h : RS wb W va n U vt m T (some e)) (u : Value) : (W.setCell ⟨e, 0, none⟩ u).heap[e]? = some (.cells #[u] 42 (0, 0)) ∧ SrcN 3 (W.setCell ⟨e, 0, none⟩ u) va n U ∧ (W.setCell ⟨e, 0, none⟩ u).ownsRow wb.heap.size 3 1 vt m T ∧ Below wb.heap.size wb (W.setCell ⟨e, 0, none⟩ u) := by
  obtain ⟨h1, h2, h3, h4⟩ := h.box e rfl
  exact ⟨heap_setCell_same W e 0 _ _ u h1, own_srcN (own_of_grown h.own1 (set_kept W e 0 u) (fun q hq e' => h2 (by rw [hq]; exact e'.symm))), own_of_grown h.own2 (set_kept W e 0 u) (fun q hq e' => h3 (by rw [hq]; exact e'.symm)), bset h.bel h4 u⟩
/-- .. where its block comes last. -/
theorem RS.fin2 {wb W : World} {va vt : Value} {n m b : Nat} {U T : List Value} (h : RS wb W va n U vt m T none) (u : Value) (hb : W.heap.size = b) : (W.alloc (.cells #[u] 42)).heap[b]? = some (.cells #[u] 42 (0, 0)) ∧ SrcN 3 (W.alloc (.cells #[u] 42)) va n U ∧ (W.alloc (.cells #[u] 42)).ownsRow wb.heap.size 3 1 vt m T ∧ Below wb.heap.size wb (W.alloc (.cells #[u] 42)) := by
  subst hb
  exact ⟨heap_alloc_new W _, (own_srcN h.own1).keep (balloc (Below.refl _ _) _), own_below h.own2 (balloc (Below.refl _ _) _), balloc h.bel _⟩
end Go.Proofs.Ytbhkbjnmpaebdaa
end
/- Pairs in rows that are stored into. No conditions. -/
section
namespace Go.Proofs.Ytbhkbjnmpaebdaa.AX
set_option linter.unusedVariables false
theorem prc_get (P : List Pr) {k : Nat} {p : Pr} (h : P[k]? = some p) : (prc P)[k * 2]? = some (.int .i64 p.1) ∧ (prc P)[k * 2 + 1]? = some (.int .i64 p.2) :=
  ⟨flat_at prv_len P k p 0 _ h rfl, flat_at prv_len P k p 1 _ h rfl⟩
theorem prc_set0 : ∀ (P : List Pr) (k : Nat) (p : Pr) (z : Int), P[k]? = some p → (prc P).set (k * 2) (.int .i64 z) = prc (P.set k (z, p.2))
  | [], k, p, z, h => by simp at h
  | q :: P, 0, p, z, h => by
    obtain rfl : q = p := by simpa using h
    rfl
  | q :: P, k + 1, p, z, h => by
    have h' : P[k]? = some p := by simpa using h
    rw [show (k + 1) * 2 = k * 2 + 1 + 1 by omega]
    show Value.int .i64 q.1 :: Value.int .i64 q.2 :: (prc P).set (k * 2) (.int .i64 z) = Value.int .i64 q.1 :: Value.int .i64 q.2 :: prc (P.set k (z, p.2))
    rw [prc_set0 P k p z h']
theorem prc_set1 : ∀ (P : List Pr) (k : Nat) (p : Pr) (z : Int), P[k]? = some p → (prc P).set (k * 2 + 1) (.int .i64 z) = prc (P.set k (p.1, z))
  | [], k, p, z, h => by simp at h
  | q :: P, 0, p, z, h => by
    obtain rfl : q = p := by simpa using h
    rfl
  | q :: P, k + 1, p, z, h => by
    have h' : P[k]? = some p := by simpa using h
    rw [show (k + 1) * 2 + 1 = k * 2 + 1 + 1 + 1 by omega]
    show Value.int .i64 q.1 :: Value.int .i64 q.2 :: (prc P).set (k * 2 + 1) (.int .i64 z) = Value.int .i64 q.1 :: Value.int .i64 q.2 :: prc (P.set k (p.1, z))
    rw [prc_set1 P k p z h']
end Go.Proofs.Ytbhkbjnmpaebdaa.AX
namespace Go.Proofs.Ytbhkbjnmpaebdaa
set_option maxRecDepth 100000
set_option linter.unusedVariables false
open Go.RowKit Go.Deep
theorem info_gr : (Try.prog.info? 60).map (fun i => (i.zero, i.size, i.bytes)) = some (some (.agg #[.int .i64 0, .int .i64 0]), 2, 16) := by kernel_rfl
/-- A row of our own that is not empty lies at the beginning of a block. -/
theorem own_addr {W : World} {B e k n : Nat} {a : Option Addr} {c : Nat} {U : List Value} (h : W.ownsRow B e k (.slice a n c) n U) (hn : 0 < n) : ∃ g, a = some ⟨g, 0, none⟩ ∧ B ≤ g := by
  rcases h.2 with ⟨e, h0⟩ | ⟨g, cap, cur, e, hb, -⟩
  · omega
  · injection e with e1
    exact ⟨g, e1, hb⟩
theorem rsum_c {base : Int} {l : List (Int × Int)} {R : List (List AX.Tn)} {at' : List Int} {r : Int × Bool} (h : AX.sum base l R at' = r) (v vr va : Value) (w : World) (hl : l.length ≤ 1000000000000) (hR : R.length ≤ 1000000000000) (hRR : ∀ r ∈ R, r.length ≤ 1000000000000) (hal : at'.length ≤ 1000000000000) (hv : PrAt w v l) (hr : RgAt w vr R) (ha : InAt w va at') :
    Calls Try.prog 30 #[.int .i64 base, v, vr, va] w fun e w' => e = .returned (.tuple #[.int .i64 r.1, .bool r.2]) ∧ Below w.heap.size w w' := by
  have := rsum_any base l R at' v vr va w hl hR hRR hal hv hr ha
  rwa [h] at this
theorem one_block (w : World) (o : Obj) (B : Nat) (hB : w.heap.size = B) : ∃ W0, w.alloc o = W0 ∧ W0.heap[B]? = some o ∧ Below w.heap.size w W0 ∧ W0.heap.size = B + 1 := by
  subst hB
  exact ⟨_, rfl, heap_alloc_new w o, balloc (Below.refl _ _) _, by simp⟩
theorem regs_tents {LL : List (List Int)} {n : Nat} (hn : n ≤ 3) : ∀ r ∈ regs LL n, r.length ≤ 1000000000000 := fun r hr => by
  obtain ⟨l, rfl⟩ := regs_mem hr
  rw [AX.mkReg_len]
  omega
end Go.Proofs.Ytbhkbjnmpaebdaa
end
/- Products of strengths: plain. No conditions. -/
section
namespace Go.Proofs.Ytbhkbjnmpaebdaa.AX
set_option linter.unusedVariables false
theorem times_F {an ad bn bd : Int} (ha : F.FP.rgt an ad) (hb : F.FP.rgt bn bd) (hc : ad * bd ≤ 262144) : ∃ p : Int × Int, F.FP.timesS an ad bn bd = (p, true) ∧ F.FP.rgt p.1 p.2 ∧ p.2 ≤ ad * bd ∧ p.1 * (ad * bd) = p.2 * (an * bn) ∧ (0 < p.1 ↔ 0 < an ∧ 0 < bn) := by
  obtain ⟨a1, a2, a3, a4, a5⟩ := ha
  obtain ⟨b1, b2, b3, b4, b5⟩ := hb
  have hn : 0 ≤ an * bn := Int.mul_nonneg a3 b3
  have hd : 1 ≤ ad * bd := by have := Int.mul_le_mul a1 b1 (by omega) (by omega); omega
  have hnd : an * bn ≤ ad * bd := Int.mul_le_mul a4 b4 b3 (by omega)
  obtain ⟨g1, g2, g3, g4, g5, g6, g7, g8, g9, g10⟩ := F.FP.gc_parts (an * bn) (ad * bd) hn hnd hd
  refine ⟨_, if_pos ⟨⟨⟨a1, a2, a3, a4, a5⟩, ⟨b1, b2, b3, b4, b5⟩⟩, by omega⟩, ⟨g5, by omega, g3, g4, g7⟩, g6, ?_, ?_⟩
  · show an * bn / _ * (ad * bd) = ad * bd / _ * (an * bn)
    generalize F.FP.gc (an * bn) (ad * bd) = g at *
    generalize an * bn / g = u at *
    generalize ad * bd / g = v at *
    rw [← g9, ← g10, ← Int.mul_assoc, ← Int.mul_assoc, Int.mul_comm u v]
  · show 0 < an * bn / _ ↔ _
    constructor
    · intro h
      have h1 : 0 < an * bn := by
        rw [← g9]
        exact Int.mul_pos h (by omega)
      constructor
      · rcases Int.lt_or_eq_of_le a3 with h2 | h2
        · exact h2
        · rw [← h2, Int.zero_mul] at h1
          omega
      · rcases Int.lt_or_eq_of_le b3 with h2 | h2
        · exact h2
        · rw [← h2, Int.mul_zero] at h1
          omega
    · rintro ⟨h1, h2⟩
      have h3 : 0 < an * bn := Int.mul_pos h1 h2
      rcases Int.lt_or_eq_of_le g3 with h4 | h4
      · exact h4
      · rw [← h4, Int.zero_mul] at g9
        omega
theorem fr_rgt {a b : Int} (h0 : 0 ≤ a) (h1 : a ≤ b) (h2 : 1 ≤ b) (h3 : b ≤ 64) : F.FP.rgt (fr a b).1 (fr a b).2 ∧ (fr a b).2 ≤ 64 := by
  obtain ⟨g1, g2, g3, g4, g5, g6, g7, g8, g9, g10⟩ := F.FP.gc_parts a b h0 h1 h2
  exact ⟨⟨g5, by show b / _ ≤ _; omega, g3, g4, g7⟩, by show b / _ ≤ _; omega⟩
theorem str_rgt {t : Tn} {n : Int} (ht : tent t = true) (hn : coord n = true) : F.FP.rgt (strength t n).1 (strength t n).2 ∧ (strength t n).2 ≤ 64 := by
  rw [tent_iff] at ht
  unfold strength
  have r1 : F.FP.rgt 1 1 := by constructor <;> first | decide | omega | (unfold F.FP.gc; decide)
  have r0 : F.FP.rgt 0 1 := by constructor <;> first | decide | omega | (unfold F.FP.gc; decide)
  by_cases h1 : t.2.1 = 0 ∨ n = t.2.1
  · rw [if_pos h1]
    exact ⟨r1, by decide⟩
  · rw [if_neg h1]
    by_cases h2 : n ≤ t.1 ∨ t.2.2 ≤ n
    · rw [if_pos h2]
      exact ⟨r0, by decide⟩
    · rw [if_neg h2]
      by_cases h3 : n < t.2.1
      · rw [if_pos h3]
        exact fr_rgt (by omega) (by omega) (by omega) (by omega)
      · rw [if_neg h3]
        exact fr_rgt (by omega) (by omega) (by omega) (by omega)
def np (xs : List (Tn × Int)) : Nat → Int
  | 0 => 1
  | k + 1 => np xs k * (strength (xs.getD k ((0, 0, 0), 0)).1 (xs.getD k ((0, 0, 0), 0)).2).1
def dp (xs : List (Tn × Int)) : Nat → Int
  | 0 => 1
  | k + 1 => dp xs k * (strength (xs.getD k ((0, 0, 0), 0)).1 (xs.getD k ((0, 0, 0), 0)).2).2
def pw : Nat → Int
  | 0 => 1
  | k + 1 => pw k * 64
theorem getD_of {α : Type} {l : List α} {k : Nat} {x d : α} (h : l[k]? = some x) : l.getD k d = x := by rw [List.getD_eq_getElem?_getD, h]; rfl
/-- The product of the first k strengths. -/
theorem prod_S {xs : List (Tn × Int)} (h : ∀ x ∈ xs, tent x.1 = true ∧ coord x.2 = true) (hl : xs.length ≤ 3) : ∀ k, k ≤ xs.length →
    F.FP.rgt (prod (xs.take k)).1 (prod (xs.take k)).2 ∧ (prod (xs.take k)).2 ≤ pw k ∧ (prod (xs.take k)).1 * dp xs k = (prod (xs.take k)).2 * np xs k ∧ 0 < dp xs k ∧ 0 ≤ np xs k ∧ ((0 < (prod (xs.take k)).1) ↔ ∀ (j : Nat) (x : Tn × Int), j < k → xs[j]? = some x → 0 < (strength x.1 x.2).1) ∧
    (∀ x, xs[k]? = some x → (F.FP.timesS (prod (xs.take k)).1 (prod (xs.take k)).2 (strength x.1 x.2).1 (strength x.1 x.2).2).2 = true)
  | 0, _ => by
    have r1 : F.FP.rgt 1 1 := by constructor <;> first | decide | omega | (unfold F.FP.gc; decide)
    refine ⟨r1, show (1 : Int) ≤ 1 by decide, show (1 : Int) * 1 = 1 * 1 by decide, show (0 : Int) < 1 by decide, show (0 : Int) ≤ 1 by decide, ⟨fun _ j x hj => by omega, fun _ => show (0 : Int) < 1 by decide⟩, fun x hx => ?_⟩
    obtain ⟨s1, s2⟩ := str_rgt (h x (List.mem_of_getElem? hx)).1 (h x (List.mem_of_getElem? hx)).2
    obtain ⟨p, e, -⟩ := times_F r1 s1 (by rw [Int.one_mul]; omega)
    show (F.FP.timesS 1 1 _ _).2 = true
    rw [e]
  | k + 1, hk => by
    obtain ⟨h1, h2, h3, h4, h5, h6, -⟩ := prod_S h hl k (by omega)
    obtain ⟨x, hx⟩ : ∃ x, xs[k]? = some x := ⟨xs[k]'(by omega), List.getElem?_eq_getElem _⟩
    obtain ⟨s1, s2⟩ := str_rgt (h x (List.mem_of_getElem? hx)).1 (h x (List.mem_of_getElem? hx)).2
    have hk3 : k = 0 ∨ k = 1 ∨ k = 2 := by omega
    have hpw : pw k ≤ 4096 ∧ 0 < pw k := by rcases hk3 with e | e | e <;> subst e <;> decide
    have hden : (prod (xs.take k)).2 * (strength x.1 x.2).2 ≤ pw k * 64 := Int.mul_le_mul h2 s2 (by have := s1.d1; omega) (by omega)
    obtain ⟨p, e, p1, p2, p3, p4⟩ := times_F h1 s1 (by omega)
    have hp : prod (xs.take (k + 1)) = p := by rw [prod_take hx, e]
    have ed : dp xs (k + 1) = dp xs k * (strength x.1 x.2).2 := by show dp xs k * _ = _; rw [getD_of hx]
    have en : np xs (k + 1) = np xs k * (strength x.1 x.2).1 := by show np xs k * _ = _; rw [getD_of hx]
    rw [hp, ed, en]
    refine ⟨p1, by show p.2 ≤ pw k * 64; omega, ?_, Int.mul_pos h4 (by have := s1.d1; omega), Int.mul_nonneg h5 s1.n0, ?_, fun y hy => ?_⟩
    · have q1 : 0 < (prod (xs.take k)).2 := by have := h1.d1; omega
      have q2 : p.1 * ((prod (xs.take k)).2 * (strength x.1 x.2).2) * dp xs k = p.2 * ((prod (xs.take k)).1 * (strength x.1 x.2).1) * dp xs k := by rw [p3]
      have q3 : p.1 * (dp xs k * (strength x.1 x.2).2) * (prod (xs.take k)).2 = p.2 * (np xs k * (strength x.1 x.2).1) * (prod (xs.take k)).2 := by
        have e1 : p.1 * ((prod (xs.take k)).2 * (strength x.1 x.2).2) * dp xs k = p.1 * (dp xs k * (strength x.1 x.2).2) * (prod (xs.take k)).2 := by
          simp only [Int.mul_assoc, Int.mul_comm, Int.mul_left_comm]
        have e2 : p.2 * ((prod (xs.take k)).1 * (strength x.1 x.2).1) * dp xs k = p.2 * (((prod (xs.take k)).1 * dp xs k) * (strength x.1 x.2).1) := by
          simp only [Int.mul_assoc, Int.mul_comm, Int.mul_left_comm]
        have e3 : p.2 * (((prod (xs.take k)).2 * np xs k) * (strength x.1 x.2).1) = p.2 * (np xs k * (strength x.1 x.2).1) * (prod (xs.take k)).2 := by
          simp only [Int.mul_assoc, Int.mul_comm, Int.mul_left_comm]
        rw [← e1, q2, e2, h3, e3]
      exact Int.eq_of_mul_eq_mul_right (by omega) q3
    · rw [p4, h6]
      constructor
      · rintro ⟨a, b⟩ j y hj hy
        by_cases hjk : j < k
        · exact a j y hjk hy
        · obtain rfl : j = k := by omega
          rw [hx] at hy
          obtain rfl := Option.some.inj hy
          exact b
      · intro a
        exact ⟨fun j y hj hy => a j y (by omega) hy, a k x (by omega) hx⟩
    · obtain ⟨t1, t2⟩ := str_rgt (h y (List.mem_of_getElem? hy)).1 (h y (List.mem_of_getElem? hy)).2
      have hk1 := (List.getElem?_eq_some_iff.1 hy).1
      have hpw2 : pw k ≤ 64 := by
        have : k = 0 ∨ k = 1 := by omega
        rcases this with e | e <;> subst e <;> decide
      have hp2 : p.2 ≤ 4096 := by omega
      have hd2 : p.2 * (strength y.1 y.2).2 ≤ 4096 * 64 := Int.mul_le_mul hp2 t2 (by have := t1.d1; omega) (by omega)
      obtain ⟨p', e', -⟩ := times_F p1 t1 (by omega)
      rw [e']
/-- A region's scalar is more than nothing where the strengths of all its tents are. -/
theorem scalar_pos {l : List Tn} {at' : List Int} (hr : right l (at'.length : Int) = true) (hc : coords at' = true) : 0 < (scalar l at').1 ↔ ∀ (j : Nat) (t : Tn) (x : Int), l[j]? = some t → at'[j]? = some x → 0 < (strength t x).1 := by
  have hrr := (right_iff _ _).1 hr
  have hcc := (coords_iff _).1 hc
  have hlen : (l.zip at').length = at'.length := by rw [List.length_zip]; omega
  have hz : ∀ x ∈ l.zip at', tent x.1 = true ∧ coord x.2 = true := fun x hx => ⟨hrr.2 _ (List.of_mem_zip hx).1, hcc.1 _ (List.of_mem_zip hx).2⟩
  have hS := (prod_S hz (by omega) (l.zip at').length (Nat.le_refl _)).2.2.2.2.2.1
  rw [List.take_length] at hS
  unfold scalar
  rw [if_pos ⟨hr, hc⟩, hS]
  constructor
  · intro h j t x h1 h2
    have hj := (List.getElem?_eq_some_iff.1 h2).1
    exact h j (t, x) (by omega) (by rw [List.getElem?_zip_eq_some]; exact ⟨h1, h2⟩)
  · intro h j x hj hx
    obtain ⟨h1, h2⟩ := List.getElem?_zip_eq_some.1 hx
    exact h j x.1 x.2 h1 h2
theorem scalar_one {t : Tn} {x : Int} (ht : tent t = true) (hx : coord x = true) : scalar [t] [x] = strength t x := by
  have hr : right [t] (([x] : List Int).length : Int) = true := by
    rw [right_iff]
    exact ⟨⟨by simp, by simp, by simp⟩, fun u hu => by rw [List.mem_singleton.1 hu]; exact ht⟩
  have hc : coords [x] = true := by
    rw [coords_iff]
    exact ⟨fun u hu => by rw [List.mem_singleton.1 hu]; exact hx, by simp⟩
  unfold scalar
  rw [if_pos ⟨hr, hc⟩]
  show (F.FP.timesS 1 1 (strength t x).1 (strength t x).2).1 = strength t x
  obtain ⟨s1, s2⟩ := str_rgt ht hx
  have r1 : F.FP.rgt 1 1 := by constructor <;> first | decide | omega | (unfold F.FP.gc; decide)
  unfold F.FP.timesS
  rw [Int.one_mul, Int.one_mul, s1.g, Int.ediv_one, Int.ediv_one, if_pos ⟨⟨r1, s1⟩, by omega⟩]
end Go.Proofs.Ytbhkbjnmpaebdaa.AX
end
/- The regions of a case, with the capacities of their tents. No conditions. -/
section
namespace Go.Proofs.Ytbhkbjnmpaebdaa
set_option maxRecDepth 100000
set_option linter.unusedVariables false
open Go.RowKit Go.Deep
theorem own_cap {w : World} {B e size n : Nat} {a : Option Addr} {c : Nat} {xs : List Value} (h : w.ownsRow B e size (.slice a n c) n xs) : n ≤ c := by
  rcases h.2 with ⟨e, h0⟩ | ⟨g, cap, cur, e, hb, hg, h1, -⟩
  · omega
  · injection e with e1 e2 e3
    omega
/-- A row of regions of our own: their tents lie in other blocks. -/
def RgK (W : World) (B : Nat) (v : Value) (vs : List Value) (R : List (List AX.Tn)) : Prop := W.ownsRow B 42 1 v R.length vs ∧ ∀ (i : Nat) (r : List AX.Tn), R[i]? = some r → ∃ (ra : Option Addr) (rc : Nat), vs[i]? = some (.slice ra r.length rc) ∧ r.length ≤ rc ∧ (r = [] ∨ ∃ g o, ra = some ⟨g, o, none⟩ ∧ g < W.heap.size ∧ v.ownBlock ≠ some g ∧ ∀ (j : Nat) (z : AX.Tn), r[j]? = some z → W.cell? ⟨g, o + j * 3, none⟩ = some (.int .i64 z.1) ∧ W.cell? ⟨g, o + j * 3 + 1, none⟩ = some (.int .i64 z.2.1) ∧ W.cell? ⟨g, o + j * 3 + 2, none⟩ = some (.int .i64 z.2.2))
theorem RgK.nil (W : World) (B : Nat) : RgK W B (.slice none 0 0) [] [] := ⟨⟨rfl, .inl ⟨rfl, rfl⟩⟩, fun i r h => by simp at h⟩
theorem RgK.keep {W W' : World} {B : Nat} {v : Value} {vs : List Value} {R : List (List AX.Tn)} (h : RgK W B v vs R) (hb : Below W.heap.size W W') : RgK W' B v vs R := by
  refine ⟨own_below h.1 hb, fun i r hr => ?_⟩
  obtain ⟨ra, rc, e, hcap, h2⟩ := h.2 i r hr
  refine ⟨ra, rc, e, hcap, ?_⟩
  rcases h2 with h2 | ⟨g, o, e2, hg, hne, hc⟩
  · exact .inl h2
  · exact .inr ⟨g, o, e2, Nat.lt_of_lt_of_le hg hb.size, hne, fun j z hz => ⟨(hb.cell (p := ⟨g, o + j * 3, none⟩) hg).trans (hc j z hz).1, (hb.cell (p := ⟨g, o + j * 3 + 1, none⟩) hg).trans (hc j z hz).2.1, (hb.cell (p := ⟨g, o + j * 3 + 2, none⟩) hg).trans (hc j z hz).2.2⟩⟩
theorem RgK.base {W : World} {B B' : Nat} {v : Value} {vs : List Value} {R : List (List AX.Tn)} (h : RgK W B v vs R) (hB : B' ≤ B) : RgK W B' v vs R := ⟨own_base h.1 hB, h.2⟩
theorem RgK.at {W : World} {B : Nat} {v : Value} {vs : List Value} {R : List (List AX.Tn)} (h : RgK W B v vs R) : RgAt W v R := by
  obtain ⟨a, c, rfl⟩ := own_shape h.1
  refine ⟨a, c, rfl, ?_⟩
  cases hR : R with
  | nil => exact .inl rfl
  | cons r0 R0 =>
    right
    obtain ⟨g, cap, e, hb, hg, hcl⟩ := own_at h.1 (by rw [hR]; simp)
    injection e with e1
    subst e1
    rw [← hR]
    refine ⟨g, 0, rfl, hg, fun i r hr => ?_⟩
    obtain ⟨ra, rc, e2, -, h2⟩ := h.2 i r hr
    refine ⟨ra, rc, by rw [Nat.zero_add]; exact hcl i _ e2, ra, rc, rfl, ?_⟩
    rcases h2 with h2 | ⟨g', o', e3, hg', -, hc⟩
    · exact .inl h2
    · exact .inr ⟨g', o', e3, hg', hc⟩
theorem RgK.push {W W1 W2 : World} {B : Nat} {v v' : Value} {vs : List Value} {R : List (List AX.Tn)} {r : List AX.Tn} {n : Nat} {ua : Option Addr} {uc : Nat} (h : RgK W B v vs R) (hn : r.length = n) (hb : Below W.heap.size W W1) (hu : W1.ownsRow W.heap.size 71 3 (.slice ua n uc) n (AX.tnc r)) (o : Obj)
    (hg : (W1.alloc o).grownBy W2 v.ownBlock) (hown : W2.ownsRow B 42 1 v' (R.length + 1) (vs ++ [.slice ua n uc])) (hat : v'.ownBlock = v.ownBlock ∨ v'.ownBlock = some (W1.alloc o).heap.size) : RgK W2 B v' (vs ++ [.slice ua n uc]) (R ++ [r]) := by
  subst hn
  have hvl : vs.length = R.length := by have := h.1.1; omega
  refine ⟨by rw [List.length_append]; exact hown, fun i r' hr => ?_⟩
  have hkeep : ∀ q, q < W1.heap.size → v.ownBlock ≠ some q → W2.heap[q]? = W1.heap[q]? := fun q hq hne => (hg.block q (by simp; omega) hne.symm).trans (Below.block (balloc (Below.refl _ W1) o) _ hq)
  have hcell : ∀ q (p : Nat), q < W1.heap.size → v.ownBlock ≠ some q → W2.cell? ⟨q, p, none⟩ = W1.cell? ⟨q, p, none⟩ := fun q p hq hne => World.cell?_of_block (a := ⟨q, p, none⟩) (hkeep q hq hne)
  have hs2 : W1.heap.size ≤ W2.heap.size := by have := hg.size; simp at this; omega
  have hnew : ∀ q, q < W1.heap.size → v.ownBlock ≠ some q → v'.ownBlock ≠ some q := fun q hq hne e => by
    rcases hat with h1 | h1
    · exact hne (h1.symm.trans e)
    · have := Option.some.inj (h1.symm.trans e)
      simp at this
      omega
  by_cases hi : i < R.length
  · rw [List.getElem?_append_left hi] at hr
    obtain ⟨ra, rc, e, hcap, h2⟩ := h.2 i r' hr
    refine ⟨ra, rc, by rw [List.getElem?_append_left (by omega)]; exact e, hcap, ?_⟩
    rcases h2 with h2 | ⟨g, o', e2, hg', hne, hc⟩
    · exact .inl h2
    · have hg1 : g < W1.heap.size := Nat.lt_of_lt_of_le hg' hb.size
      refine .inr ⟨g, o', e2, by omega, hnew g hg1 hne, fun j z hz => ?_⟩
      rw [hcell g _ hg1 hne, hcell g _ hg1 hne, hcell g _ hg1 hne, hb.cell (p := ⟨g, o' + j * 3, none⟩) hg', hb.cell (p := ⟨g, o' + j * 3 + 1, none⟩) hg', hb.cell (p := ⟨g, o' + j * 3 + 2, none⟩) hg']
      exact hc j z hz
  · rw [List.getElem?_append_right (by omega)] at hr
    obtain ⟨hi0, rfl⟩ : i - R.length = 0 ∧ r = r' := by
      cases hd : i - R.length with
      | zero => rw [hd] at hr; exact ⟨rfl, by simpa using hr⟩
      | succ j => rw [hd] at hr; simp at hr
    refine ⟨ua, uc, by rw [List.getElem?_append_right (by omega), hvl, hi0]; rfl, own_cap hu, ?_⟩
    obtain ⟨a, c, e, h3⟩ := (own_srcN hu).tn
    injection e with e1 e2 e3
    subst e1
    rcases h3 with h3 | ⟨g, o', e2, hg', hc⟩
    · exact .inl h3
    · have hne : v.ownBlock ≠ some g := fun e => by
        have h1 := (h.1.lt g e).2
        have h2 := (hu.lt g (by rw [e2]; rfl)).1
        omega
      refine .inr ⟨g, o', e2, by omega, hnew g hg' hne, fun j z hz => ?_⟩
      rw [hcell g _ hg' hne, hcell g _ hg' hne, hcell g _ hg' hne]
      exact hc j z hz
/-- A row of regions whose tents may be cut. -/
def RgC (W : World) (v : Value) (R : List (List AX.Tn)) : Prop := ∃ a c, v = .slice a R.length c ∧ (R = [] ∨ ∃ g o, a = some ⟨g, o, none⟩ ∧ g < W.heap.size ∧ ∀ (i : Nat) (r : List AX.Tn), R[i]? = some r → ∃ ra rc, W.cell? ⟨g, o + i, none⟩ = some (.slice ra r.length rc) ∧ TnAt W (.slice ra r.length rc) r ∧ r.length ≤ rc)
theorem RgC.keep {W W' : World} {v : Value} {R : List (List AX.Tn)} (h : RgC W v R) (hb : Below W.heap.size W W') : RgC W' v R := by
  obtain ⟨a, c, e, h⟩ := h
  refine ⟨a, c, e, ?_⟩
  rcases h with h | ⟨g, o, e2, hg, hc⟩
  · exact .inl h
  · refine .inr ⟨g, o, e2, Nat.lt_of_lt_of_le hg hb.size, fun i r hr => ?_⟩
    obtain ⟨ra, rc, c1, c2, c3⟩ := hc i r hr
    exact ⟨ra, rc, (hb.cell (p := ⟨g, o + i, none⟩) hg).trans c1, c2.keep hb, c3⟩
theorem RgK.cap {W : World} {B : Nat} {v : Value} {vs : List Value} {R : List (List AX.Tn)} (h : RgK W B v vs R) : RgC W v R := by
  obtain ⟨a, c, rfl⟩ := own_shape h.1
  refine ⟨a, c, rfl, ?_⟩
  cases hR : R with
  | nil => exact .inl rfl
  | cons r0 R0 =>
    right
    obtain ⟨g, cap, e, hb, hg, hcl⟩ := own_at h.1 (by rw [hR]; simp)
    injection e with e1
    subst e1
    rw [← hR]
    refine ⟨g, 0, rfl, hg, fun i r hr => ?_⟩
    obtain ⟨ra, rc, e2, hcap, h2⟩ := h.2 i r hr
    refine ⟨ra, rc, by rw [Nat.zero_add]; exact hcl i _ e2, ⟨ra, rc, rfl, ?_⟩, hcap⟩
    rcases h2 with h2 | ⟨g', o', e3, hg', -, hc⟩
    · exact .inl h2
    · exact .inr ⟨g', o', e3, hg', hc⟩
theorem tn_one {W : World} {a : Option Addr} {n c : Nat} {l : List AX.Tn} (h : TnAt W (.slice a n c) l) {k : Nat} {t : AX.Tn} (ht : l[k]? = some t) : ∃ g o, a = some ⟨g, o, none⟩ ∧ g < W.heap.size ∧ ∀ m, TnAt W (.slice (some ⟨g, o + k * 3, none⟩) 1 m) [t] := by
  obtain ⟨a', c', e, h⟩ := h
  injection e with e1 e2 e3
  subst e1
  rcases h with h | ⟨g, o, e4, hg, hc⟩
  · rw [h] at ht
    simp at ht
  · refine ⟨g, o, e4, hg, fun m => ⟨_, m, rfl, .inr ⟨g, o + k * 3, rfl, hg, fun i z hz => ?_⟩⟩⟩
    cases i with
    | zero =>
      obtain rfl : t = z := by simpa using hz
      have := hc k t ht
      simpa using this
    | succ i => simp at hz
set_option maxHeartbeats 8000000 in
theorem regions_cap (LL : List (List Int)) (ar : Option Addr) (nr cr : Nat) (aa : Option Addr) (na ca : Nat) (ag : Option Addr) (ng cg : Nat) (aw : Option Addr) (nw cw : Nat) (x : Int) (n : Nat) (w : World) (hv : LnAt w (.slice ar nr cr) LL) (hlen : LL.length ≤ maxLen) (hx : x % 4 = (n : Int)) (hx0 : 0 ≤ x) (hx1 : x ≤ 255) :
    Calls Try.prog 27 #[CaV ar nr cr aa na ca ag ng cg aw nw cw x] w fun e w' => ∃ v' vs, e = .returned v' ∧ RgK w' w.heap.size v' vs (regs LL n) ∧ Below w.heap.size w w' := by
  obtain ⟨i0, hi0, hz0, hz1, hz2⟩ := info_parts info_rg
  have hn3 : n ≤ 3 := by omega
  have HLL : Hid (∀ V, Below w.heap.size w V → LnAt V (.slice ar nr cr) LL) := Lib.hid fun V hV => hv.keep hV
  obtain ⟨a, cap, e, hc⟩ := hv
  injection e with e1 e2 e3
  subst e1 e2 e3
  clear hc
  obtain ⟨nr, hnr⟩ : ∃ nr, LL.length = nr := ⟨_, rfl⟩
  have HN := Lib.hid hnr
  rw [hnr] at hlen HLL ⊢
  unfold maxLen at hlen
  have HX := Lib.hid hx
  show Calls _ _ #[.agg #[.slice ar nr cr, .slice aa na ca, .slice ag ng cg, .slice aw nw cw, .int .u8 x]] _ _
  obtain ⟨B, hB⟩ : ∃ B, w.heap.size = B := ⟨_, rfl⟩
  obtain ⟨W0, hW0⟩ : ∃ W0, w.alloc (.cells #[.slice ar nr cr, .slice aa na ca, .slice ag ng cg, .slice aw nw cw, .int .u8 x] 56) = W0 := ⟨_, rfl⟩
  have hbx : W0.heap[B]? = some (.cells #[.slice ar nr cr, .slice aa na ca, .slice ag ng cg, .slice aw nw cw, .int .u8 x] 56 (0, 0)) := by rw [← hW0, ← hB]; exact heap_alloc_new w _
  have hb0 : Below w.heap.size w W0 := by rw [← hW0]; exact balloc (Below.refl _ _) _
  have HBX : Hid (∀ V, Below W0.heap.size W0 V → V.heap[B]? = some (.cells #[.slice ar nr cr, .slice aa na ca, .slice ag ng cg, .slice aw nw cw, .int .u8 x] 56 (0, 0))) := Lib.hid fun V hV => (hV.block B (Array.getElem?_eq_some_iff.1 hbx).1).trans hbx
  have HLT : Hid (B < W0.heap.size ∧ W0.heap.size = B + 1) := Lib.hid ⟨(Array.getElem?_eq_some_iff.1 hbx).1, by rw [← hW0, ← hB]; simp⟩
  have HB := Lib.hid hB
  have HB0 := Lib.hid hb0
  clear hnr hx hbx hb0
  go_enter Try.func27, Try.ntmps27
  go_wp2_with fail
  try rw [hW0]
  try rw [hB]
  clear hW0 hB
  go_loopw [3, 4] (fun v3 v4 wr => ∃ (k : Nat) (vs : List Value), v4 = .int .i64 (k : Int) ∧ k ≤ nr ∧ k ≤ 4 ∧ RgK wr (B + 1) v3 vs ((LL.take k).map fun l => AX.mkReg l n) ∧ Below W0.heap.size W0 wr) (fun _ v _ => nr - (intOf v).toNat)
  case atStart => exact ⟨0, [], rfl, Nat.zero_le _, by omega, RgK.nil _ _, Below.refl _ _⟩
  case round =>
    obtain ⟨k, vs, rfl, hk, hk4, hrg, hb⟩ := hrel
    have hRl : ((LL.take k).map fun l => AX.mkReg l n).length = k := by rw [List.length_map, List.length_take, HN.out]; omega
    have hown := hrg.1
    rw [hRl] at hown
    obtain ⟨oa, oc, rfl⟩ := own_shape hown
    obtain ⟨wo, hwo⟩ : ∃ wo, wo = wr := ⟨_, rfl⟩
    subst hwo
    have HB2 := Lib.hid hb
    have HBL : Hid (B + 1 ≤ wo.heap.size) := Lib.hid (by have := hb.size; have := HLT.out.1; omega)
    have hbx := HBX.out wo hb
    have c0 := cell_of hbx (i := 0) rfl
    by_cases hin : k < nr
    · have hii : (k : Int) < (nr : Int) := by omega
      have hi0' : (0 : Int) ≤ (k : Int) := by omega
      by_cases hin4 : k < 4
      · have hii4 : (k : Int) < 4 := by omega
        obtain ⟨L, hLk⟩ : ∃ L, LL[k]? = some L := ⟨LL[k]'(by rw [HN.out]; exact hin), List.getElem?_eq_getElem _⟩
        have HT : Hid ((LL.take (k + 1)).map (fun l => AX.mkReg l n) = (LL.take k).map (fun l => AX.mkReg l n) ++ [AX.mkReg L n]) := Lib.hid (by rw [List.take_add_one, hLk]; simp)
        obtain ⟨aw', cw', e1, hcw⟩ := HLL.out w (Below.refl _ _)
        rw [HN.out] at e1
        injection e1 with e1 e2 e3
        subst e1 e3
        rcases hcw with h | ⟨g, o, rfl, hg, hcl⟩
        · rw [h] at hLk
          simp at hLk
        obtain ⟨la, lc, cl, hLm, hrow⟩ := hcl k L hLk
        replace cl := ((bnext HB0.out hb).cell (p := ⟨g, o + k, none⟩) hg).trans cl
        replace hrow := hrow.keep (bnext HB0.out hb)
        obtain ⟨ln, hln⟩ : ∃ ln, L.length = ln := ⟨_, rfl⟩
        rw [hln] at cl hrow
        have HL : Hid (∀ V, Below wo.heap.size wo V → InAt V (.slice la ln lc) L) := Lib.hid fun V hV => hrow.keep hV
        have c1 := cell_of hbx (i := 1) rfl
        have c2 := cell_of hbx (i := 2) rfl
        have c3 := cell_of hbx (i := 3) rfl
        have c4 := cell_of hbx (i := 4) rfl
        have hBlt : B < wo.heap.size := (Array.getElem?_eq_some_iff.1 hbx).1
        have HS : Hid (∀ V, Below wo.heap.size wo V → V.cell? ⟨B, 0, none⟩ = some (.slice (some ⟨g, o, none⟩) nr cr) ∧ V.cell? ⟨B, 1, none⟩ = some (.slice aa na ca) ∧ V.cell? ⟨B, 2, none⟩ = some (.slice ag ng cg) ∧ V.cell? ⟨B, 3, none⟩ = some (.slice aw nw cw) ∧ V.cell? ⟨B, 4, none⟩ = some (.int .u8 x) ∧ V.cell? ⟨g, o + k, none⟩ = some (.slice la ln lc)) := Lib.hid fun V hV =>
          ⟨(hV.cell (p := ⟨B, 0, none⟩) hBlt).trans c0, (hV.cell (p := ⟨B, 1, none⟩) hBlt).trans c1, (hV.cell (p := ⟨B, 2, none⟩) hBlt).trans c2, (hV.cell (p := ⟨B, 3, none⟩) hBlt).trans c3, (hV.cell (p := ⟨B, 4, none⟩) hBlt).trans c4, (hV.cell (p := ⟨g, o + k, none⟩) (Nat.lt_of_lt_of_le hg (bnext HB0.out hb).size)).trans cl⟩
        have HSQ : Hid (∀ V : World, (∀ q, q ≤ B → V.heap[q]? = wo.heap[q]?) → V.cell? ⟨B, 0, none⟩ = some (.slice (some ⟨g, o, none⟩) nr cr) ∧ V.cell? ⟨B, 1, none⟩ = some (.slice aa na ca) ∧ V.cell? ⟨B, 2, none⟩ = some (.slice ag ng cg) ∧ V.cell? ⟨B, 3, none⟩ = some (.slice aw nw cw) ∧ V.cell? ⟨B, 4, none⟩ = some (.int .u8 x) ∧ V.cell? ⟨g, o + k, none⟩ = some (.slice la ln lc)) := Lib.hid fun V hV =>
          ⟨(World.cell?_of_block (a := ⟨B, 0, none⟩) (hV B (Nat.le_refl _))).trans c0, (World.cell?_of_block (a := ⟨B, 1, none⟩) (hV B (Nat.le_refl _))).trans c1, (World.cell?_of_block (a := ⟨B, 2, none⟩) (hV B (Nat.le_refl _))).trans c2, (World.cell?_of_block (a := ⟨B, 3, none⟩) (hV B (Nat.le_refl _))).trans c3, (World.cell?_of_block (a := ⟨B, 4, none⟩) (hV B (Nat.le_refl _))).trans c4, (World.cell?_of_block (a := ⟨g, o + k, none⟩) (hV g (by have := HB.out; show g ≤ B; omega))).trans cl⟩
        have HRG : Hid (wo.ownsRow (B + 1) 42 1 (.slice oa k oc) k vs ∧ RgK wo (B + 1) (.slice oa k oc) vs ((LL.take k).map fun l => AX.mkReg l n)) := Lib.hid ⟨hown, hrg⟩
        have HRL := Lib.hid hRl
        have hi0'' := hi0
        have HLN := Lib.hid hln
        generalize ((LL.take k).map fun l => AX.mkReg l n) = RR at HRG HT HRL
        clear hcl hLk hrow hb hbx hrg hown hRl hln
        go_upto_region 5 with fail
        refine wp_region_last #[{ dst := some 16, op := Op.move (Operand.tmp 3), type := 47, pos := "law.go:157", after := #[], guard := none }, { dst := some 17, op := Op.fieldAddr 56 (Operand.tmp 1) 0, type := 0, pos := "law.go:157", after := #[], guard := none }, { dst := some 18, op := Op.load 54 (Operand.tmp 17), type := 54, pos := "law.go:157", after := #[{ on := 1, ground := Ground.data }], guard := none }, { dst := some 19, op := Op.move (Operand.tmp 4), type := 3, pos := "law.go:157", after := #[], guard := none }, { dst := some 20, op := Op.indexAddr 54 (Operand.tmp 18) (Operand.tmp 19), type := 0, pos := "law.go:157", after := #[{ on := 2, ground := Ground.data }, { on := 3, ground := Ground.data }], guard := none }, { dst := some 21, op := Op.load 25 (Operand.tmp 20), type := 25, pos := "law.go:157", after := #[{ on := 4, ground := Ground.data }], guard := none }, { dst := some 22, op := Op.load 56 (Operand.tmp 1), type := 56, pos := "law.go:157", after := #[], guard := none }, { dst := some 23, op := Op.call { callee := Callee.value (Operand.func 28), args := #[Operand.tmp 22], argTypes := #[56] }, type := 3, pos := "law.go:157", after := #[{ on := 6, ground := Ground.data }], guard := none }, { dst := some 24, op := Op.call { callee := Callee.value (Operand.func 21), args := #[Operand.tmp 21, Operand.tmp 23], argTypes := #[25, 3] }, type := 42, pos := "law.go:157", after := #[{ on := 5, ground := Ground.data }, { on := 7, ground := Ground.data }, { on := 7, ground := Ground.chain }], guard := none }, { dst := some 25, op := Op.buildSlice 47 1 #[(0, Operand.tmp 24)], type := 47, pos := "law.go:157", after := #[{ on := 8, ground := Ground.data }], guard := none }, { dst := some 26, op := Op.call { callee := Callee.builtin Builtin.append, args := #[Operand.tmp 16, Operand.tmp 25], argTypes := #[47, 47] }, type := 47, pos := "law.go:157", after := #[{ on := 0, ground := Ground.data }, { on := 9, ground := Ground.data }, { on := 8, ground := Ground.chain }], guard := none }] { dst := some 3, op := Op.assign (Operand.tmp 26), type := 47, pos := "law.go:157", after := #[{ on := 10, ground := Ground.data }, { on := 10, ground := Ground.chain }, { on := 0, ground := Ground.phase }, { on := 1, ground := Ground.phase }, { on := 2, ground := Ground.phase }, { on := 3, ground := Ground.phase }, { on := 4, ground := Ground.phase }, { on := 5, ground := Ground.phase }, { on := 6, ground := Ground.phase }, { on := 7, ground := Ground.phase }, { on := 8, ground := Ground.phase }, { on := 9, ground := Ground.phase }, { on := 10, ground := Ground.phase }], guard := none } rfl (by kernel_rfl) (by kernel_rfl) (fun w' => w'.cell? ⟨B, 0, none⟩ = some (.slice (some ⟨g, o, none⟩) nr cr) ∧ w'.cell? ⟨B, 1, none⟩ = some (.slice aa na ca) ∧ w'.cell? ⟨B, 2, none⟩ = some (.slice ag ng cg) ∧ w'.cell? ⟨B, 3, none⟩ = some (.slice aw nw cw) ∧ w'.cell? ⟨B, 4, none⟩ = some (.int .u8 x) ∧ w'.cell? ⟨g, o + k, none⟩ = some (.slice la ln lc)) ?_ (fun hHeld => ?_)
        · first | exact hS9 | exact HS.out _ (balloc a8 _) | exact HS.out _ a8 | exact HS.out _ a7 | exact HS.out _ (Below.drew (Below.refl _ wo))
        refine wpAnyH_take (i := 0) (oi := { dst := some 16, op := Op.move (Operand.tmp 3), type := 47, pos := "law.go:157", after := #[], guard := none }) (v := ?_) rfl (by kernel_rfl) (by kernel_rfl) (by kernel_rfl) (fun _ _ _ h => h) (Or.inl ⟨by rfl, ?_⟩) (by assumption) ?_
        rotate_left
        · ((intro w hSw; (try dsimp only at hSw); go_simp; (try rw [if_neg (by omega)])); try with_reducible rfl)
        (try simp only [Act.put, List.setIfInBounds_toArray, List.set_cons_zero, List.set_cons_succ])
        refine wpAnyH_take (i := 1) (oi := { dst := some 17, op := Op.fieldAddr 56 (Operand.tmp 1) 0, type := 0, pos := "law.go:157", after := #[], guard := none }) (v := ?_) rfl (by kernel_rfl) (by kernel_rfl) (by kernel_rfl) (fun _ _ _ h => h) (Or.inl ⟨by rfl, ?_⟩) (by assumption) ?_
        rotate_left
        · ((intro w hSw; (try dsimp only at hSw); go_simp; (try rw [if_neg (by omega)])); try with_reducible rfl)
        (try simp only [Act.put, List.setIfInBounds_toArray, List.set_cons_zero, List.set_cons_succ])
        refine wpAnyH_take (i := 2) (oi := { dst := some 18, op := Op.load 54 (Operand.tmp 17), type := 54, pos := "law.go:157", after := #[{ on := 1, ground := Ground.data }], guard := none }) (v := ?_) rfl (by kernel_rfl) (by kernel_rfl) (by kernel_rfl) (fun _ _ _ h => h) (Or.inl ⟨by rfl, ?_⟩) (by assumption) ?_
        rotate_left
        · ((intro w hSw; obtain ⟨s0, s1, s2, s3, s4, s5⟩ := hSw; go_simp); try with_reducible rfl)
        (try simp only [Act.put, List.setIfInBounds_toArray, List.set_cons_zero, List.set_cons_succ])
        refine wpAnyH_take (i := 3) (oi := { dst := some 19, op := Op.move (Operand.tmp 4), type := 3, pos := "law.go:157", after := #[], guard := none }) (v := ?_) rfl (by kernel_rfl) (by kernel_rfl) (by kernel_rfl) (fun _ _ _ h => h) (Or.inl ⟨by rfl, ?_⟩) (by assumption) ?_
        rotate_left
        · ((intro w hSw; (try dsimp only at hSw); go_simp; (try rw [if_neg (by omega)])); try with_reducible rfl)
        (try simp only [Act.put, List.setIfInBounds_toArray, List.set_cons_zero, List.set_cons_succ])
        refine wpAnyH_take (i := 4) (oi := { dst := some 20, op := Op.indexAddr 54 (Operand.tmp 18) (Operand.tmp 19), type := 0, pos := "law.go:157", after := #[{ on := 2, ground := Ground.data }, { on := 3, ground := Ground.data }], guard := none }) (v := ?_) rfl (by kernel_rfl) (by kernel_rfl) (by kernel_rfl) (fun _ _ _ h => h) (Or.inl ⟨by rfl, ?_⟩) (by assumption) ?_
        rotate_left
        · ((intro w hSw; (try dsimp only at hSw); go_simp; (try rw [if_neg (by omega)])); try with_reducible rfl)
        (try simp only [Act.put, List.setIfInBounds_toArray, List.set_cons_zero, List.set_cons_succ])
        refine wpAnyH_take (i := 5) (oi := { dst := some 21, op := Op.load 25 (Operand.tmp 20), type := 25, pos := "law.go:157", after := #[{ on := 4, ground := Ground.data }], guard := none }) (v := ?_) rfl (by kernel_rfl) (by kernel_rfl) (by kernel_rfl) (fun _ _ _ h => h) (Or.inl ⟨by rfl, ?_⟩) (by assumption) ?_
        rotate_left
        · ((intro w hSw; obtain ⟨s0, s1, s2, s3, s4, s5⟩ := hSw; go_simp); try with_reducible rfl)
        (try simp only [Act.put, List.setIfInBounds_toArray, List.set_cons_zero, List.set_cons_succ])
        refine wpAnyH_take (i := 6) (oi := { dst := some 22, op := Op.load 56 (Operand.tmp 1), type := 56, pos := "law.go:157", after := #[], guard := none }) (v := ?_) rfl (by kernel_rfl) (by kernel_rfl) (by kernel_rfl) (fun _ _ _ h => h) (Or.inl ⟨by rfl, ?_⟩) (by assumption) ?_
        rotate_left
        · ((intro w hSw; obtain ⟨s0, s1, s2, s3, s4, s5⟩ := hSw; go_simp); try with_reducible rfl)
        (try simp only [Act.put, List.setIfInBounds_toArray, List.set_cons_zero, List.set_cons_succ])
        refine wpAnyH_ready (rs := [7]) (by kernel_rfl) (by simp) ?_
        refine AllReadyH.cons (o := { dst := some 23, op := Op.call { callee := Callee.value (Operand.func 28), args := #[Operand.tmp 22], argTypes := #[56] }, type := 3, pos := "law.go:157", after := #[{ on := 6, ground := Ground.data }], guard := none }) rfl (fun K hK => ?_) AllReadyH.nil
        (go_simp; go_at_call 28; refine (axesOf_c HX.out (some ⟨g, o, none⟩) nr cr aa na ca ag ng cg aw nw cw hx0 hx1 _).mono ?_; rintro e w7 ⟨rfl, hb7⟩; have a7 := bnext (Below.drew (Below.refl _ wo)) hb7; dsimp only)
        refine hK.out _ _ ?_ (fun hHeld => ?_)
        · first | exact hS9 | exact HS.out _ (balloc a8 _) | exact HS.out _ a8 | exact HS.out _ a7 | exact HS.out _ (Below.drew (Below.refl _ wo))
        clear hK K
        (try simp only [Act.put, List.setIfInBounds_toArray, List.set_cons_zero, List.set_cons_succ])
        refine wpAnyH_ready (rs := [8]) (by kernel_rfl) (by simp) ?_
        refine AllReadyH.cons (o := { dst := some 24, op := Op.call { callee := Callee.value (Operand.func 21), args := #[Operand.tmp 21, Operand.tmp 23], argTypes := #[25, 3] }, type := 42, pos := "law.go:157", after := #[{ on := 5, ground := Ground.data }, { on := 7, ground := Ground.data }, { on := 7, ground := Ground.chain }], guard := none }) rfl (fun K hK => ?_) AllReadyH.nil
        (go_simp; go_at_call 21; refine (maderegion_any L n _ _ (HL.out _ a7) hLm hn3).mono ?_; rintro e w8 ⟨u, rfl, ho8, hb8⟩; have a8 := bnext a7 hb8; obtain ⟨ua, uc, rfl⟩ := own_shape ho8; dsimp only)
        refine hK.out _ _ ?_ (fun hHeld => ?_)
        · first | exact hS9 | exact HS.out _ (balloc a8 _) | exact HS.out _ a8 | exact HS.out _ a7 | exact HS.out _ (Below.drew (Below.refl _ wo))
        clear hK K
        (try simp only [Act.put, List.setIfInBounds_toArray, List.set_cons_zero, List.set_cons_succ])
        refine wpAnyH_ready (rs := [9]) (by kernel_rfl) (by simp) ?_
        refine AllReadyH.cons (o := { dst := some 25, op := Op.buildSlice 47 1 #[(0, Operand.tmp 24)], type := 47, pos := "law.go:157", after := #[{ on := 8, ground := Ground.data }], guard := none }) rfl (fun K hK => ?_) AllReadyH.nil
        go_simp
        refine hK.out _ _ ?_ (fun hHeld => ?_)
        · first | exact hS9 | exact HS.out _ (balloc a8 _) | exact HS.out _ a8 | exact HS.out _ a7 | exact HS.out _ (Below.drew (Below.refl _ wo))
        clear hK K
        (try simp only [Act.put, List.setIfInBounds_toArray, List.set_cons_zero, List.set_cons_succ])
        refine wpAnyH_ready (rs := [10]) (by kernel_rfl) (by simp) ?_
        refine AllReadyH.cons (o := { dst := some 26, op := Op.call { callee := Callee.builtin Builtin.append, args := #[Operand.tmp 16, Operand.tmp 25], argTypes := #[47, 47] }, type := 47, pos := "law.go:157", after := #[{ on := 0, ground := Ground.data }, { on := 9, ground := Ground.data }, { on := 8, ground := Ground.chain }], guard := none }) rfl (fun K hK => ?_) AllReadyH.nil
        (refine step_append_any (by rfl) _ _ _ (by rfl) (B + 1) 42 i0 _ 1 24 Try.underlying47 hi0 hz0 hz1 hz2 rfl (by omega) (.slice oa k oc) k vs (by rfl) (own_below (own_below HRG.out.1 a8) (balloc (Below.refl _ w8) (.cells #[.slice ua n uc] 42))) ⟨w8.heap.size, 0, none⟩ 1 1 [.slice ua n uc] (by rfl) (by rfl) (World.news_of_block (cs := #[.slice ua n uc]) (t := 42) (fr := (0, 0)) (heap_alloc_new w8 _)) (by simp [Value.oneCell']) (by unfold maxLen; omega) (by omega) (by have := a8.size; have := HBL.out; simp; omega) ?_; intro v' w9 hown9 hgrow hat; obtain ⟨gg, cap', rfl⟩ := ownsRow_succ hown9; have hS9 := HSQ.out w9 (fun q hq => (hgrow.block q (by have := a8.size; have := HBL.out; simp; omega) (fun e => by have := (HRG.out.1.lt q e.symm).1; omega)).trans (Below.block (balloc a8 (.cells #[.slice ua n uc] 42)) q (by have := HBL.out; omega))))
        refine hK.out _ _ ?_ (fun hHeld => ?_)
        · first | exact hS9 | exact HS.out _ (balloc a8 _) | exact HS.out _ a8 | exact HS.out _ a7 | exact HS.out _ (Below.drew (Below.refl _ wo))
        clear hK K
        (try simp only [Act.put, List.setIfInBounds_toArray, List.set_cons_zero, List.set_cons_succ])
        refine wpAnyH_done (by kernel_rfl) ?_ _
        show Oper.wp _ _ _ _ _ _
        have hpu := HRG.out.2.push (AX.mkReg_len L n) a8 (own_base ho8 a7.size) (.cells #[.slice ua n uc] 42) hgrow (by rw [HRL.out]; exact hown9) hat
        have HPU := Lib.hid hpu
        have HBW : Hid (Below W0.heap.size W0 w9) := Lib.hid ((balloc (bnext HB2.out a8) (.cells #[.slice ua n uc] 42)).grown hgrow (by have := (bnext HB2.out a8).size; simp; omega) (fun j ej => by have := (HRG.out.1.lt j ej).1; have := HLT.out.2; omega))
        clear hpu hown9 hgrow hat ho8
        go_simp
        go_wp2
        go_roundw
        case rel => exact ⟨k + 1, vs ++ [.slice ua n uc], by go_num, hin, by omega, by rw [HT.out]; exact HPU.out, HBW.out⟩
        case measure => simp [intOf]; omega
      · obtain rfl : k = 4 := by omega
        have HRG := Lib.hid hrg
        clear hrg hown hRl hb hbx
        go_wp2
        go_ret
        exact ⟨_, vs, rfl, HRG.out.base (by have := HB.out; omega), bnext HB0.out HB2.out⟩
    · obtain rfl : k = nr := by omega
      have HRG : Hid (RgK wo (B + 1) (.slice oa k oc) vs (regs LL n)) := Lib.hid (by
        unfold regs
        rw [List.take_of_length_le (by rw [HN.out]; omega)]
        rw [List.take_of_length_le (by rw [HN.out]; omega)] at hrg
        exact hrg)
      clear hrg hown hRl hb hbx
      go_wp2
      go_ret
      exact ⟨_, vs, rfl, HRG.out.base (by have := HB.out; omega), bnext HB0.out HB2.out⟩
end Go.Proofs.Ytbhkbjnmpaebdaa
namespace Go.Proofs.Ytbhkbjnmpaebdaa.AX
/-- What is found, axis by axis. -/
def Found (r : List Tn) (l : List Pr) (A : List Int) (k : Nat) (b : Bool) : Prop :=
  (∀ (j : Nat) (x : Pr) (y : Int), j < k → l[j]? = some x → A[j]? = some y → x.1 ≤ y ∧ y ≤ x.2) ∧
  (b = true → ∀ (j : Nat) (t : Tn) (y : Int), j < k → r[j]? = some t → A[j]? = some y → 0 < (strength t y).1) ∧
  (b = false → ∃ (j : Nat) (t : Tn) (x : Pr), j < k ∧ r[j]? = some t ∧ l[j]? = some x ∧ ∀ y, x.1 ≤ y → y ≤ x.2 → ¬ 0 < (strength t y).1)
theorem found_end {r : List Tn} {l : List Pr} {A : List Int} {n : Nat} {b : Bool} (hr : right r (n : Int) = true) (hl : ranges l (n : Int) = true) (hA : A.length = n) (h : Found r l A n b) : touches r l = b ∧ within A l = true ∧ decide (0 < (scalar r A).1) = b := by
  obtain ⟨h1, h2, h3⟩ := h
  have hrr := (right_iff _ _).1 hr
  have hll := (ranges_iff _ _).1 hl
  have hw : within A l = true := within_yes (by rw [hA]; exact hl) (fun x hx => by
    obtain ⟨j, hj, e⟩ := List.mem_iff_getElem.1 hx
    have hz : (A.zip l)[j]? = some x := by rw [List.getElem?_eq_getElem hj, e]
    obtain ⟨e1, e2⟩ := List.getElem?_zip_eq_some.1 hz
    have hjn := (List.getElem?_eq_some_iff.1 e1).1
    have := h1 j x.2 x.1 (by omega) e2 e1
    unfold ins
    rw [decide_eq_true_iff]
    exact this)
  have hc : coords A = true := by
    rw [coords_iff]
    refine ⟨fun y hy => ?_, by omega⟩
    obtain ⟨j, hj, e⟩ := List.mem_iff_getElem.1 hy
    have hx : l[j]? = some (l[j]'(by omega)) := List.getElem?_eq_getElem _
    have h5 := h1 j _ y (by omega) hx (by rw [List.getElem?_eq_getElem hj, e])
    have h6 := (rng_iff _).1 (hll.2 _ (List.mem_of_getElem? hx))
    rw [coord_iff]
    omega
  have hsp := scalar_pos (l := r) (at' := A) (by rw [hA]; exact hr) hc
  refine ⟨?_, hw, ?_⟩
  · cases b with
    | true =>
      refine touches_yes (by rw [show (l.length : Int) = (n : Int) from hll.1.2.2]; exact hl) (by rw [show (l.length : Int) = (n : Int) from hll.1.2.2]; exact hr) (fun x hx => ?_)
      obtain ⟨j, hj, e⟩ := List.mem_iff_getElem.1 hx
      have hz : (r.zip l)[j]? = some x := by rw [List.getElem?_eq_getElem hj, e]
      obtain ⟨e1, e2⟩ := List.getElem?_zip_eq_some.1 hz
      have hjn := (List.getElem?_eq_some_iff.1 e1).1
      have hy : A[j]? = some (A[j]'(by omega)) := List.getElem?_eq_getElem _
      have hjn2 : j < n := by omega
      have a1 := h1 j x.2 _ hjn2 e2 hy
      have a2 := h2 rfl j x.1 _ hjn2 e1 hy
      have := (touch_iff (t := x.1) (x := x.2) (hrr.2 _ (List.mem_of_getElem? e1)) ((rng_iff _).1 (hll.2 _ (List.mem_of_getElem? e2))).2.2).2 ⟨_, a1.1, a1.2, a2⟩
      exact this
    | false =>
      obtain ⟨j, t, x, hj, e1, e2, hno⟩ := h3 rfl
      have hz : (r.zip l)[j]? = some (t, x) := List.getElem?_zip_eq_some.2 ⟨e1, e2⟩
      refine touches_out hz ?_
      rw [Bool.eq_false_iff]
      intro ht
      obtain ⟨y, y1, y2, y3⟩ := (touch_iff (t := t) (x := x) (hrr.2 _ (List.mem_of_getElem? e1)) ((rng_iff _).1 (hll.2 _ (List.mem_of_getElem? e2))).2.2).1 ht
      exact hno y y1 y2 y3
  · cases b with
    | true =>
      rw [decide_eq_true_iff, hsp]
      intro j t y e1 e2
      have hj := (List.getElem?_eq_some_iff.1 e2).1
      exact h2 rfl j t y (by omega) e1 e2
    | false =>
      rw [decide_eq_false_iff_not, hsp]
      intro hall
      obtain ⟨j, t, x, hj, e1, e2, hno⟩ := h3 rfl
      have hy : A[j]? = some (A[j]'(by omega)) := List.getElem?_eq_getElem _
      have h5 := h1 j x _ hj e2 hy
      exact hno _ h5.1 h5.2 (hall j t _ e1 hy)
/-- Wider ranges. -/
def Wider (l m : List Pr) : Prop := m.length = l.length ∧ ∀ (j : Nat) (x y : Pr), l[j]? = some x → m[j]? = some y → y.1 ≤ x.1 ∧ x.2 ≤ y.2 ∧ rng y = true
theorem wider_touches {r : List Tn} {l m : List Pr} {n : Nat} (hr : right r (n : Int) = true) (hl : ranges l (n : Int) = true) (hw : Wider l m) (h : touches r l = true) : touches r m = true := by
  have hrr := (right_iff _ _).1 hr
  have hll := (ranges_iff _ _).1 hl
  have hm : ranges m (n : Int) = true := by
    rw [ranges_iff]
    refine ⟨⟨hll.1.1, hll.1.2.1, by rw [hw.1]; exact hll.1.2.2⟩, fun y hy => ?_⟩
    obtain ⟨j, hj, e⟩ := List.mem_iff_getElem.1 hy
    have hl1 := hw.1
    have hx : l[j]? = some (l[j]'(by omega)) := List.getElem?_eq_getElem _
    exact (hw.2 j _ y hx (by rw [List.getElem?_eq_getElem hj, e])).2.2
  have hml : (m.length : Int) = (n : Int) := by rw [hw.1]; exact hll.1.2.2
  refine touches_yes (by rw [hml]; exact hm) (by rw [hml]; exact hr) (fun x hx => ?_)
  obtain ⟨j, hj, e⟩ := List.mem_iff_getElem.1 hx
  have hz : (r.zip m)[j]? = some x := by rw [List.getElem?_eq_getElem hj, e]
  obtain ⟨e1, e2⟩ := List.getElem?_zip_eq_some.1 hz
  have hjn := (List.getElem?_eq_some_iff.1 e2).1
  have hl1 := hw.1
  have hx' : l[j]? = some (l[j]'(by omega)) := List.getElem?_eq_getElem _
  have h5 := hw.2 j _ x.2 hx' e2
  have ht : touch (x.1, l[j]'(by omega)) = true := by
    by_cases hb : touch (x.1, l[j]'(by omega)) = true
    · exact hb
    · have := touches_out (r := r) (l := l) (j := j) (x := (x.1, l[j]'(by omega))) (List.getElem?_zip_eq_some.2 ⟨e1, hx'⟩) (by simpa using hb)
      rw [this] at h
      simp at h
  have hrx := (rng_iff _).1 (hll.2 _ (List.mem_of_getElem? hx'))
  obtain ⟨y, y1, y2, y3⟩ := (touch_iff (t := x.1) (hrr.2 _ (List.mem_of_getElem? e1)) hrx.2.2).1 ht
  have := (touch_iff (t := x.1) (x := x.2) (hrr.2 _ (List.mem_of_getElem? e1)) (by omega)).2 ⟨y, by omega, by omega, y3⟩
  exact this
end Go.Proofs.Ytbhkbjnmpaebdaa.AX
end
