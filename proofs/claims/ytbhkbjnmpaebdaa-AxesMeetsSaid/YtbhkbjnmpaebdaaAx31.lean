/- Appends of rows in statements that draw. No conditions. -/
import Derived.Test.YtbhkbjnmpaebdaaAx30
import Derived.Laws.OwnMore
namespace Go.Proofs.Ytbhkbjnmpaebdaa
set_option maxRecDepth 100000
set_option linter.unusedVariables false
open Go.RowKit Go.Deep
theorem run_appN {P : Program} (w : World) (base : Nat) (t ty e : TypeId) (i : TypeInfo) (z : Value) (k bytes : Nat) (ht : P.underlying t = some (.slice e)) (hi : P.info? e = some i) (hz : i.zero = some z)
    (hsize : i.size = k) (hby : i.bytes = bytes) (hzs : z.cells.size = k) (hk : 0 < k)
    (v : Value) (n : Nat) (xs : List Value) (hown : w.ownsRow base e k v n xs)
    (vx : Value) (m : Nat) (U : List Value) (hS : SrcN k w vx m U) (h1 : ∀ u ∈ U, u.oneCell' = true)
    (h63 : n + m ≤ maxLen) (hbytes : (n + m) * bytes ≤ 140737488355328) (hbase : base ≤ w.heap.size) :
    ∃ v' w', (Builtin.append_ #[t, t] ty #[v, vx]).run P w = .ok v' w' ∧ w'.ownsRow base e k v' (n + m) (xs ++ U) ∧ w.grownBy w' v.ownBlock ∧ (v'.ownBlock = v.ownBlock ∨ v'.ownBlock = some w.heap.size) := by
  obtain ⟨ao, c, rfl, hl, hU⟩ := hS
  rcases hU with ⟨hm, hc⟩ | ⟨g, of, rfl, hg, hcells⟩
  · subst hm
    obtain rfl : U = [] := List.eq_nil_of_length_eq_zero (by rw [hl]; simp)
    cases ao with
    | none =>
      obtain rfl := hc rfl
      exact ⟨v, w, run_append_owned_none (P := P) (w := w) base t ty e i k ht hi v n xs hown, by simpa using hown, World.grownBy.refl _ _, .inl rfl⟩
    | some ad =>
      obtain ⟨v', w', hr, h2, h3, -, h5⟩ := run_append_own_at (P := P) w base t ty e i z k bytes ht hi hz hsize hby hzs hk v n xs hown ad 0 c [] (by simp) (by simp) (by simp) (by simpa using h63) (by simpa using hbytes) hbase
      exact ⟨v', w', hr, by simpa using h2, h3, h5⟩
  · obtain ⟨v', w', hr, h2, h3, -, h5⟩ := run_append_own_at (P := P) w base t ty e i z k bytes ht hi hz hsize hby hzs hk v n xs hown ⟨g, of, none⟩ m c U hl (fun j u hj => by rw [Addr.add_lit]; exact hcells j u hj) h1 h63 hbytes hbase
    exact ⟨v', w', hr, h2, h3, h5⟩
/-- An append of a row, in a statement that draws. -/
theorem step_appN {P : Program} {w : World} {ops : Array Oper} {o : Oper} {a : Act} {K : Act → World → Prop} {Q : Exit → Act → World → Prop} {E : Prop} (hgd : o.guard = none) (s x : Operand) (t : TypeId)
    (ho : o.op = .call { callee := .builtin .append, args := #[s, x], argTypes := #[t, t] })
    (base : Nat) (e : TypeId) (i : TypeInfo) (z : Value) (k bytes : Nat) (ht : P.underlying t = some (.slice e)) (hi : P.info? e = some i) (hz : i.zero = some z)
    (hsize : i.size = k) (hby : i.bytes = bytes) (hzs : z.cells.size = k) (hk : 0 < k)
    (v : Value) (n : Nat) (xs : List Value) (hs : a.eval s = v) (hown : w.ownsRow base e k v n xs)
    (vx : Value) (m : Nat) (U : List Value) (hx : a.eval x = vx) (hS : SrcN k w vx m U) (h1 : ∀ u ∈ U, u.oneCell' = true)
    (h63 : n + m ≤ maxLen) (hbytes : (n + m) * bytes ≤ 140737488355328) (hbase : base ≤ w.heap.size)
    (h : ∀ v' w', w'.ownsRow base e k v' (n + m) (xs ++ U) → w.grownBy w' v.ownBlock → (v'.ownBlock = v.ownBlock ∨ v'.ownBlock = some w.heap.size) → K (a.put o.dst v') w') :
    if Region.wanted o (yielded ops a.tmps) = true then Oper.wp P o a w K Q else E := by
  have hw : Region.wanted o (yielded ops a.tmps) = true := by simp [Region.wanted, hgd]
  rw [if_pos hw]
  obtain ⟨v', w', hr, h2, h3, h5⟩ := run_appN (P := P) w base t o.type e i z k bytes ht hi hz hsize hby hzs hk v n xs hown vx m U hS h1 h63 hbytes hbase
  unfold Oper.wp execOp
  simp only [ho, resolve, invoke, builtin, Sem.run_bind, Sem.run_pure, Result.andThen_ok, List.map_toArray, List.map_cons, List.map_nil, hs, hx, hr]
  exact h v' w' h2 h3 h5
theorem InAt.take {W : World} {a : Option Addr} {n c m : Nat} {l : List Int} (h : InAt W (.slice a n c) l) (hm : m ≤ n) : InAt W (.slice a m c) (l.take m) := by
  have hn : l.length = n := by obtain ⟨a', c', e, -⟩ := h; injection e with e1 e2 e3; exact e2.symm
  have h1 := row_first h.row (m := m) (by rw [List.length_map]; omega)
  rw [← List.map_take] at h1
  exact InAt.of h1
theorem rscalar_c' {l : List AX.Tn} {at' : List Int} {a b : Int} (h : AX.scalar l at' = (a, b)) (v va : Value) (w : World) (hl : l.length ≤ 1000000000000) (hal : at'.length ≤ 1000000000000) (hv : TnAt w v l) (ha : InAt w va at') :
    Calls Try.prog 26 #[.agg #[v], va] w fun e w' => e = .returned (.agg #[.int .i64 a, .int .i64 b]) ∧ Below w.heap.size w w' := rscalar_c h v va w hl hal hv ha
theorem scalar_c' {l : List AX.Tn} {at' : List Int} {a b : Int} (h : AX.scalar l at' = (a, b)) (v va : Value) (w : World) (hl : l.length ≤ 1000000000000) (hal : at'.length ≤ 1000000000000) (hv : TnAt w v l) (ha : InAt w va at') :
    Calls Try.prog 25 #[.agg #[v], va] w fun e w' => e = .returned (.agg #[.int .i64 a, .int .i64 b]) ∧ Below w.heap.size w w' := scalar_c h v va w hl hal hv ha
end Go.Proofs.Ytbhkbjnmpaebdaa
