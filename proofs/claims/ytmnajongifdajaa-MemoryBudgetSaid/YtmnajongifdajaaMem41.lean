/- What is given up, with one key left out. No conditions. -/
import Derived.Test.YtmnajongifdajaaMem40
namespace Go.Proofs.Ytmnajongifdajaa.ME
set_option linter.unusedVariables false
section
variable {bu s t : Int} {P K G : List En} {x : En} {ky : K4} {i : Nat}
theorem drop_at (h : P[i]? = some x) : P.drop i = x :: P.drop (i + 1) := by
  have hl := (List.getElem?_eq_some_iff.1 h).1
  rw [List.drop_eq_getElem_cons hl, (List.getElem?_eq_some_iff.1 h).2]
theorem take_at (h : P[i]? = some x) : P.take (i + 1) = P.take i ++ [x] := by
  rw [List.take_add_one, h]
  rfl
theorem wo_drop_same (h : P[i]? = some x) (hx : x.key = ky) : wo ky (P.drop i) = wo ky (P.drop (i + 1)) := by
  rw [drop_at h]
  unfold wo
  rw [List.filter_cons]
  simp [hx]
theorem wo_take_same (h : P[i]? = some x) (hx : x.key = ky) : wo ky (P.take (i + 1)) = wo ky (P.take i) := by
  rw [take_at h]
  unfold wo
  rw [List.filter_append]
  simp [hx]
theorem wo_drop_other (h : P[i]? = some x) (hx : x.key ≠ ky) : wo ky (P.drop i) = x :: wo ky (P.drop (i + 1)) := by
  rw [drop_at h]
  unfold wo
  rw [List.filter_cons]
  simp [hx]
theorem wo_take_other (h : P[i]? = some x) (hx : x.key ≠ ky) : wo ky (P.take (i + 1)) = wo ky (P.take i) ++ [x] := by
  rw [take_at h]
  unfold wo
  rw [List.filter_append]
  simp [hx]
/-- Of the keys but one the first i are done. -/
structure Ol (bu s : Int) (ky : K4) (P : List En) (i : Nat) (K G : List En) : Prop where
  ro : ∃ t, Ro bu s (wo ky P) (wo ky (P.take i)) (wo ky (P.drop i)) K G t
  gin : ∀ g ∈ G, g ∈ P
theorem Ol.start (bu s : Int) (ky : K4) (P : List En) : Ol bu s ky P 0 [] [] := ⟨⟨_, Ro.start bu s (wo ky P)⟩, fun g h => by cases h⟩
theorem Ol.same (h : Ol bu s ky P i K G) (hx : P[i]? = some x) (hk : x.key = ky) : Ol bu s ky P (i + 1) K G := by
  obtain ⟨⟨t, ht⟩, hg⟩ := h
  refine ⟨⟨t, ?_⟩, hg⟩
  rw [wo_take_same hx hk, ← wo_drop_same hx hk]
  exact ht
/-- The three ways of another key. -/
theorem Ol.step (h : Ol bu s ky P i K G) (hn : (P.map En.key).Nodup) (hx : P[i]? = some x) (hk : x.key ≠ ky) :
    (Ol bu s ky P (i + 1) (K ++ [x]) G ∧ (room bu (sm (wo ky P) + s) (wo ky P)).2 = G.map En.key)
    ∨ (Ol bu s ky P (i + 1) (K ++ [x]) G ∧ x.pin = true ∧ ∀ y, (room bu (sm (wo ky P) + s) (wo ky P)).2[G.length]? = some y → y ≠ x.key)
    ∨ (Ol bu s ky P (i + 1) K (G ++ [x]) ∧ x.pin = false ∧ (room bu (sm (wo ky P) + s) (wo ky P)).2[G.length]? = some x.key) := by
  obtain ⟨⟨t, ht⟩, hg⟩ := h
  have hxP := List.mem_of_getElem? hx
  rw [wo_drop_other hx hk] at ht
  have hA := wo_take_other hx hk
  have hnw : ((wo ky P).map En.key).Nodup := hn.sublist (List.Sublist.map _ List.filter_sublist)
  by_cases hb : t ≤ bu
  · obtain ⟨h1, h2⟩ := ht.fit hb
    exact .inl ⟨⟨⟨t, by rw [hA]; exact h1⟩, hg⟩, h2⟩
  · have hb' : bu < t := by omega
    cases hp : x.pin with
    | true => exact .inr (.inl ⟨⟨⟨t, by rw [hA]; exact ht.pinned hb' hp⟩, hg⟩, rfl, fun y hy => ht.other hnw hb' hp hy⟩)
    | false =>
      obtain ⟨h1, h2⟩ := ht.give hb' hp
      refine .inr (.inr ⟨⟨⟨_, by rw [hA]; exact h1⟩, fun g hgg => ?_⟩, rfl, h2⟩)
      rcases List.mem_append.1 hgg with h | h
      · exact hg g h
      · obtain rfl : g = x := by simpa using h
        exact hxP
theorem Ol.fin (h : Ol bu s ky P i K G) (hi : P.length ≤ i) : (room bu (sm (wo ky P) + s) (wo ky P)) = (K, G.map En.key) ∧ (∀ g, G.getLast? = some g → bu - s - sm K - g.size < 0) := by
  obtain ⟨⟨t, ht⟩, hg⟩ := h
  rw [List.drop_eq_nil_of_le hi] at ht
  exact ht.fin
theorem put_zero {Q : List En} {g : List K4} (h : put bu ky s P = (Q, g, 0)) : Q = (room bu (sm (wo ky P) + s) (wo ky P)).1 ++ [mkE ky s (pinOf ky P)] ∧ g = (room bu (sm (wo ky P) + s) (wo ky P)).2 := by
  unfold put at h
  split at h
  · simp at h
  · split at h
    · simp at h
    · simp only [Prod.mk.injEq] at h
      exact ⟨h.1.symm, h.2.1.symm⟩
theorem fnd_self : ∀ {P : List En} {g : En}, (P.map En.key).Nodup → g ∈ P → fnd g.key P = some g
  | [], _, _, h => by cases h
  | x :: P, g, hn, h => by
    rw [List.map_cons, List.nodup_cons] at hn
    unfold fnd
    rw [List.find?_cons]
    rcases List.mem_cons.1 h with rfl | h
    · simp
    · have hne : ¬ x.key = g.key := fun e => hn.1 (by rw [e]; exact List.mem_map.2 ⟨g, h, rfl⟩)
      simp only [hne, decide_false]
      exact fnd_self hn.2 h
theorem mk_key {b : Bool} : (mkE ky s b).key = ky := rfl
end
end Go.Proofs.Ytmnajongifdajaa.ME
namespace Go.Proofs.Ytmnajongifdajaa
set_option linter.unusedVariables false
open Go.RowKit Go.Deep ME
/-- An append under a guard that is open. -/
theorem wpList_appNG {P : Program} (w : World) {ops : Array Oper} {rest : List Oper} {o : Oper} {a : Act} {Q : Exit → Act → World → Prop} (hw : Region.wanted o (yielded ops a.tmps) = true) (s x : Operand) (t : TypeId)
    (ho : o.op = .call { callee := .builtin .append, args := #[s, x], argTypes := #[t, t] })
    (base : Nat) (e : TypeId) (i : TypeInfo) (z : Value) (k bytes : Nat) (ht : P.underlying t = some (.slice e)) (hi : P.info? e = some i) (hz : i.zero = some z)
    (hsize : i.size = k) (hby : i.bytes = bytes) (hzs : z.cells.size = k) (hk : 0 < k)
    (v : Value) (n : Nat) (xs : List Value) (hs : a.eval s = v) (hown : w.ownsRow base e k v n xs)
    (vx : Value) (m : Nat) (U : List Value) (hx : a.eval x = vx) (hS : SrcN k w vx m U) (h1 : ∀ u ∈ U, u.oneCell' = true)
    (h63 : n + m ≤ maxLen) (hbytes : (n + m) * bytes ≤ 140737488355328) (hbase : base ≤ w.heap.size)
    (h : ∀ v' w', w'.ownsRow base e k v' (n + m) (xs ++ U) → w.grownBy w' v.ownBlock → (v'.ownBlock = v.ownBlock ∨ v'.ownBlock = some w.heap.size) → wpList P ops Q rest (a.put o.dst v') w') : wpList P ops Q (o :: rest) a w := by
  rw [wpList, if_pos hw]
  refine Or.inl ?_
  obtain ⟨v', w', hr, h2, h3, h5⟩ := run_appN (P := P) w base t o.type e i z k bytes ht hi hz hsize hby hzs hk v n xs hown vx m U hS h1 h63 hbytes hbase
  unfold Oper.wp execOp
  simp only [ho, resolve, invoke, builtin, Sem.run_bind, Sem.run_pure, Result.andThen_ok, List.map_toArray, List.map_cons, List.map_nil, hs, hx, hr]
  exact h v' w' h2 h3 h5
end Go.Proofs.Ytmnajongifdajaa
