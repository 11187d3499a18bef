/- Using a key, and putting it again. No conditions. -/
import Derived.Test.YtmnajongifdajaaMem37
namespace Go.Proofs.Ytmnajongifdajaa.ME
set_option linter.unusedVariables false
section
variable {P : List En} {bu : Int} {e : En} {k : Nat}
theorem split_at (h : P[k]? = some e) : P = P.take k ++ e :: P.drop (k + 1) := by
  obtain ⟨hl, he⟩ := List.getElem?_eq_some_iff.1 h
  rw [← he, ← List.drop_eq_getElem_cons hl, List.take_append_drop]
theorem erase_at : P.eraseIdx k = P.take k ++ P.drop (k + 1) := List.eraseIdx_eq_take_drop_succ ..
theorem use_at (ok : Ok bu P) (h : P[k]? = some e) : use e.key P = (P.eraseIdx k ++ [e], true) := by
  have hs := split_at h
  have hn := ok.keys
  rw [hs] at hn
  have h1 := fnd_mid hn
  have h2 := wo_mid hn
  rw [← hs] at h1 h2
  unfold use
  rw [h1, h2, erase_at]
theorem sm_at (h : P[k]? = some e) : sm (P.eraseIdx k ++ [e]) = sm P := by
  have hs : sm P = sm (P.take k ++ e :: P.drop (k + 1)) := congrArg sm (split_at h)
  rw [hs, erase_at, sm_app, sm_app, sm_app, sm_cons, sm_cons, sm_nil]
  omega
theorem ok_at (ok : Ok bu P) (h : P[k]? = some e) : Ok bu (P.eraseIdx k ++ [e]) := by
  have := ok.use e.key
  rw [use_at ok h] at this
  exact this
theorem room_nil (bu : Int) (R : List En) (t : Int) (h : t ≤ bu) : room bu t R = (R, []) := by
  cases R with
  | nil => rfl
  | cons x R => unfold room; rw [if_pos h]
theorem put_again (ok : Ok bu P) (h : P[k]? = some e) : put bu e.key e.size (P.eraseIdx k ++ [e]) = (P.eraseIdx k ++ [e], [], 0) := by
  have oq := ok_at ok h
  have hz := oq.sz e (by simp)
  have hw : wo e.key (P.eraseIdx k ++ [e]) = P.eraseIdx k := by
    have := wo_mid (A := P.eraseIdx k) (C := []) (e := e) oq.keys
    rwa [List.append_nil] at this
  have hf : fnd e.key (P.eraseIdx k ++ [e]) = some e := fnd_mid (A := P.eraseIdx k) (C := []) (e := e) oq.keys
  have hsum := oq.sum
  rw [sm_app, sm_cons, sm_nil] at hsum
  have hp := (pn_le (P := P.eraseIdx k) (fun x hx => oq.sz x (by simp [hx]))).2
  unfold put pinOf
  rw [if_neg (by omega), hw, if_neg (by omega), hf, room_nil _ _ _ (by omega)]
  rfl
/-- The keys but the one at k, of the first i. -/
def wk (P : List En) (k i : Nat) : List K4 := ((P.map En.key).take i).eraseIdx k
theorem wk_zero : wk P k 0 = [] := rfl
theorem wk_len (i : Nat) : (wk P k i).length ≤ i := by
  unfold wk
  have := List.length_eraseIdx_le ((P.map En.key).take i) k
  have := List.length_take_le i (P.map En.key)
  omega
theorem wk_self (h : P[k]? = some e) : wk P k (k + 1) = wk P k k := by
  have hl := (List.getElem?_eq_some_iff.1 h).1
  unfold wk
  rw [List.take_add_one, show (P.map En.key)[k]? = some e.key by simp [h]]
  rw [List.eraseIdx_append_of_length_le (by rw [List.length_take]; omega)]
  rw [List.length_take, List.length_map, Nat.min_eq_left (by omega), Nat.sub_self]
  rw [List.eraseIdx_of_length_le (l := List.take k _) (by rw [List.length_take]; omega)]
  simp
theorem wk_next {i : Nat} {x : En} (h : P[i]? = some x) (hi : i ≠ k) : wk P k (i + 1) = wk P k i ++ [x.key] := by
  have hl := (List.getElem?_eq_some_iff.1 h).1
  unfold wk
  rw [List.take_add_one, show (P.map En.key)[i]? = some x.key by simp [h]]
  simp only [Option.toList]
  by_cases hik : i < k
  · rw [List.eraseIdx_of_length_le (by simp; omega), List.eraseIdx_of_length_le (l := List.take i _) (by simp; omega)]
  · rw [List.eraseIdx_append_of_lt_length (by simp; omega)]
theorem wk_all : wk P k P.length = (P.eraseIdx k).map En.key := by
  unfold wk
  rw [List.take_of_length_le (by simp)]
  simp [List.eraseIdx_eq_take_drop_succ, List.map_take, List.map_drop]
end
end Go.Proofs.Ytmnajongifdajaa.ME
namespace Go.Proofs.Ytmnajongifdajaa
set_option linter.unusedVariables false
open Go.RowKit Go.Deep ME
theorem step_appNG {P : Program} {w : World} {ops : Array Oper} {o : Oper} {a : Act} {K : Act → World → Prop} {Q : Exit → Act → World → Prop} {E : Prop} (hw : Region.wanted o (yielded ops a.tmps) = true) (s x : Operand) (t : TypeId)
    (ho : o.op = .call { callee := .builtin .append, args := #[s, x], argTypes := #[t, t] })
    (base : Nat) (e : TypeId) (i : TypeInfo) (z : Value) (k bytes : Nat) (ht : P.underlying t = some (.slice e)) (hi : P.info? e = some i) (hz : i.zero = some z)
    (hsize : i.size = k) (hby : i.bytes = bytes) (hzs : z.cells.size = k) (hk : 0 < k)
    (v : Value) (n : Nat) (xs : List Value) (hs : a.eval s = v) (hown : w.ownsRow base e k v n xs)
    (vx : Value) (m : Nat) (U : List Value) (hx : a.eval x = vx) (hS : SrcN k w vx m U) (h1 : ∀ u ∈ U, u.oneCell' = true)
    (h63 : n + m ≤ maxLen) (hbytes : (n + m) * bytes ≤ 140737488355328) (hbase : base ≤ w.heap.size)
    (h : ∀ v' w', w'.ownsRow base e k v' (n + m) (xs ++ U) → w.grownBy w' v.ownBlock → (v'.ownBlock = v.ownBlock ∨ v'.ownBlock = some w.heap.size) → K (a.put o.dst v') w') :
    if Region.wanted o (yielded ops a.tmps) = true then Oper.wp P o a w K Q else E := by
  rw [if_pos hw]
  obtain ⟨v', w', hr, h2, h3, h5⟩ := run_appN (P := P) w base t o.type e i z k bytes ht hi hz hsize hby hzs hk v n xs hown vx m U hS h1 h63 hbytes hbase
  unfold Oper.wp execOp
  simp only [ho, resolve, invoke, builtin, Sem.run_bind, Sem.run_pure, Result.andThen_ok, List.map_toArray, List.map_cons, List.map_nil, hs, hx, hr]
  exact h v' w' h2 h3 h5
theorem own_one (w : World) (U : List Value) (e : TypeId) (hl : U.length = 4) : (w.alloc (.cells U.toArray e)).ownsRow w.heap.size e 4 (.slice (some ⟨w.heap.size, 0, none⟩) 1 1) 1 U :=
  ⟨by simp [hl], .inr ⟨w.heap.size, 1, U.toArray, rfl, Nat.le_refl _, heap_alloc_new w _, Nat.le_refl _, by unfold maxLen; omega, by simp [hl], by have := List.take_of_length_le (l := U) (i := 4) (by omega); simpa using this⟩⟩
theorem kc_cells (l : List K4) : ∀ u ∈ ME.kc l, u.oneCell' = true := fun u hu => by
  obtain ⟨k, -, hk⟩ := List.mem_flatMap.1 hu
  simp only [ME.kyL, List.mem_cons, List.not_mem_nil, or_false] at hk
  rcases hk with rfl | rfl | rfl | rfl <;> rfl
theorem kc_len (l : List K4) : (ME.kc l).length = l.length * 4 := flat_len ME.kyL_len l
theorem PS.ref {W : World} {M mb root r : Nat} {bu : Int} {P1 P2 : List En} {k : Nat} {H : Nat → Prop} (h : PS W M mb root r bu P1 P2 k H) : ∃ G, RrAt W r bu P2 G := by
  obtain ⟨⟨L, n, F, G, h1, h2, h3, h4, h5⟩, -, -, -, -, -⟩ := h
  exact ⟨G, h4⟩
end Go.Proofs.Ytmnajongifdajaa
