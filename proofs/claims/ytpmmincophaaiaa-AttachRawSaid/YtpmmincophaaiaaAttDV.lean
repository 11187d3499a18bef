/- Rows of glyphs as values; an append of them in a statement that draws. No conditions. -/
import Derived.Test.YtpmmincophaaiaaAttBeh0
import Derived.Test.YtpmmincophaaiaaLast
namespace Go.Proofs.Ytpmmincophaaiaa
set_option maxRecDepth 100000
set_option linter.unusedVariables false
open Go.RowKit Go.Deep
/-- These values are those of these glyphs. -/
def DV (W : World) (U : List Value) (D : List AT.Dr) : Prop := U.length = D.length * 6 ∧ (∀ u ∈ U, u.oneCell' = true) ∧ ∀ i d, D[i]? = some d → ∃ ca cn cc va, AnAt W va d.anchors ∧ U[i * 6]? = some (.slice ca cn cc) ∧ U[i * 6 + 1]? = some va ∧ U[i * 6 + 2]? = some (.int .i64 d.hang.1) ∧ U[i * 6 + 3]? = some (.int .i64 d.hang.2.1) ∧ U[i * 6 + 4]? = some (.int .i64 d.hang.2.2) ∧ U[i * 6 + 5]? = some (.int .i64 d.adv)
theorem DV.nil (W : World) : DV W [] [] := ⟨rfl, fun u hu => by simp at hu, fun i d h => by simp at h⟩
theorem DV.keep {W W' : World} {U : List Value} {D : List AT.Dr} (h : DV W U D) (hb : Below W.heap.size W W') : DV W' U D :=
  ⟨h.1, h.2.1, fun i d hd => by
    obtain ⟨ca, cn, cc, va, ha, rest⟩ := h.2.2 i d hd
    exact ⟨ca, cn, cc, va, ha.keep hb, rest⟩⟩
theorem DV.take {W : World} {U : List Value} {D : List AT.Dr} (h : DV W U D) (k : Nat) : DV W (U.take (k * 6)) (D.take k) := by
  obtain ⟨h1, h2, h3⟩ := h
  refine ⟨by rw [List.length_take, List.length_take, h1]; omega, fun u hu => h2 u (List.mem_of_mem_take hu), fun i d hd => ?_⟩
  rw [List.getElem?_take] at hd
  split at hd
  · rename_i hik
    obtain ⟨ca, cn, cc, va, ha, c0, c1, c2, c3, c4, c5⟩ := h3 i d hd
    refine ⟨ca, cn, cc, va, ha, ?_, ?_, ?_, ?_, ?_, ?_⟩ <;> rw [List.getElem?_take, if_pos (by omega)] <;> assumption
  · simp at hd
theorem DV.drop {W : World} {U : List Value} {D : List AT.Dr} (h : DV W U D) (k : Nat) : DV W (U.drop (k * 6)) (D.drop k) := by
  obtain ⟨h1, h2, h3⟩ := h
  refine ⟨by rw [List.length_drop, List.length_drop, h1]; omega, fun u hu => h2 u (List.mem_of_mem_drop hu), fun i d hd => ?_⟩
  rw [List.getElem?_drop] at hd
  obtain ⟨ca, cn, cc, va, ha, c0, c1, c2, c3, c4, c5⟩ := h3 (k + i) d hd
  refine ⟨ca, cn, cc, va, ha, ?_, ?_, ?_, ?_, ?_, ?_⟩ <;> rw [List.getElem?_drop]
  · rw [show k * 6 + i * 6 = (k + i) * 6 by omega]; exact c0
  · rw [show k * 6 + (i * 6 + 1) = (k + i) * 6 + 1 by omega]; exact c1
  · rw [show k * 6 + (i * 6 + 2) = (k + i) * 6 + 2 by omega]; exact c2
  · rw [show k * 6 + (i * 6 + 3) = (k + i) * 6 + 3 by omega]; exact c3
  · rw [show k * 6 + (i * 6 + 4) = (k + i) * 6 + 4 by omega]; exact c4
  · rw [show k * 6 + (i * 6 + 5) = (k + i) * 6 + 5 by omega]; exact c5
theorem DV.app {W : World} {U U' : List Value} {D D' : List AT.Dr} (h : DV W U D) (h' : DV W U' D') : DV W (U ++ U') (D ++ D') := by
  obtain ⟨h1, h2, h3⟩ := h
  obtain ⟨h1', h2', h3'⟩ := h'
  refine ⟨by rw [List.length_append, List.length_append, h1, h1']; omega, fun u hu => (List.mem_append.1 hu).elim (h2 u) (h2' u), fun i d hd => ?_⟩
  by_cases hi : i < D.length
  · rw [List.getElem?_append_left hi] at hd
    obtain ⟨ca, cn, cc, va, ha, c0, c1, c2, c3, c4, c5⟩ := h3 i d hd
    refine ⟨ca, cn, cc, va, ha, ?_, ?_, ?_, ?_, ?_, ?_⟩ <;> rw [List.getElem?_append_left (by omega)] <;> assumption
  · rw [List.getElem?_append_right (by omega)] at hd
    obtain ⟨ca, cn, cc, va, ha, c0, c1, c2, c3, c4, c5⟩ := h3' _ d hd
    refine ⟨ca, cn, cc, va, ha, ?_, ?_, ?_, ?_, ?_, ?_⟩ <;> rw [List.getElem?_append_right (by omega), h1]
    · rw [show i * 6 - D.length * 6 = (i - D.length) * 6 by omega]; exact c0
    · rw [show i * 6 + 1 - D.length * 6 = (i - D.length) * 6 + 1 by omega]; exact c1
    · rw [show i * 6 + 2 - D.length * 6 = (i - D.length) * 6 + 2 by omega]; exact c2
    · rw [show i * 6 + 3 - D.length * 6 = (i - D.length) * 6 + 3 by omega]; exact c3
    · rw [show i * 6 + 4 - D.length * 6 = (i - D.length) * 6 + 4 by omega]; exact c4
    · rw [show i * 6 + 5 - D.length * 6 = (i - D.length) * 6 + 5 by omega]; exact c5
/-- The values of a row of glyphs that lies there. -/
theorem ds_dv {W : World} {g o n c : Nat} {D : List AT.Dr} (h : DsAt W (.slice (some ⟨g, o, none⟩) n c) D) (hn : D.length = n) (hp : 0 < n) : g < W.heap.size ∧ ∃ U, DV W U D ∧ ∀ j u, U[j]? = some u → W.cell? ⟨g, o + j, none⟩ = some u := by
  obtain ⟨a', c', e, h⟩ := h
  injection e with e1 e2 e3
  subst e1
  rcases h with h | ⟨g', o', e4, hg, hc⟩
  · rw [h] at hn
    simp at hn
    omega
  · have := Option.some.inj e4
    injection this with e5 e6
    subst e5 e6
    refine ⟨hg, (List.range (n * 6)).map (fun j => (W.cell? ⟨g, o + j, none⟩).getD undef), ?_⟩
    have hU : ∀ j, j < n * 6 → ((List.range (n * 6)).map (fun j => (W.cell? ⟨g, o + j, none⟩).getD undef))[j]? = some ((W.cell? ⟨g, o + j, none⟩).getD undef) := fun j hj => by
      rw [List.getElem?_map, List.getElem?_range hj]
      rfl
    have key : ∀ j, j < n * 6 → ∃ u, W.cell? ⟨g, o + j, none⟩ = some u ∧ u.oneCell' = true := fun j hj => by
      obtain ⟨d, hd⟩ : ∃ d, D[j / 6]? = some d := ⟨D[j / 6]'(by omega), List.getElem?_eq_getElem _⟩
      obtain ⟨ca, cn, cc, va, ha, c0, c1, c2, c3, c4, c5⟩ := hc (j / 6) d hd
      obtain ⟨aa, ac, rfl, -⟩ := ha
      have hj6 : j % 6 = 0 ∨ j % 6 = 1 ∨ j % 6 = 2 ∨ j % 6 = 3 ∨ j % 6 = 4 ∨ j % 6 = 5 := by omega
      rcases hj6 with h | h | h | h | h | h
      · exact ⟨_, by rw [show o + j = o + j / 6 * 6 by omega]; exact c0, rfl⟩
      · exact ⟨_, by rw [show o + j = o + j / 6 * 6 + 1 by omega]; exact c1, rfl⟩
      · exact ⟨_, by rw [show o + j = o + j / 6 * 6 + 2 by omega]; exact c2, rfl⟩
      · exact ⟨_, by rw [show o + j = o + j / 6 * 6 + 3 by omega]; exact c3, rfl⟩
      · exact ⟨_, by rw [show o + j = o + j / 6 * 6 + 4 by omega]; exact c4, rfl⟩
      · exact ⟨_, by rw [show o + j = o + j / 6 * 6 + 5 by omega]; exact c5, rfl⟩
    refine ⟨⟨by simp [hn], fun u hu => ?_, fun i d hd => ?_⟩, fun j u hj => ?_⟩
    · obtain ⟨j, hj, rfl⟩ := List.mem_map.1 hu
      obtain ⟨u, h1, h2⟩ := key j (List.mem_range.1 hj)
      rw [h1]
      exact h2
    · have hi : i < n := by rw [← hn]; exact (List.getElem?_eq_some_iff.1 hd).1
      obtain ⟨ca, cn, cc, va, ha, c0, c1, c2, c3, c4, c5⟩ := hc i d hd
      refine ⟨ca, cn, cc, va, ha, ?_, ?_, ?_, ?_, ?_, ?_⟩
      · rw [hU _ (by omega), c0]; rfl
      · rw [hU _ (by omega), show o + (i * 6 + 1) = o + i * 6 + 1 by omega, c1]; rfl
      · rw [hU _ (by omega), show o + (i * 6 + 2) = o + i * 6 + 2 by omega, c2]; rfl
      · rw [hU _ (by omega), show o + (i * 6 + 3) = o + i * 6 + 3 by omega, c3]; rfl
      · rw [hU _ (by omega), show o + (i * 6 + 4) = o + i * 6 + 4 by omega, c4]; rfl
      · rw [hU _ (by omega), show o + (i * 6 + 5) = o + i * 6 + 5 by omega, c5]; rfl
    · have hj' : j < n * 6 := by have := (List.getElem?_eq_some_iff.1 hj).1; simpa using this
      rw [hU j hj'] at hj
      obtain ⟨u', h1, -⟩ := key j hj'
      rw [h1] at hj ⊢
      exact hj
theorem own_dv {W : World} {B : Nat} {v : Value} {n : Nat} {U : List Value} {D : List AT.Dr} (h : W.ownsRow B 35 6 v n U) (hd : DV W U D) (hn : n = D.length) : DsAt W v D := by
  subst hn
  rcases h.2 with ⟨hv, h0⟩ | ⟨g, cap, cur, hv, hb, hg, _⟩
  · exact ⟨none, 0, by rw [hv, h0], .inl (List.eq_nil_of_length_eq_zero h0)⟩
  · refine ⟨_, cap, hv, ?_⟩
    subst hv
    refine .inr ⟨g, 0, rfl, (Array.getElem?_eq_some_iff.1 hg).1, fun i d hdi => ?_⟩
    have hi := (List.getElem?_eq_some_iff.1 hdi).1
    obtain ⟨ca, cn, cc, va, ha, c0, c1, c2, c3, c4, c5⟩ := hd.2.2 i d hdi
    rw [Nat.zero_add]
    exact ⟨ca, cn, cc, va, ha, (h.cellAt (i * 6) (by omega)).trans c0, (h.cellAt (i * 6 + 1) (by omega)).trans c1, (h.cellAt (i * 6 + 2) (by omega)).trans c2, (h.cellAt (i * 6 + 3) (by omega)).trans c3, (h.cellAt (i * 6 + 4) (by omega)).trans c4, (h.cellAt (i * 6 + 5) (by omega)).trans c5⟩
/-- An append, of perhaps nothing, in a statement that draws. -/
theorem step_append_any {P : Program} {w : World} {ops : Array Oper} {o : Oper} {a : Act} {K : Act → World → Prop} {Q : Exit → Act → World → Prop} {E : Prop} (hgd : o.guard = none) (s x : Operand) (t : TypeId)
    (ho : o.op = .call { callee := .builtin .append, args := #[s, x], argTypes := #[t, t] })
    (base : Nat) (e : TypeId) (i : TypeInfo) (z : Value) (size bytes : Nat) (ht : P.underlying t = some (.slice e)) (hi : P.info? e = some i) (hz : i.zero = some z)
    (hsize : i.size = size) (hby : i.bytes = bytes) (hzs : z.cells.size = size) (hsz : 0 < size)
    (v : Value) (n : Nat) (xs : List Value) (hs : a.eval s = v) (hown : w.ownsRow base e size v n xs)
    (ad : Addr) (m c : Nat) (news : List Value) (hx : a.eval x = .slice (some ad) m c) (hl : news.length = m * size) (hnews : ∀ j u, news[j]? = some u → w.cell? (ad.add j) = some u) (h1 : ∀ u ∈ news, u.oneCell' = true)
    (h63 : n + m ≤ maxLen) (hbytes : (n + m) * bytes ≤ 140737488355328) (hbase : base ≤ w.heap.size)
    (h : ∀ v' w', w'.ownsRow base e size v' (n + m) (xs ++ news) → w.grownBy w' v.ownBlock → K (a.put o.dst v') w') :
    if Region.wanted o (yielded ops a.tmps) = true then Oper.wp P o a w K Q else E := by
  have hw : Region.wanted o (yielded ops a.tmps) = true := by simp [Region.wanted, hgd]
  rw [if_pos hw]
  obtain ⟨v', w', hr, h2, h3, h4, h5⟩ := run_append_own_at (P := P) w base t o.type e i z size bytes ht hi hz hsize hby hzs hsz v n xs hown ad m c news hl hnews h1 h63 hbytes hbase
  unfold Oper.wp execOp
  simp only [ho, resolve, invoke, builtin, Sem.run_bind, Sem.run_pure, Result.andThen_ok, List.map_toArray, List.map_cons, List.map_nil, hs, hx, hr]
  exact h v' w' h2 h3
/-- .. where the operation is guarded, and wanted. -/
theorem step_append_w {P : Program} {w : World} {ops : Array Oper} {o : Oper} {a : Act} {K : Act → World → Prop} {Q : Exit → Act → World → Prop} {E : Prop} (hw : Region.wanted o (yielded ops a.tmps) = true) (s x : Operand) (t : TypeId)
    (ho : o.op = .call { callee := .builtin .append, args := #[s, x], argTypes := #[t, t] })
    (base : Nat) (e : TypeId) (i : TypeInfo) (z : Value) (size bytes : Nat) (ht : P.underlying t = some (.slice e)) (hi : P.info? e = some i) (hz : i.zero = some z)
    (hsize : i.size = size) (hby : i.bytes = bytes) (hzs : z.cells.size = size) (hsz : 0 < size)
    (v : Value) (n : Nat) (xs : List Value) (hs : a.eval s = v) (hown : w.ownsRow base e size v n xs)
    (ad : Addr) (m c : Nat) (news : List Value) (hx : a.eval x = .slice (some ad) m c) (hl : news.length = m * size) (hnews : ∀ j u, news[j]? = some u → w.cell? (ad.add j) = some u) (h1 : ∀ u ∈ news, u.oneCell' = true)
    (h63 : n + m ≤ maxLen) (hbytes : (n + m) * bytes ≤ 140737488355328) (hbase : base ≤ w.heap.size)
    (h : ∀ v' w', w'.ownsRow base e size v' (n + m) (xs ++ news) → w.grownBy w' v.ownBlock → (v'.ownBlock = v.ownBlock ∨ v'.ownBlock = some w.heap.size) → K (a.put o.dst v') w') :
    if Region.wanted o (yielded ops a.tmps) = true then Oper.wp P o a w K Q else E := by
  rw [if_pos hw]
  obtain ⟨v', w', hr, h2, h3, h4, h5⟩ := run_append_own_at (P := P) w base t o.type e i z size bytes ht hi hz hsize hby hzs hsz v n xs hown ad m c news hl hnews h1 h63 hbytes hbase
  unfold Oper.wp execOp
  simp only [ho, resolve, invoke, builtin, Sem.run_bind, Sem.run_pure, Result.andThen_ok, List.map_toArray, List.map_cons, List.map_nil, hs, hx, hr]
  exact h v' w' h2 h3 h5
theorem own_empty (w : World) (e : TypeId) (size B : Nat) (hB : B ≤ w.heap.size) : (w.alloc (.cells #[] e)).ownsRow B e size (.slice (some ⟨w.heap.size, 0, none⟩) 0 0) 0 [] :=
  ⟨by simp, .inr ⟨w.heap.size, 0, #[], rfl, hB, heap_alloc_new w _, Nat.le_refl _, Nat.zero_le _, by simp, by simp⟩⟩
theorem ptc_app (l l' : List (Int × Int)) : AT.ptc (l ++ l') = AT.ptc l ++ AT.ptc l' := by
  unfold AT.ptc
  rw [List.flatMap_append]
theorem ptc_take : ∀ (l : List (Int × Int)) (k : Nat), AT.ptc (l.take k) = (AT.ptc l).take (k * 2)
  | [], k => by simp [AT.ptc]
  | x :: l, 0 => by simp [AT.ptc]
  | x :: l, k + 1 => by
    rw [show (k + 1) * 2 = k * 2 + 1 + 1 by omega]
    show Value.int .i64 x.1 :: Value.int .i64 x.2 :: AT.ptc (l.take k) = Value.int .i64 x.1 :: Value.int .i64 x.2 :: (AT.ptc l).take (k * 2)
    rw [ptc_take l k]
theorem ptc_drop : ∀ (l : List (Int × Int)) (k : Nat), AT.ptc (l.drop k) = (AT.ptc l).drop (k * 2)
  | [], k => by simp [AT.ptc]
  | x :: l, 0 => by simp
  | x :: l, k + 1 => by
    rw [show (k + 1) * 2 = k * 2 + 1 + 1 by omega]
    show AT.ptc (l.drop k) = (AT.ptc l).drop (k * 2)
    exact ptc_drop l k
theorem ptc_one (l : List (Int × Int)) : ∀ u ∈ AT.ptc l, u.oneCell' = true := fun u hu => by
  obtain ⟨p, -, h⟩ := List.mem_flatMap.1 hu
  simp at h
  rcases h with rfl | rfl <;> rfl
/-- The values of a row of places that lies there. -/
theorem pt_cells {W : World} {g o n c : Nat} {P : List (Int × Int)} (h : PtAt W (.slice (some ⟨g, o, none⟩) n c) P) : ∀ j u, (AT.ptc P)[j]? = some u → W.cell? ⟨g, o + j, none⟩ = some u := by
  intro j u hj
  have hjl := (List.getElem?_eq_some_iff.1 hj).1
  rw [AT.ptc_len] at hjl
  obtain ⟨a', c', e, h⟩ := h
  injection e with e1 e2 e3
  subst e1
  rcases h with h | ⟨g', o', e4, hg, hc⟩
  · rw [h] at hjl
    simp at hjl
  · have := Option.some.inj e4
    injection this with e5 e6
    subst e5 e6
    obtain ⟨p, hp⟩ : ∃ p, P[j / 2]? = some p := ⟨P[j / 2]'(by omega), List.getElem?_eq_getElem _⟩
    obtain ⟨c0, c1⟩ := hc (j / 2) p hp
    obtain ⟨q0, q1⟩ := AT.ptc_at P (j / 2) p hp
    have hj2 : j % 2 = 0 ∨ j % 2 = 1 := by omega
    rcases hj2 with h | h
    · rw [show j = j / 2 * 2 by omega, q0] at hj
      rw [show o + j = o + j / 2 * 2 by omega, c0]
      exact hj
    · rw [show j = j / 2 * 2 + 1 by omega, q1] at hj
      rw [show o + j = o + j / 2 * 2 + 1 by omega, c1]
      exact hj
end Go.Proofs.Ytpmmincophaaiaa
