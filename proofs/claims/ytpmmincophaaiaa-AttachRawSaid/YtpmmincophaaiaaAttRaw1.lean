/- Glyphs with at most five anchors; an append from a row of the call's own. No conditions. -/
import Derived.Test.YtpmmincophaaiaaAttRaw0
namespace Go.Proofs.Ytpmmincophaaiaa.AT
def cutD (d : Dr) : Dr := ⟨d.anchors.take 5, d.hang, d.adv⟩
end Go.Proofs.Ytpmmincophaaiaa.AT
namespace Go.Proofs.Ytpmmincophaaiaa
set_option maxRecDepth 100000
set_option linter.unusedVariables false
open Go.RowKit Go.Deep
theorem AnAt.take {W : World} {a : Option Addr} {n c k : Nat} {D : List AT.An} (h : AnAt W (.slice a n c) D) (hk : k ≤ D.length) : AnAt W (.slice a k c) (D.take k) := by
  obtain ⟨a', c', e, h⟩ := h
  injection e with e1 e2 e3
  subst e1 e3
  refine ⟨a, c, by rw [List.length_take, Nat.min_eq_left hk], ?_⟩
  rcases h with h | ⟨g, o, e4, hg, hc⟩
  · exact .inl (by rw [h]; simp)
  · refine .inr ⟨g, o, e4, hg, fun i d hd => hc i d ?_⟩
    rw [List.getElem?_take] at hd
    split at hd
    · exact hd
    · simp at hd
theorem dv_one {W : World} {ca : Option Addr} {cn cc : Nat} {va : Value} {d : AT.Dr} (ha : AnAt W va d.anchors) : DV W [.slice ca cn cc, va, .int .i64 d.hang.1, .int .i64 d.hang.2.1, .int .i64 d.hang.2.2, .int .i64 d.adv] [d] := by
  obtain ⟨aa, ac, rfl, -⟩ := id ha
  refine ⟨rfl, fun u hu => by simp at hu; rcases hu with rfl | rfl | rfl | rfl | rfl | rfl <;> rfl, fun i e he => ?_⟩
  match i, he with
  | 0, he =>
    obtain rfl : d = e := by simpa using he
    exact ⟨ca, cn, cc, _, ha, rfl, rfl, rfl, rfl, rfl, rfl⟩
  | i + 1, he => simp at he
theorem OwnD.dv {W : World} {B : Nat} {v : Value} {X : List (AT.Dr × Value)} (h : OwnD W B v X) : DV W (drc X) (X.map Prod.fst) := by
  obtain ⟨hrow, han, -⟩ := h
  refine ⟨by rw [List.length_map]; exact hrow.1, fun u hu => ?_, fun i d hd => ?_⟩
  · unfold drc at hu
    obtain ⟨x, hx, hu⟩ := List.mem_flatMap.1 hu
    obtain ⟨a, c, e⟩ := own_shape (han x hx).1
    unfold drv at hu
    rw [e] at hu
    simp at hu
    rcases hu with rfl | rfl | rfl | rfl | rfl | rfl <;> rfl
  · rw [List.getElem?_map, Option.map_eq_some_iff] at hd
    obtain ⟨x, hx, rfl⟩ := hd
    exact ⟨none, 0, 0, x.2, own_an (han x (List.mem_of_getElem? hx)).1, drc_at X i x hx⟩
theorem own_rows {w : World} {B e size n : Nat} {v : Value} {xs : List Value} (h : w.ownsRow B e size v n xs) : (v = .slice none 0 0 ∧ n = 0 ∧ xs = []) ∨ ∃ g cap, v = .slice (some ⟨g, 0, none⟩) n cap ∧ ∀ j u, xs[j]? = some u → w.cell? ((⟨g, 0, none⟩ : Addr).add j) = some u := by
  rcases h.2 with ⟨hv, hn⟩ | ⟨g, cap, cur, hv, hb, hg, _⟩
  · exact .inl ⟨hv, hn, List.eq_nil_of_length_eq_zero (by rw [h.1, hn]; omega)⟩
  · exact .inr ⟨g, cap, hv, fun j u hj => by subst hv; exact h.cells (g := g) rfl j u hj⟩
/-- 'append(v, src...)' where src is a row that the call made. -/
theorem wpList_from {P : Program} (w : World) {ops : Array Oper} {rest : List Oper} {o : Oper} {a : Act} {Q : Exit → Act → World → Prop} (hgd : o.guard = none) (s x : Operand) (t : TypeId)
    (ho : o.op = .call { callee := .builtin .append, args := #[s, x], argTypes := #[t, t] })
    (base : Nat) (e : TypeId) (i : TypeInfo) (z : Value) (size bytes : Nat) (ht : P.underlying t = some (.slice e)) (hi : P.info? e = some i) (hz : i.zero = some z)
    (hsize : i.size = size) (hby : i.bytes = bytes) (hzs : z.cells.size = size) (hsz : 0 < size)
    (v : Value) (n : Nat) (xs : List Value) (hs : a.eval s = v) (hown : w.ownsRow base e size v n xs)
    (vx : Value) (B2 m : Nat) (U : List Value) (hx : a.eval x = vx) (hsrc : w.ownsRow B2 e size vx m U) (h1 : ∀ u ∈ U, u.oneCell' = true)
    (h63 : n + m ≤ maxLen) (hbytes : (n + m) * bytes ≤ 140737488355328) (hbase : base ≤ w.heap.size)
    (h : ∀ v' w', w'.ownsRow base e size v' (n + m) (xs ++ U) → w.grownBy w' v.ownBlock → wpList P ops Q rest (a.put o.dst v') w') : wpList P ops Q (o :: rest) a w := by
  rcases own_rows hsrc with ⟨rfl, rfl, rfl⟩ | ⟨g, cap, rfl, hc⟩
  · exact wpList_append_own_none hgd s x t ho base e i size ht hi v n xs hs hown hx (h v w (by simpa using hown) (World.grownBy.refl _ _))
  · exact wpList_append_own w hgd s x t ho base e i z size bytes ht hi hz hsize hby hzs hsz v n xs hs hown ⟨g, 0, none⟩ m cap U hx hsrc.1 hc h1 h63 hbytes hbase (fun v' w' h1 h2 h3 => h v' w' h1 h2)
end Go.Proofs.Ytpmmincophaaiaa
