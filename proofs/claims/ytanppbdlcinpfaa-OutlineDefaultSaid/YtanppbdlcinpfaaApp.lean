/- One law for an append of a slice, whatever the shape of what is appended: nil, empty or not, at any address. No conditions. -/
import Derived.Test.YtanppbdlcinpfaaBase
import Derived.Laws.AppendOwnNone
namespace Go.Proofs.Ytanppbdlcinpfaa
open Go.RowKit

/-- What is read out of a slice value: it is nil, or its cells lie there. -/
def Src (w : World) (v : Value) (U : List Value) : Prop := ∃ ao c, v = .slice ao U.length c ∧ ((U = [] ∧ (ao = none → c = 0)) ∨ ∃ g o, ao = some ⟨g, o, none⟩ ∧ g < w.heap.size ∧ ∀ i, i < U.length → w.cell? ⟨g, o + i, none⟩ = some (U.getD i (.bool false)))
theorem Src.out {w : World} {v : Value} {U : List Value} (h : Src w v U) : ∃ ao c, v = .slice ao U.length c ∧ ((U = [] ∧ (ao = none → c = 0)) ∨ ∃ g o, ao = some ⟨g, o, none⟩ ∧ g < w.heap.size ∧ ∀ i, i < U.length → w.cell? ⟨g, o + i, none⟩ = some (U.getD i (.bool false))) := h
theorem Src.row {w : World} {v : Value} {U : List Value} (h : Src w v U) : RowAt w v U := by
  obtain ⟨ao, c, rfl, ⟨h, _⟩ | h⟩ := h.out
  · exact ⟨ao, c, rfl, .inl h⟩
  · exact ⟨ao, c, rfl, .inr h⟩
theorem Src.keep {w w' : World} {v : Value} {U : List Value} (h : Src w v U) (hb : Below w.heap.size w w') : Src w' v U := by
  obtain ⟨a, cap, rfl, h | ⟨g, o, rfl, hg, hc⟩⟩ := h.out
  · exact ⟨a, cap, rfl, Or.inl h⟩
  · exact ⟨_, cap, rfl, Or.inr ⟨g, o, rfl, Nat.lt_of_lt_of_le hg hb.size, fun i hi => (hb.cell (p := ⟨g, o + i, none⟩) hg).trans (hc i hi)⟩⟩
theorem Src.nil (w : World) : Src w (.slice none 0 0) [] := ⟨none, 0, rfl, .inl ⟨rfl, fun _ => rfl⟩⟩
theorem Src.emp (w : World) {ao : Option Addr} {c : Nat} (h : ao = none → c = 0) : Src w (.slice ao 0 c) [] := ⟨ao, c, rfl, .inl ⟨rfl, h⟩⟩
theorem Src.one {w : World} {g : Nat} {u : Value} {c : Nat} (h : w.cell? ⟨g, 0, none⟩ = some u) : Src w (.slice (some ⟨g, 0, none⟩) 1 c) [u] :=
  ⟨_, c, rfl, .inr ⟨g, 0, rfl, World.block_lt_of_cell? w ⟨g, 0, none⟩ h, fun i hi => by
    obtain rfl : i = 0 := by simpa using hi
    simpa using h⟩⟩
theorem Src.drop {w : World} {a : Option Addr} {n cap k : Nat} {U : List Value} (h : Src w (.slice a n cap) U) (hk : k ≤ n) {ao : Option Addr} (hao : ao = none → a = none) (hak : k < n → ∀ g o, a = some ⟨g, o, none⟩ → ao = some ⟨g, o + k, none⟩) : Src w (.slice ao (n - k) (cap - k)) (U.drop k) := by
  obtain ⟨a', cap', he, h⟩ := h.out
  injection he with h1 h2 h3
  subst h1 h3
  have hl : n - k = (U.drop k).length := by simp; omega
  refine ⟨ao, cap - k, congrArg (fun z => Value.slice ao z (cap - k)) hl, ?_⟩
  rcases h with ⟨h, h'⟩ | ⟨g, o, rfl, hg, hc⟩
  · exact .inl ⟨by simp [h], fun e => by have := h' (hao e); omega⟩
  · by_cases hkl : k < U.length
    · exact .inr ⟨g, o + k, hak (by omega) _ _ rfl, hg, fun i hi => by
        have hi' : i < U.length - k := by simpa using hi
        rw [Nat.add_assoc, hc (k + i) (by omega)]
        simp [List.getD]⟩
    · exact .inl ⟨by simp; omega, fun e => by have := hao e; simp at this⟩
theorem Src.take {w : World} {a : Option Addr} {n cap k : Nat} {U : List Value} (h : Src w (.slice a n cap) U) (hk : k ≤ n) : Src w (.slice a k cap) (U.take k) := by
  obtain ⟨a', cap', he, h⟩ := h.out
  injection he with h1 h2 h3
  subst h1 h3
  have hl : k = (U.take k).length := by simp; omega
  refine ⟨a, cap, congrArg (fun z => Value.slice a z cap) hl, ?_⟩
  rcases h with ⟨h, h'⟩ | ⟨g, o, rfl, hg, hc⟩
  · exact .inl ⟨by simp [h], h'⟩
  · refine .inr ⟨g, o, rfl, hg, fun i hi => ?_⟩
    have hi' : i < k ∧ i < U.length := by simp at hi; omega
    rw [hc i hi'.2]
    simp [List.getD, hi'.1]
theorem own_src {w : World} {B e : Nat} {v : Value} {U : List Value} {n : Nat} (h : w.ownsRow B e 1 v n U) (hn : n = U.length) : Src w v U := by
  subst hn
  rcases h.2 with ⟨hv, hn⟩ | ⟨g, cap, cur, hv, hb, hg, _⟩
  · exact ⟨none, 0, by rw [hv, hn], .inl ⟨List.eq_nil_of_length_eq_zero hn, fun _ => rfl⟩⟩
  · subst hv
    exact ⟨_, cap, rfl, .inr ⟨g, 0, rfl, (Array.getElem?_eq_some_iff.1 hg).1, fun i hi => by
      have := h.cells (g := g) rfl i _ (show U[i]? = some (U.getD i (.bool false)) by simp [List.getD, hi])
      rw [Nat.zero_add]
      rw [show ((⟨g, 0, none⟩ : Addr).add i) = ⟨g, i, none⟩ by cases i <;> simp [Addr.add]] at this
      exact this⟩⟩
/-- A row that the text writes out, just laid. -/
theorem own_lit (w : World) (us : List Value) (e : TypeId) (B : Nat) (hB : B ≤ w.heap.size) (hm : us.length ≤ maxLen) :
    (w.alloc (.cells us.toArray e)).ownsRow B e 1 (.slice (some ⟨w.heap.size, 0, none⟩) us.length us.length) us.length us :=
  ⟨by simp, .inr ⟨w.heap.size, us.length, us.toArray, rfl, hB, heap_alloc_new w _, Nat.le_refl _, hm, by simp, by simp⟩⟩

/-- 'append(v, src...)'. -/
theorem wpList_app {P : Program} (w : World) {ops : Array Oper} {rest : List Oper} {o : Oper} {a : Act} {Q : Exit → Act → World → Prop} (hgd : o.guard = none) (s x : Operand) (t : TypeId)
    (ho : o.op = .call { callee := .builtin .append, args := #[s, x], argTypes := #[t, t] })
    (base : Nat) (e : TypeId) (i : TypeInfo) (z : Value) (bytes : Nat) (ht : P.underlying t = some (.slice e)) (hi : P.info? e = some i) (hz : i.zero = some z)
    (hsize : i.size = 1) (hby : i.bytes = bytes) (hzs : z.cells.size = 1)
    (v : Value) (n : Nat) (xs : List Value) (hs : a.eval s = v) (hown : w.ownsRow base e 1 v n xs)
    (vx : Value) (U : List Value) (hx : a.eval x = vx) (hS : Src w vx U) (h1 : ∀ u ∈ U, u.oneCell' = true)
    (h63 : n + U.length ≤ maxLen) (hbytes : (n + U.length) * bytes ≤ 140737488355328) (hbase : base ≤ w.heap.size)
    (h : ∀ v' w', w'.ownsRow base e 1 v' (n + U.length) (xs ++ U) → w.grownBy w' v.ownBlock → (v' = .slice none 0 0 ↔ v = .slice none 0 0 ∧ U.length = 0) → wpList P ops Q rest (a.put o.dst v') w') : wpList P ops Q (o :: rest) a w := by
  obtain ⟨ao, c, rfl, hU⟩ := hS.out
  clear hS
  rcases hU with ⟨hU, hc⟩ | ⟨g, of, rfl, hg, hcells⟩
  · subst hU
    cases ao with
    | none =>
      obtain rfl := hc rfl
      refine wpList_append_own_none hgd s x t ho base e i 1 ht hi v n xs hs hown (by simpa using hx) (h v w (by simpa using hown) (World.grownBy.refl _ _) (by simp))
    | some ad =>
      refine wpList_append_own w hgd s x t ho base e i z 1 bytes ht hi hz hsize hby hzs (by decide) v n xs hs hown ad 0 c [] (by simpa using hx) (by simp) (by simp) (by simp) (by simpa using h63) (by simpa using hbytes) hbase (fun v' w' h1 h2 h3 => h v' w' (by simpa using h1) h2 (by simpa using h3))
  · refine wpList_append_own w hgd s x t ho base e i z 1 bytes ht hi hz hsize hby hzs (by decide) v n xs hs hown ⟨g, of, none⟩ U.length c U hx (by simp) (fun j u hj => ?_) h1 h63 hbytes hbase h
    have hj' := List.getElem?_eq_some_iff.1 hj
    rw [Addr.add_lit, hcells j hj'.1]
    simp [List.getD, hj]
theorem ints_one (L : List Int) : ∀ u ∈ L.map (Value.int .i64), u.oneCell' = true := fun u hu => by
  obtain ⟨x, _, rfl⟩ := List.mem_map.1 hu
  rfl
end Go.Proofs.Ytanppbdlcinpfaa
