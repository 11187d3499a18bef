/- A row of the map of what is due grows by one time. No conditions. -/
import Derived.Test.YtgphdgalcbcamaaLn22
namespace Go.Proofs.Ytgphdgalcbcamaa
set_option maxRecDepth 100000
set_option linter.unusedVariables false
open Go.RowKit Go.Deep
theorem own_du {W : World} {B e n : Nat} {v : Value} {U : List Value} (h : W.ownsRow B e 1 v n U) : Du v ∧ Cap v := by
  rcases h.2 with ⟨hv, hn⟩ | ⟨g, cap, cur, hv, _, _, h1, h2, _⟩
  · exact ⟨.inl hv, fun a n c e => by rw [hv] at e; injection e with _ e1 e2; subst e1 e2; exact ⟨Nat.le_refl _, by simp [maxLen]⟩⟩
  · exact ⟨.inr ⟨g, 0, n, cap, hv⟩, fun a n' c e => by rw [hv] at e; injection e with _ e1 e2; subst e1 e2; exact ⟨h1, h2⟩⟩
/-- The rows, of which row i holds its first n times. -/
def LJ (i : Nat) (L : Nat → List Int) (A : Int) (n : Nat) (y : Nat) : List Int := if y = i then (List.range n).map (fun (j : Nat) => A + (j : Int)) else L y
/-- Row i of the map is owned, and lies apart from all others. -/
structure DrO (w : World) (m0 : Nat) (V : World) (M mb : Nat) (T : List Tr) (k : Nat) (P : List Pc) (N : Nat) (f : Nat → Value) (L : Nat → List Int) (H : Nat → Prop) (i n : Nat) : Prop where
  dr : Dr w m0 V M mb T k P N f L H
  own : V.ownsRow 0 3 1 (f i) n ((L i).map (Value.int .i64))
  apart : ∀ j, j ≠ i → ∀ q, (f j).ownBlock = some q → (f i).ownBlock ≠ some q
section
variable {w V V' : World} {m0 M mb k N i n : Nat} {T : List Tr} {P : List Pc} {f : Nat → Value} {L : Nat → List Int} {H : Nat → Prop}
theorem DrO.below (h : DrO w m0 V M mb T k P N f L H i n) (hb : Below V.heap.size V V') : DrO w m0 V' M mb T k P N f L H i n := ⟨h.dr.below hb, own_below h.own hb, h.apart⟩
theorem DrO.app (h : DrO w m0 V M mb T k P N f L H i n) (hi : i < 256) (hN : N < 1000000000) (x : Int) (v' : Value)
    (ho : V'.ownsRow 0 3 1 v' (n + 1) ((L i).map (Value.int .i64) ++ [.int .i64 x])) (hg : V.grownBy V' (f i).ownBlock) (hat : v'.ownBlock = (f i).ownBlock ∨ v'.ownBlock = some V.heap.size) :
    ∃ W', (Instr.mapUpdate 38 (.map (some mb)) (.string (LN.txt i)) v').run Try.prog V' = .ok () W' ∧ DrO w m0 W' M mb T k P (N + 1) (fun y => if y = i then v' else f y) (fun y => if y = i then L i ++ [x] else L y) (fun b => H b ∨ v'.ownBlock = some b) i (n + 1) ∧ FrS H V W' := by
  obtain ⟨F, g1, g2, g3⟩ := h.dr.out
  have hf1 : FrS (fun b => (f i).ownBlock = some b) V V' := FrS.grown hg (fun r e => e)
  have hH := (h.dr.row i).2
  have hmb := h.dr.map.lt
  have hM : MDu V' mb N f := h.dr.map.same (hf1.block mb hmb (fun e => (hH mb e).2 rfl))
  obtain ⟨W', hp, hm, ht⟩ := hM.put i hi hN v' (own_du ho).1
  have hf2 : FrS (fun b => b = mb) V' W' := FrS.turned ht rfl
  have hlt := ho.lt
  have hv' : ∀ q, v'.ownBlock = some q → (H q ∨ q = V.heap.size) ∧ q ≠ mb := fun q e => by
    rcases hat with h1 | h1
    · exact ⟨.inl (hH q (h1 ▸ e)).1, (hH q (h1 ▸ e)).2⟩
    · rw [h1] at e
      have e := Option.some.inj e
      exact ⟨.inr e.symm, by omega⟩
  have hsz : V.heap.size ≤ W'.heap.size := Nat.le_trans hf1.size hf2.size
  have hr : IntsAt V' v' (L i ++ [x]) := by
    have h1 := own_srcN ho
    have h2 : (L i ++ [x]).length = n + 1 := by
      have := h.own.1
      rw [List.length_map] at this
      rw [List.length_append, List.length_singleton]
      omega
    unfold IntsAt
    rw [h2, List.map_append]
    exact h1
  have hm0 : m0 ≤ V.heap.size := Nat.le_trans (h.dr.hb mb h.dr.mbH).1 (Nat.le_of_lt hmb)
  refine ⟨W', hp, ⟨⟨⟨F, (g1.kept hf1 (fun b hb e => g2 b hb (hH b e).1)).kept hf2 (fun b hb e => g2 b hb (by rw [e]; exact h.dr.mbH)), fun b hb hx => ?_, g3⟩, hm, fun j => ?_, .inl h.dr.mbH, fun b hb => ?_, ?_, h.dr.le, fun j => ?_⟩, ?_, fun j hj q e => ?_⟩, (hf1.mono (fun b e => (hH b e).1)).trans (hf2.mono (fun b e => by rw [e]; exact h.dr.mbH))⟩
  · rcases hx with hx | hx
    · exact g2 b hb hx
    · rcases (hv' b hx).1 with h1 | h1
      · exact g2 b hb h1
      · have := g1.lt b hb
        omega
  · by_cases e : j = i
    · simp only [if_pos e]
      exact ⟨hr.frame hf2 (fun q e hs => (hv' q e).2 hs), fun q e => ⟨.inr e, (hv' q e).2⟩⟩
    · simp only [if_neg e]
      exact ⟨((h.dr.row j).1.frame hf1 (fun q e1 e2 => h.apart j e q e1 e2)).frame hf2 (fun q e1 e2 => ((h.dr.row j).2 q e1).2 e2), fun q e1 => ⟨.inl ((h.dr.row j).2 q e1).1, ((h.dr.row j).2 q e1).2⟩⟩
  · rcases hb with hb | hb
    · have := h.dr.hb b hb
      omega
    · have h2 := Nat.lt_of_lt_of_le (hlt b hb).2 hf2.size
      rcases (hv' b hb).1 with h1 | h1
      · have := h.dr.hb b h1
        omega
      · omega
  · exact hf2.below w (hf1.below w h.dr.bel (fun b e => Nat.le_trans h.dr.le (h.dr.hb b (hH b e).1).1)) (fun b e => by rw [e]; exact Nat.le_trans h.dr.le (h.dr.hb mb h.dr.mbH).1)
  · by_cases e : j = i
    · simp only [if_pos e]
      exact (own_du ho).2
    · simp only [if_neg e]
      exact h.dr.cap j
  · simp only [if_true]
    rw [List.map_append]
    exact hf2.own ho (fun q e hs => (hv' q e).2 hs)
  · simp only [if_true, if_neg hj] at e ⊢
    intro e2
    rcases hat with h1 | h1
    · exact h.apart j hj q e (h1.symm.trans e2)
    · rw [h1] at e2
      have := Option.some.inj e2
      have := h.dr.hb q ((h.dr.row j).2 q e).1
      omega
/-- The first time of a row: it is none yet. -/
theorem Dr.none_yet (h : Dr w m0 V M mb T k P N f L H) (hf : f i = .slice Option.none 0 0) (hL : L i = []) : DrO w m0 V M mb T k P N f L H i 0 :=
  ⟨h, by rw [hf, hL]; exact World.ownsRow_nil _ _ _ _, fun j _ q _ e => by rw [hf] at e; cases e⟩
end
end Go.Proofs.Ytgphdgalcbcamaa
