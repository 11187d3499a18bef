/- The sizes of the keys of a memory, through all that is done with it. No conditions. -/
import Derived.Test.YtmnajongifdajaaMem41
namespace Go.Proofs.Ytmnajongifdajaa.ME
set_option linter.unusedVariables false
/-- The size of a key. -/
def szs (P : List En) (k : K4) : Option Int := (fnd k P).map En.size
/-- The same without some keys. -/
def gon (f : K4 → Option Int) (G : List K4) (y : K4) : Option Int := if y ∈ G then none else f y
theorem gon_nil (f : K4 → Option Int) : gon f [] = f := funext fun y => by unfold gon; simp
theorem gon_next (f : K4 → Option Int) (G : List K4) (x : K4) : (fun y => if y = x then none else gon f G y) = gon f (G ++ [x]) := funext fun y => by
  unfold gon
  by_cases h1 : y = x <;> by_cases h2 : y ∈ G <;> simp [h1, h2]
theorem fnd_cons (y : K4) (x : En) (P : List En) : fnd y (x :: P) = if x.key = y then some x else fnd y P := by
  unfold fnd
  rw [List.find?_cons]
  by_cases h : x.key = y <;> simp [h]
theorem fnd_app (y : K4) (A B : List En) : fnd y (A ++ B) = (fnd y A).or (fnd y B) := by
  unfold fnd
  rw [List.find?_append]
theorem fnd_nil (y : K4) : fnd y [] = none := rfl
theorem fnd_wo (y k : K4) : ∀ P : List En, fnd y (wo k P) = if y = k then none else fnd y P
  | [] => by simp [wo, fnd_nil]
  | x :: P => by
    have h := fnd_wo y k P
    have hw : wo k (x :: P) = if x.key = k then wo k P else x :: wo k P := by
      unfold wo
      rw [List.filter_cons]
      by_cases hx : x.key = k <;> simp [hx]
    rw [hw, fnd_cons]
    by_cases hx : x.key = k
    · rw [if_pos hx, h]
      by_cases hy : y = k
      · simp [hy]
      · rw [if_neg hy, if_neg hy, if_neg (fun e => hy (e.symm.trans hx))]
    · rw [if_neg hx, fnd_cons, h]
      by_cases hy : y = k
      · have h1 : ¬ x.key = y := fun e => hx (e.trans hy)
        rw [if_neg h1, if_pos hy, if_pos hy]
      · rw [if_neg hy, if_neg hy]
theorem wo_lenE (k : K4) : ∀ {P : List En}, (P.map En.key).Nodup → (wo k P).length + (if (fnd k P).isSome then 1 else 0) = P.length
  | [], _ => rfl
  | x :: P, hn => by
    rw [List.map_cons, List.nodup_cons] at hn
    have h := wo_lenE k (P := P) hn.2
    rw [fnd_cons]
    by_cases hx : x.key = k
    · have hw : wo k (x :: P) = P := by
        have h1 : wo k P = P := wo_none fun e he e2 => hn.1 (by rw [hx, ← e2]; exact List.mem_map.2 ⟨e, he, rfl⟩)
        unfold wo at h1 ⊢
        rw [List.filter_cons]
        simp only [hx, ne_eq, not_true_eq_false, decide_false]
        simpa using h1
      rw [hw, if_pos hx]
      simp
    · have hw : wo k (x :: P) = x :: wo k P := by
        unfold wo
        rw [List.filter_cons]
        simp [hx]
      rw [hw, if_neg hx, List.length_cons, List.length_cons]
      omega
theorem room_szs (bu : Int) : ∀ (R : List En) (t : Int), (R.map En.key).Nodup →
    (∀ y, fnd y (room bu t R).1 = if y ∈ (room bu t R).2 then none else fnd y R) ∧ (room bu t R).1.length + (room bu t R).2.length = R.length ∧ (room bu t R).2.Nodup ∧ ∀ y ∈ (room bu t R).2, (fnd y R).isSome = true
  | [], t, _ => by simp [room, fnd_nil]
  | x :: R, t, hn => by
    rw [List.map_cons, List.nodup_cons] at hn
    rw [room]
    split
    · simp
    · split
      · rename_i hp
        obtain ⟨h1, h2, h3, h4⟩ := room_szs bu R t hn.2
        refine ⟨fun y => ?_, by dsimp only; rw [List.length_cons, List.length_cons]; omega, h3, fun y hy => ?_⟩
        · dsimp only
          rw [fnd_cons, fnd_cons, h1]
          by_cases hx : x.key = y
          · have hg : y ∉ (room bu t R).2 := fun hy => by
              obtain ⟨z, hz, -, e⟩ := room_out bu R t y hy
              exact hn.1 (by rw [hx, ← e]; exact List.mem_map.2 ⟨z, hz, rfl⟩)
            rw [if_pos hx, if_neg hg, if_pos hx]
          · rw [if_neg hx, if_neg hx]
        · rw [fnd_cons]
          split
          · rfl
          · exact h4 y hy
      · obtain ⟨h1, h2, h3, h4⟩ := room_szs bu R (t - x.size) hn.2
        have hg : x.key ∉ (room bu (t - x.size) R).2 := fun hy => by
          obtain ⟨z, hz, -, e⟩ := room_out bu R _ _ hy
          exact hn.1 (by rw [← e]; exact List.mem_map.2 ⟨z, hz, rfl⟩)
        have hf : fnd x.key R = none := fnd_none fun e he e2 => hn.1 (by rw [← e2]; exact List.mem_map.2 ⟨e, he, rfl⟩)
        refine ⟨fun y => ?_, by dsimp only; rw [List.length_cons, List.length_cons]; omega, List.nodup_cons.2 ⟨hg, h3⟩, fun y hy => ?_⟩
        · dsimp only
          rw [fnd_cons, h1]
          by_cases hx : x.key = y
          · subst hx
            rw [if_neg hg, if_pos (by simp), hf]
          · rw [if_neg hx]
            have : y ∈ x.key :: (room bu (t - x.size) R).2 ↔ y ∈ (room bu (t - x.size) R).2 := by
              rw [List.mem_cons]
              exact ⟨fun h => h.resolve_left (fun e => hx e.symm), .inr⟩
            simp only [this]
        · rw [fnd_cons]
          split
          · rfl
          · rename_i hx
            rcases List.mem_cons.1 hy with h | h
            · exact absurd h.symm hx
            · exact h4 y h
section
variable {bu s : Int} {P Q : List En} {k ky : K4} {gs : List K4} {on : Bool}
theorem use_two (k : K4) (P : List En) : (use k P).2 = (fnd k P).isSome := by
  unfold use
  cases h : fnd k P <;> simp
theorem use_szs (k : K4) (P : List En) : szs (use k P).1 = szs P := funext fun y => by
  unfold szs use
  cases h : fnd k P with
  | none => rfl
  | some e =>
    dsimp only
    have he : e.key = k := by simpa using List.find?_some h
    rw [fnd_app, fnd_wo, fnd_cons, fnd_nil, he]
    by_cases hy : y = k
    · subst hy
      simp [h]
    · rw [if_neg hy, if_neg (fun e => hy e.symm)]
      simp
theorem pin_szs (k : K4) (on : Bool) (P : List En) : szs (pin k on P).1 = szs P := funext fun y => by
  unfold szs pin
  cases h : fnd k P with
  | none => rfl
  | some e =>
    dsimp only
    clear h
    induction P with
    | nil => rfl
    | cons x P ih =>
      have h1 : (pinE k on x).key = x.key := by unfold pinE; split <;> rfl
      have h2 : (pinE k on x).size = x.size := by unfold pinE; split <;> rfl
      rw [List.map_cons, fnd_cons, fnd_cons, h1]
      by_cases hx : x.key = y
      · simp [hx, h2]
      · rw [if_neg hx, if_neg hx, ih]
/-- 'Drop': what is given, and what is left. -/
theorem drop_szs (hn : (P.map En.key).Nodup) (k : K4) : (drop k P).2 = 0 ∧ (szs P k).isSome = true ∧ (∀ y, szs (drop k P).1 y = if y = k then none else szs P y) ∧ (drop k P).1.length = P.length - 1 ∨ (∃ er, (drop k P).2 = er ∧ er ≠ 0) ∧ (drop k P).1 = P := by
  have hl := wo_lenE k hn
  unfold drop
  cases h : fnd k P with
  | none => exact .inr ⟨⟨5, rfl, by decide⟩, rfl⟩
  | some e =>
    dsimp only
    split
    · exact .inr ⟨⟨51, rfl, by decide⟩, rfl⟩
    · refine .inl ⟨rfl, by unfold szs; rw [h]; rfl, fun y => ?_, ?_⟩
      · unfold szs
        dsimp only
        rw [fnd_wo]
        split <;> rfl
      · dsimp only
        rw [h] at hl
        simp at hl
        omega
theorem put_three (bu s : Int) (ky : K4) (P : List En) : (∃ er, put bu ky s P = (P, [], er) ∧ er ≠ 0) ∨ ∃ Q g, put bu ky s P = (Q, g, 0) := by
  unfold put
  split
  · exact .inl ⟨1, rfl, by decide⟩
  · split
    · exact .inl ⟨50, rfl, by decide⟩
    · exact .inr ⟨_, _, rfl⟩
theorem put_szs (hn : (P.map En.key).Nodup) (h : put bu ky s P = (Q, gs, 0)) :
    gon (fun y => if y = ky then some s else szs P y) gs = szs Q ∧ Q.length + gs.length = (if (szs P ky).isSome then P.length else P.length + 1) ∧ gs.Nodup ∧ ∀ y ∈ gs, y ≠ ky ∧ (szs P y).isSome = true := by
  obtain ⟨hQ, hG⟩ := put_zero h
  have hnw : ((wo ky P).map En.key).Nodup := hn.sublist (List.Sublist.map _ List.filter_sublist)
  obtain ⟨h1, h2, h3, h4⟩ := room_szs bu (wo ky P) (sm (wo ky P) + s) hnw
  rw [← hG] at h1 h2 h3 h4
  generalize hK : (room bu (sm (wo ky P) + s) (wo ky P)).1 = K at *
  have hl := wo_lenE ky hn
  have hgk : ∀ y ∈ gs, y ≠ ky ∧ (szs P y).isSome = true := fun y hy => by
    have := h4 y hy
    rw [fnd_wo] at this
    by_cases e : y = ky
    · rw [if_pos e] at this
      cases this
    · rw [if_neg e] at this
      exact ⟨e, by unfold szs; rw [Option.isSome_map]; exact this⟩
  refine ⟨funext fun y => ?_, ?_, h3, hgk⟩
  · unfold gon
    have hq : szs Q y = ((fnd y K).or (fnd y [mkE ky s (pinOf ky P)])).map En.size := by unfold szs; rw [hQ, fnd_app]
    rw [hq, h1, fnd_cons, fnd_nil, mk_key, fnd_wo]
    by_cases hy : y ∈ gs
    · rw [if_pos hy, if_pos hy, if_neg (fun e => (hgk y hy).1 e.symm)]
      rfl
    · rw [if_neg hy, if_neg hy]
      by_cases e : y = ky
      · subst e
        simp [mkE]
      · show (if y = ky then some s else szs P y) = _
        rw [if_neg e, if_neg e, if_neg (fun x => e x.symm)]
        simp [szs]
  · rw [hQ, List.length_append]
    unfold szs
    rw [Option.isSome_map]
    simp only [List.length_cons, List.length_nil]
    split at hl <;> rename_i hx
    · rw [if_pos hx]
      omega
    · rw [if_neg hx]
      omega
theorem szs_at {i : Nat} {x : En} (hn : (P.map En.key).Nodup) (h : P[i]? = some x) : szs P x.key = some x.size := by
  unfold szs
  rw [fnd_self hn (List.mem_of_getElem? h)]
  rfl
theorem sm_next {i : Nat} {x : En} (h : P[i]? = some x) : sm (P.take (i + 1)) = sm (P.take i) + x.size := by
  rw [take_at h, sm_app, sm_cons, sm_nil]
  omega
theorem sm_takeB (hn : ∀ e ∈ P, 0 ≤ e.size ∧ e.size ≤ 65536) (i : Nat) : 0 ≤ sm (P.take i) ∧ sm (P.take i) ≤ sm P := by
  have h1 := sm_nonneg (P := P.take i) (fun e he => hn e (List.mem_of_mem_take he))
  have h2 := sm_nonneg (P := P.drop i) (fun e he => hn e (List.mem_of_mem_drop he))
  have h3 : sm P = sm (P.take i) + sm (P.drop i) := by rw [← sm_app, List.take_append_drop]
  omega
end
end Go.Proofs.Ytmnajongifdajaa.ME
namespace Go.Proofs.Ytmnajongifdajaa
set_option maxRecDepth 100000
set_option linter.unusedVariables false
open Go.RowKit Go.Maps ME
/-- A memory and, beside it, the law's own map of sizes. -/
structure Bg (w w2 : World) (A M mb root : Nat) (bu : Int) (k m : Nat) (P : List En) (c : Nat) (f : K4 → Option Int) (W : World) : Prop where
  ms : ∃ F, MS W M mb root bu P k F ∧ ∀ b, F b → w2.heap.size ≤ b ∧ b ≠ A
  mz : MSz W A m c f
  bel : Below w.heap.size w W
  g1 : w.heap.size ≤ w2.heap.size
  g2 : w2.heap.size ≤ A
section
variable {w w2 W W' : World} {A M mb root : Nat} {bu : Int} {k k' m m' : Nat} {P P' : List En} {c c' : Nat} {f f' : K4 → Option Int} {F : Nat → Prop}
theorem Bg.below (h : Bg w w2 A M mb root bu k m P c f W) (hb : Below W.heap.size W W') : Bg w w2 A M mb root bu k m P c f W' := by
  obtain ⟨⟨F, h1, h2⟩, h3, h4, h5, h6⟩ := h
  exact ⟨⟨F, h1.below hb, h2⟩, h3.same (hb.block A h3.lt), bnext h4 hb, h5, h6⟩
theorem Bg.done (h : Bg w w2 A M mb root bu k m P c f W) (hF : ∀ b, F b → w2.heap.size ≤ b ∧ b ≠ A) (s : MSr W F W' M mb root bu P' k') : Bg w w2 A M mb root bu k' m P' c f W' := by
  obtain ⟨-, h3, h4, h5, h6⟩ := h
  obtain ⟨hf, F2, hm, hn⟩ := s
  have hA := h3.lt
  refine ⟨⟨F2, hm, fun b hb => (hn b hb).elim (hF b) (fun x => ⟨by omega, by omega⟩)⟩, h3.same (hf.block A h3.lt (fun x => (hF A x).2 rfl)), hf.below w h4 (fun b hb => Nat.le_trans h5 (hF b hb).1), h5, h6⟩
theorem Bg.turned (h : Bg w w2 A M mb root bu k m P c f W) (hz : MSz W' A m' c' f') (ht : W.mapTurned W' A) : Bg w w2 A M mb root bu k m' P c' f' W' := by
  obtain ⟨⟨F, h1, h2⟩, h3, h4, h5, h6⟩ := h
  have hf : FrS (fun b => b = A) W W' := FrS.turned ht rfl
  exact ⟨⟨F, h1.kept hf (fun b hb e => (h2 b hb).2 e), h2⟩, hz, hf.below w h4 (fun b hb => by omega), h5, h6⟩
theorem Bg.mono (h : Bg w w2 A M mb root bu k m P c f W) (hk : k ≤ k') : Bg w w2 A M mb root bu k' m P c f W := by
  obtain ⟨⟨F, h1, h2⟩, h3, h4, h5, h6⟩ := h
  exact ⟨⟨F, h1.mono hk, h2⟩, h3, h4, h5, h6⟩
theorem Bg.re (h : Bg w w2 A M mb root bu k m P c f W) (hc : c = c') (hf : f = f') : Bg w w2 A M mb root bu k m P c' f' W := by
  subst hc hf
  exact h
theorem Bg.ok (h : Bg w w2 A M mb root bu k m P c f W) : ME.Ok bu P := by
  obtain ⟨⟨F, h1, h2⟩, -⟩ := h
  exact h1.ok
theorem Bg.l1 (h : Bg w w2 A M mb root bu k m P c f W) : P.length ≤ k := by
  obtain ⟨⟨F, h1, h2⟩, -⟩ := h
  exact h1.l1
end
end Go.Proofs.Ytmnajongifdajaa
