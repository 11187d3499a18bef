/- A key that is pinned, through any act. No conditions. -/
import Derived.Test.YtmnajongifdajaaMem36
namespace Go.Proofs.Ytmnajongifdajaa.ME
set_option linter.unusedVariables false
section
variable {k x : K4} {P : List En} {bu s : Int}
def Pd (k : K4) (P : List En) : Prop := ∃ e ∈ P, e.key = k ∧ e.pin = true
theorem uniq : ∀ {P : List En}, (P.map En.key).Nodup → ∀ {a b : En}, a ∈ P → b ∈ P → a.key = b.key → a = b
  | [], _, a, b, ha, _, _ => by cases ha
  | y :: P, h, a, b, ha, hb, hk => by
    rw [List.map_cons, List.nodup_cons] at h
    rcases List.mem_cons.1 ha with ea | ha' <;> rcases List.mem_cons.1 hb with eb | hb'
    · rw [ea, eb]
    · exact absurd (List.mem_map.2 ⟨b, hb', by rw [← hk, ea]⟩) h.1
    · exact absurd (List.mem_map.2 ⟨a, ha', by rw [hk, eb]⟩) h.1
    · exact uniq h.2 ha' hb' hk
theorem fnd_key {e : En} (h : fnd k P = some e) : e.key = k := by
  have := List.find?_some h
  simpa using this
theorem Pd.fnd (h : Pd k P) (hn : (P.map En.key).Nodup) : ∃ e, ME.fnd k P = some e ∧ e ∈ P ∧ e.key = k ∧ e.pin = true := by
  obtain ⟨e, he, hk, hp⟩ := h
  cases hf : ME.fnd k P with
  | none =>
    have := List.find?_eq_none.1 hf e he
    exact absurd hk (by simpa using this)
  | some y =>
    have hy := fnd_key hf
    obtain rfl : y = e := uniq hn (fnd_mem hf) he (by rw [hy, hk])
    exact ⟨y, rfl, he, hk, hp⟩
theorem Pd.use (h : Pd k P) (hn : (P.map En.key).Nodup) : Pd k (use x P).1 := by
  obtain ⟨e, he, hk, hp⟩ := h
  unfold ME.use
  split
  · exact ⟨e, he, hk, hp⟩
  · rename_i y hy
    by_cases hx : e.key = x
    · obtain rfl : y = e := uniq hn (fnd_mem hy) he (by rw [fnd_key hy, hx])
      exact ⟨y, by simp, hk, hp⟩
    · exact ⟨e, List.mem_append.2 (.inl (List.mem_filter.2 ⟨he, by simpa using hx⟩)), hk, hp⟩
theorem Pd.pin {on : Bool} (h : Pd k P) (ho : x = k → on = true) : Pd k (pin x on P).1 := by
  obtain ⟨e, he, hk, hp⟩ := h
  unfold ME.pin
  split
  · exact ⟨e, he, hk, hp⟩
  · refine ⟨pinE x on e, List.mem_map.2 ⟨e, he, rfl⟩, ?_, ?_⟩
    · unfold pinE; split <;> exact hk
    · unfold pinE
      split
      · rename_i hx
        exact ho (by rw [← hx, hk])
      · exact hp
theorem Pd.drop (h : Pd k P) (hx : x ≠ k) : Pd k (drop x P).1 := by
  obtain ⟨e, he, hk, hp⟩ := h
  unfold ME.drop
  split
  · exact ⟨e, he, hk, hp⟩
  · split
    · exact ⟨e, he, hk, hp⟩
    · exact ⟨e, List.mem_filter.2 ⟨he, by simpa [hk] using fun y => hx y.symm⟩, hk, hp⟩
theorem Pd.drop_self (h : Pd k P) (hn : (P.map En.key).Nodup) : ME.drop k P = (P, 51) := by
  obtain ⟨e, h1, _, _, h4⟩ := h.fnd hn
  unfold ME.drop
  rw [h1]
  simp [h4]
theorem room_pd (bu : Int) : ∀ (R : List En) (t : Int), ∀ e ∈ R, e.pin = true → e ∈ (room bu t R).1
  | [], t, e, he, _ => he
  | y :: R, t, e, he, hp => by
    unfold room
    split
    · exact he
    · split
      · rcases List.mem_cons.1 he with rfl | h
        · simp
        · exact List.mem_cons.2 (.inr (room_pd bu R _ e h hp))
      · rename_i hy
        rcases List.mem_cons.1 he with rfl | h
        · exact absurd hp hy
        · exact room_pd bu R _ e h hp
theorem room_out (bu : Int) : ∀ (R : List En) (t : Int), ∀ g ∈ (room bu t R).2, ∃ e ∈ R, e.pin = false ∧ e.key = g
  | [], t, g, hg => by cases hg
  | y :: R, t, g, hg => by
    unfold room at hg
    split at hg
    · cases hg
    · split at hg
      · obtain ⟨e, he, h⟩ := room_out bu R _ g hg
        exact ⟨e, by simp [he], h⟩
      · rename_i hy
        rcases List.mem_cons.1 hg with rfl | h
        · exact ⟨y, by simp, by simpa using hy, rfl⟩
        · obtain ⟨e, he, h⟩ := room_out bu R _ g h
          exact ⟨e, by simp [he], h⟩
theorem Pd.put (h : Pd k P) (hn : (P.map En.key).Nodup) : Pd k (put bu x s P).1 ∧ ∀ g ∈ (put bu x s P).2.1, g ≠ k := by
  have hh := h
  obtain ⟨e, he, hk, hp⟩ := h
  unfold ME.put
  split
  · exact ⟨hh, fun g hg => by cases hg⟩
  · split
    · exact ⟨hh, fun g hg => by cases hg⟩
    · constructor
      · by_cases hx : x = k
        · subst hx
          obtain ⟨y, h1, _, _, h4⟩ := hh.fnd hn
          refine ⟨mkE x s (pinOf x P), by simp, rfl, ?_⟩
          show pinOf x P = true
          unfold pinOf
          rw [h1]
          exact h4
        · exact ⟨e, List.mem_append.2 (.inl (room_pd _ _ _ _ (List.mem_filter.2 ⟨he, by simpa [hk] using fun y => hx y.symm⟩) hp)), hk, hp⟩
      · intro g hg hgk
        obtain ⟨y, hy, hyp, hyk⟩ := room_out _ _ _ _ hg
        have := uniq hn (List.mem_filter.1 hy).1 he (by rw [hyk, hgk, hk])
        rw [this, hp] at hyp
        exact absurd hyp (by decide)
theorem Pd.end (h : Pd k P) (hn : (P.map En.key).Nodup) : (ME.use k P).2 = true ∧ ∀ Q, (Q.map En.key).Nodup → Pd k Q → (ME.pin k false Q).2 = 0 ∧ (ME.drop k (ME.pin k false Q).1).2 = 0 ∧ (ME.use k (ME.drop k (ME.pin k false Q).1).1).2 = false := by
  obtain ⟨e, h1, _, _, _⟩ := h.fnd hn
  refine ⟨by unfold ME.use; rw [h1], fun Q hQ hpd => ?_⟩
  obtain ⟨y, f1, f2, f3, f4⟩ := hpd.fnd hQ
  have e1 : ME.pin k false Q = (Q.map (pinE k false), 0) := by unfold ME.pin; rw [f1]
  have e2 : ∃ z, ME.fnd k (Q.map (pinE k false)) = some z ∧ z.pin = false := by
    cases hf : ME.fnd k (Q.map (pinE k false)) with
    | none =>
      have := List.find?_eq_none.1 hf (pinE k false y) (List.mem_map.2 ⟨y, f2, rfl⟩)
      exact absurd (show (pinE k false y).key = k by unfold pinE; split <;> exact f3) (by simpa using this)
    | some z =>
      refine ⟨z, rfl, ?_⟩
      obtain ⟨u, hu, rfl⟩ := List.mem_map.1 (fnd_mem hf)
      have hk := fnd_key hf
      have huk : u.key = k := by unfold pinE at hk; split at hk <;> exact hk
      unfold pinE
      rw [if_pos huk]
  obtain ⟨z, g1, g2⟩ := e2
  have e3 : ME.drop k (Q.map (pinE k false)) = (wo k (Q.map (pinE k false)), 0) := by unfold ME.drop; rw [g1]; simp [g2]
  rw [e1]
  refine ⟨rfl, ?_⟩
  simp only
  rw [e3]
  refine ⟨rfl, ?_⟩
  rw [use_no (fun e he => by simpa using (List.mem_filter.1 he).2)]
theorem Pd.last (h : Pd k P) (ok : Ok bu P) : ∃ Q1 Q2 Q3 Q4, ME.use k P = (Q1, true) ∧ ME.pin k false Q1 = (Q2, 0) ∧ ME.drop k Q2 = (Q3, 0) ∧ ME.use k Q3 = (Q4, false) := by
  obtain ⟨E1, E2⟩ := h.end ok.keys
  obtain ⟨E3, E4, E5⟩ := E2 _ (ok.use k).keys (h.use ok.keys)
  exact ⟨_, _, _, _, Prod.ext rfl E1, Prod.ext rfl E3, Prod.ext rfl E4, Prod.ext rfl E5⟩
end
theorem put_first {k : K4} {bu s : Int} (h0 : 0 ≤ s) (h1 : s ≤ 65536) (h : s ≤ bu) : put bu k s [] = ([mkE k s false], [], 0) := by
  unfold put
  rw [if_neg (by omega)]
  have hw : wo k [] = [] := rfl
  rw [hw, if_neg (by simp [pn]; omega)]
  rfl
theorem pin_first {k : K4} {s : Int} : pin k true [mkE k s false] = ([mkE k s true], 0) := by
  obtain ⟨k1, k2, k3, k4⟩ := k
  simp [pin, fnd, pinE, mkE, En.key]
end Go.Proofs.Ytmnajongifdajaa.ME
