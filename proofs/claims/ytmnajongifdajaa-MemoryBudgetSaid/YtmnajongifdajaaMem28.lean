/- A memory beside the reference's: what each act does to both. No conditions. -/
import Derived.Test.YtmnajongifdajaaMem26
import Derived.Test.YtmnajongifdajaaMem27
namespace Go.Proofs.Ytmnajongifdajaa.ME
set_option linter.unusedVariables false
theorem use_len (k : K4) {bu : Int} {P : List En} (h : Ok bu P) : (use k P).1.length = P.length := by
  rcases p_cases P k with hno | ⟨A, e, C, rfl, rfl⟩
  · unfold use; rw [fnd_none hno]
  · unfold use
    rw [fnd_mid h.keys]
    simp only
    rw [wo_mid h.keys]
    simp
theorem drop_len (k : K4) (P : List En) : (drop k P).1.length ≤ P.length := by
  unfold drop
  split
  · exact Nat.le_refl _
  · split
    · exact Nat.le_refl _
    · exact List.length_filter_le _ _
theorem pin_len (k : K4) (on : Bool) (P : List En) : (pin k on P).1.length = P.length := by
  unfold pin
  split
  · rfl
  · simp
theorem room_len (bu : Int) : ∀ (R : List En) (t : Int), (room bu t R).1.length ≤ R.length ∧ (room bu t R).2.length ≤ R.length
  | [], t => ⟨Nat.le_refl _, Nat.le_refl _⟩
  | x :: R, t => by
    have h1 := room_len bu R t
    have h2 := room_len bu R (t - x.size)
    unfold room
    split
    · exact ⟨Nat.le_refl _, Nat.zero_le _⟩
    · split
      · simp only [List.length_cons]; omega
      · simp only [List.length_cons]; omega
theorem put_len (bu : Int) (k : K4) (s : Int) (P : List En) : (put bu k s P).1.length ≤ P.length + 1 ∧ (put bu k s P).2.1.length ≤ P.length := by
  have h := room_len bu (wo k P) (sm (wo k P) + s)
  have h2 : (wo k P).length ≤ P.length := List.length_filter_le _ _
  unfold put
  split
  · exact ⟨by simp, by simp⟩
  · split
    · exact ⟨by simp, by simp⟩
    · simp only [List.length_append, List.length_singleton]; omega
end Go.Proofs.Ytmnajongifdajaa.ME
namespace Go.Proofs.Ytmnajongifdajaa
set_option maxRecDepth 100000
set_option linter.unusedVariables false
open Go.RowKit Go.Deep ME
/-- A memory (with what it holds), and the reference's, within the blocks H. -/
structure PS (W : World) (M mb root r : Nat) (bu : Int) (P1 P2 : List En) (k : Nat) (H : Nat → Prop) : Prop where
  out : ∃ L n F G, L.map Prod.snd = P1 ∧ n ≤ k ∧ MmAt W M mb root bu L n F ∧ RrAt W r bu P2 G ∧ (∀ b, F b → ¬ G b) ∧ (∀ b, F b → H b) ∧ (∀ b, G b → H b)
  ok1 : ME.Ok bu P1
  ok2 : ME.Ok bu P2
  l1 : P1.length ≤ k
  l2 : P2.length ≤ k
  lt : ∀ b, H b → b < W.heap.size
def PSr (W : World) (H : Nat → Prop) (w : World) (M mb root r : Nat) (bu : Int) (P1 P2 : List En) (k : Nat) : Prop := FrS H W w ∧ ∃ H', PS w M mb root r bu P1 P2 k H' ∧ ∀ b, H' b → H b ∨ W.heap.size ≤ b
section
variable {W w w' : World} {H : Nat → Prop} {M mb root r : Nat} {bu : Int} {P1 P2 Q1 Q2 : List En} {k k' : Nat}
theorem PS.below (h : PS W M mb root r bu P1 P2 k H) (hb : Below W.heap.size W w) : PS w M mb root r bu P1 P2 k H := by
  obtain ⟨⟨L, n, F, G, h1, h2, h3, h4, h5⟩, o1, o2, l1, l2, lt⟩ := h
  exact ⟨⟨L, n, F, G, h1, h2, h3.below hb, h4.below hb, h5⟩, o1, o2, l1, l2, fun b hb' => Nat.lt_of_lt_of_le (lt b hb') hb.size⟩
theorem PS.here (h : PS W M mb root r bu P1 P2 k H) : PSr W H W M mb root r bu P1 P2 k := ⟨FrS.refl _ _, H, h, fun b hb => .inl hb⟩
theorem PSr.below (h : PSr W H w M mb root r bu P1 P2 k) (hb : Below w.heap.size w w') : PSr W H w' M mb root r bu P1 P2 k := by
  obtain ⟨h1, H', h2, h3⟩ := h
  exact ⟨h1.then hb, H', h2.below hb, h3⟩
theorem PSr.trans (h : PSr W H w M mb root r bu P1 P2 k) (hn : ∀ H', PS w M mb root r bu P1 P2 k H' → PSr w H' w' M mb root r bu Q1 Q2 k') : PSr W H w' M mb root r bu Q1 Q2 k' := by
  obtain ⟨h1, H', h2, h3⟩ := h
  obtain ⟨g1, H'', g2, g3⟩ := hn H' h2
  exact ⟨h1.over g1 h3, H'', g2, fun b hb => (g3 b hb).elim (h3 b) (fun z => .inr (Nat.le_trans h1.size z))⟩
theorem PS.mono (h : PS W M mb root r bu P1 P2 k H) (hk : k ≤ k') : PS W M mb root r bu P1 P2 k' H := by
  obtain ⟨⟨L, n, F, G, h1, h2, h3⟩, o1, o2, l1, l2, lt⟩ := h
  exact ⟨⟨L, n, F, G, h1, by omega, h3⟩, o1, o2, by omega, by omega, lt⟩
theorem PSr.mono (h : PSr W H w M mb root r bu P1 P2 k) (hk : k ≤ k') : PSr W H w M mb root r bu P1 P2 k' := by
  obtain ⟨h1, H', h2, h3⟩ := h
  exact ⟨h1, H', h2.mono hk, h3⟩
/-- A block beside both is kept. -/
theorem PSr.block (h : PSr W H w M mb root r bu P1 P2 k) {b : Nat} (hb : b < W.heap.size) (hn : ¬ H b) : w.heap[b]? = W.heap[b]? := h.1.block b hb hn
theorem PSr.of_m {L' : List (Nat × En)} {n' : Nat} {F F' G : Nat → Prop} (hm' : MmAt w M mb root bu L' n' F') (hF' : ∀ b, F' b → F b ∨ W.heap.size ≤ b) (hL : L'.map Prod.snd = Q1) (hok : ME.Ok bu Q1) (hn : n' ≤ k') (hl1 : Q1.length ≤ k') (hf : FrS F W w) (hr : RrAt W r bu P2 G) (hd : ∀ b, F b → ¬ G b) (hFH : ∀ b, F b → H b) (hGH : ∀ b, G b → H b) (ok2 : ME.Ok bu P2) (hl2 : P2.length ≤ k') : PSr W H w M mb root r bu Q1 P2 k' := by
  refine ⟨hf.mono hFH, fun b => F' b ∨ G b, ⟨⟨L', n', F', G, hL, hn, hm', hr.kept hf (fun b hb x => hd b x hb), fun b hb hg => ?_, fun b hb => .inl hb, fun b hb => .inr hb⟩, hok, ok2, hl1, hl2, fun b hb => ?_⟩, fun b hb => ?_⟩
  · rcases hF' b hb with h | h
    · exact hd b h hg
    · have := hr.lt b hg; omega
  · rcases hb with hb | hb
    · exact hm'.lt b hb
    · have := hr.lt b hb; have := hf.size; omega
  · rcases hb with hb | hb
    · exact (hF' b hb).imp (hFH b) id
    · exact .inl (hGH b hb)
theorem PSr.of_r {L : List (Nat × En)} {n : Nat} {F G : Nat → Prop} (hp : RrP W w r bu Q2 G) (hL : L.map Prod.snd = P1) (hn : n ≤ k') (hm : MmAt W M mb root bu L n F) (hd : ∀ b, F b → ¬ G b) (hFH : ∀ b, F b → H b) (hGH : ∀ b, G b → H b) (ok1 : ME.Ok bu P1) (ok2 : ME.Ok bu Q2) (hl1 : P1.length ≤ k') (hl2 : Q2.length ≤ k') : PSr W H w M mb root r bu P1 Q2 k' := by
  obtain ⟨⟨G', hr', hG'⟩, hf⟩ := hp
  refine ⟨hf.mono hGH, fun b => F b ∨ G' b, ⟨⟨L, n, F, G', hL, hn, hm.kept hf (fun b hb x => hd b hb x), hr', fun b hb hg => ?_, fun b hb => .inl hb, fun b hb => .inr hb⟩, ok1, ok2, hl1, hl2, fun b hb => ?_⟩, fun b hb => ?_⟩
  · rcases hG' b hg with h | h
    · exact hd b hb h
    · have := hm.lt b hb; omega
  · rcases hb with hb | hb
    · have := hm.lt b hb; have := hf.size; omega
    · exact hr'.lt b hb
  · rcases hb with hb | hb
    · exact .inl (hFH b hb)
    · exact (hG' b hb).imp (hGH b) id
end
theorem ME.Ok.use {bu : Int} {P : List En} (h : ME.Ok bu P) (k : K4) : ME.Ok bu (ME.use k P).1 := by
  rcases p_cases P k with hno | ⟨A, e, C, rfl, rfl⟩
  · unfold ME.use; rw [ME.fnd_none hno]; exact h
  · unfold ME.use
    rw [ME.fnd_mid h.keys]
    simp only
    rw [ME.wo_mid h.keys]
    refine h.del.add (h.sz e (by simp)) ?_ (h.ok e (by simp)) (fun x hx => ?_)
    · have := h.sum
      rw [ME.sm_app, ME.sm_cons] at this
      rw [ME.sm_app]
      omega
    · rcases List.mem_append.1 hx with hx | hx
      · exact (ME.mid_keys h.keys).1 x hx
      · exact (ME.mid_keys h.keys).2 x hx
theorem ME.Ok.drop {bu : Int} {P : List En} (h : ME.Ok bu P) (k : K4) : ME.Ok bu (ME.drop k P).1 := by
  unfold ME.drop
  split
  · exact h
  · split
    · exact h
    · exact h.wo k
theorem ME.Ok.pin {bu : Int} {P : List En} (h : ME.Ok bu P) (k : K4) (on : Bool) : ME.Ok bu (ME.pin k on P).1 := by
  rcases p_cases P k with hno | ⟨A, e, C, rfl, rfl⟩
  · unfold ME.pin; rw [ME.fnd_none hno]; exact h
  · unfold ME.pin
    rw [ME.fnd_mid h.keys]
    simp only
    rw [ME.pin_mid h.keys]
    exact h.pinned on
theorem ME.room_fit2 (bu : Int) : ∀ (R : List En) (t : Int), ME.pn R + (t - ME.sm R) ≤ bu → ME.sm (ME.room bu t R).1 + (t - ME.sm R) ≤ bu
  | [], t, h => h
  | x :: R, t, h => by
    rw [ME.sm_cons, ME.pn_cons] at h
    rw [ME.sm_cons]
    unfold ME.room
    split
    · rename_i ht
      dsimp only
      rw [ME.sm_cons]
      omega
    · split
      · rename_i hp
        have := ME.room_fit2 bu R t (by rw [if_pos hp] at h; omega)
        dsimp only
        rw [ME.sm_cons]
        omega
      · rename_i hp
        have := ME.room_fit2 bu R (t - x.size) (by rw [if_neg hp] at h; omega)
        dsimp only
        omega
theorem ME.room_sub2 (bu : Int) : ∀ (R : List En) (t : Int), (ME.room bu t R).1.Sublist R
  | [], t => List.Sublist.refl _
  | x :: R, t => by
    unfold ME.room
    split
    · exact List.Sublist.refl _
    · split
      · exact (ME.room_sub2 bu R t).cons_cons x
      · exact (ME.room_sub2 bu R _).cons x
theorem ME.sm_sub {A B : List En} (h : A.Sublist B) (hz : ∀ e ∈ B, 0 ≤ e.size ∧ e.size ≤ 65536) : ME.sm A ≤ ME.sm B := by
  induction h with
  | slnil => exact Int.le_refl _
  | cons x h ih =>
    have h1 := ih (fun e he => hz e (by simp [he]))
    have h2 := (hz x (by simp)).1
    rw [ME.sm_cons]
    omega
  | cons_cons x h ih =>
    have h1 := ih (fun e he => hz e (by simp [he]))
    rw [ME.sm_cons, ME.sm_cons]
    omega
theorem ME.Ok.sub {bu : Int} {A B : List En} (h : ME.Ok bu B) (hs : A.Sublist B) : ME.Ok bu A :=
  ⟨h.b0, h.b1, fun e he => h.sz e (hs.subset he), Int.le_trans (ME.sm_sub hs h.sz) h.sum, h.keys.sublist (hs.map _), fun e he => h.ok e (hs.subset he)⟩
theorem ME.Ok.put {bu : Int} {P : List En} (h : ME.Ok bu P) (k : K4) (s : Int) (hk : K4ok k) : ME.Ok bu (ME.put bu k s P).1 := by
  unfold ME.put
  split
  · exact h
  · rename_i hs
    split
    · exact h
    · rename_i hf
      have hr := ME.room_sub2 bu (ME.wo k P) (ME.sm (ME.wo k P) + s)
      refine ((h.wo k).sub hr).add (e := mkE k s _) ⟨by show 0 ≤ s; omega, by show s ≤ 65536; omega⟩ ?_ hk (fun x hx => ?_)
      · have := ME.room_fit2 bu (ME.wo k P) (ME.sm (ME.wo k P) + s) (by omega)
        show ME.sm _ + s ≤ bu
        omega
      · have := (List.mem_filter.1 (hr.subset hx)).2
        exact of_decide_eq_true this
end Go.Proofs.Ytmnajongifdajaa
