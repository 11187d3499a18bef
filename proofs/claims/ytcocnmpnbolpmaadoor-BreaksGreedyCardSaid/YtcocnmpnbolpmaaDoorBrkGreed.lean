/- Plain facts: what stands on a line, and what does not. No conditions. -/
import Derived.Test.YtcocnmpnbolpmaaDoorBrkRFill
namespace Go.Proofs.YtcocnmpnbolpmaaDoor.BP
/-- The width of so many elements from p on; and without the spaces at their end. -/
def tot (E : El) (p : Nat) : Nat → Int
  | 0 => 0
  | c + 1 => tot E p c + E.w (p + c)
def ink (E : El) (p : Nat) : Nat → Int
  | 0 => 0
  | c + 1 => if E.s (p + c) then ink E p c else tot E p (c + 1)
theorem ink_tot {E : El} (hE : ∀ k, 0 ≤ E.w k) (p : Nat) : ∀ c, 0 ≤ ink E p c ∧ ink E p c ≤ tot E p c
  | 0 => ⟨Int.le_refl _, Int.le_refl _⟩
  | c + 1 => by
    have h := ink_tot hE p c
    have hw := hE (p + c)
    rw [ink, tot]
    by_cases hs : E.s (p + c) = true
    · rw [if_pos hs]; omega
    · rw [if_neg hs]; omega
theorem ink_step {E : El} (hE : ∀ k, 0 ≤ E.w k) (p c : Nat) : ink E p c ≤ ink E p (c + 1) := by
  have h := ink_tot hE p c
  have hw := hE (p + c)
  rw [ink, tot]
  by_cases hs : E.s (p + c) = true
  · rw [if_pos hs]; exact Int.le_refl _
  · rw [if_neg hs]; omega
theorem ink_mono {E : El} (hE : ∀ k, 0 ≤ E.w k) (p c : Nat) : ∀ d, ink E p c ≤ ink E p (c + d)
  | 0 => Int.le_refl _
  | d + 1 => Int.le_trans (ink_mono hE p c d) (ink_step hE p (c + d))
/-- How a line ends. -/
structure Ends (E : El) (n : Nat) (w : Int) (p e : Nat) : Prop where
  le : p ≤ e
  lt : e < n
  must : ∀ j, p ≤ j → j < e → E.m j ≠ 2
  fits : e = p ∨ ink E p (e + 1 - p) ≤ w
  full : e + 1 = n ∨ E.m e = 2 ∨ ∃ L, e ≤ L ∧ L + 1 < n ∧ w < ink E p (L + 2 - p) ∧ (L = e ∨ E.m e = 1) ∧ ∀ j, e < j → j ≤ L → E.m j ≠ 1 ∧ E.m j ≠ 2
theorem run_ends {E : El} {n : Nat} {w : Int} (hE : ∀ k, 0 ≤ E.w k) {p : Nat} (hp : p < n) : ∀ (g k last : Nat) (cut sum ik : Int), g + k = n → p ≤ k → sum = tot E p (k - p) → ik = ink E p (k - p) → (∀ j, p ≤ j → j < k → E.m j ≠ 2 ∧ ink E p (j + 1 - p) ≤ w) → Cut E p k cut → (k = last + 1 ∧ p ≤ last ∨ k = p ∧ last = p) →
    ∃ e : Nat, run E n w g k last cut sum ik = (e : Int) ∧ Ends E n w p e
  | 0, k, last, cut, sum, ik, hg, hk, h1, h2, h3, h4, h5 => by
    obtain ⟨hk1, h6⟩ : k = last + 1 ∧ p ≤ last := by omega
    subst hk1
    exact ⟨last, fin2_end (by omega), h6, by omega, fun j a b => (h3 j a (by omega)).1, .inr (h3 last h6 (by omega)).2, .inl (by omega)⟩
  | g + 1, k, last, cut, sum, ik, hg, hk, h1, h2, h3, h4, h5 => by
    have hik : (if E.s k then ik else sum + E.w k) = ink E p (k + 1 - p) := by
      rw [show k + 1 - p = (k - p) + 1 by omega, ink, tot, show p + (k - p) = k by omega, h1, h2]
    by_cases hw : w < (if E.s k then ik else sum + E.w k)
    · rw [run_stop (by omega) hw]
      rw [hik] at hw
      by_cases a : (last : Int) = (n : Int) - 1
      · refine ⟨last, fin2_end a, by omega, by omega, fun j x y => by omega, .inl (by omega), .inl (by omega)⟩
      · rcases h4 with ⟨c1, c2⟩ | ⟨c, c1, c2, c3, c4, c5⟩
        · refine ⟨last, if_pos (.inr (by omega)), by omega, by omega, fun j x y => (h3 j x (by omega)).1, ?_, .inr (.inr ⟨last, Nat.le_refl _, by omega, ?_, .inl rfl, fun j x y => by omega⟩)⟩
          · rcases h5 with ⟨h5, h6⟩ | ⟨h5, h6⟩
            · exact .inr (h3 last h6 (by omega)).2
            · exact .inl h6
          · rcases h5 with ⟨h5, h6⟩ | ⟨h5, h6⟩
            · rw [show last + 2 - p = k + 1 - p by omega]; exact hw
            · have := ink_step hE p (k + 1 - p)
              rw [show last + 2 - p = k + 1 - p + 1 by omega]; omega
        · obtain ⟨h5, h6⟩ : k = last + 1 ∧ p ≤ last := by omega
          refine ⟨c, ?_, c2, by omega, fun j x y => (h3 j x (by omega)).1, .inr (h3 c c2 c3).2, .inr (.inr ⟨last, by omega, by omega, by rw [show last + 2 - p = k + 1 - p by omega]; exact hw, .inr c4, fun j x y => ⟨c5 j x (by omega), (h3 j (by omega) (by omega)).1⟩⟩)⟩
          unfold fin2
          rw [if_neg (by omega), c1]
    · by_cases hm : E.m k = 2
      · rw [run_must (by omega) hw hm]
        rw [hik] at hw
        exact ⟨k, rfl, hk, by omega, fun j x y => (h3 j x y).1, .inr (by omega), .inr (.inl hm)⟩
      · rw [run_on (by omega) hw hm]
        rw [hik] at hw ⊢
        refine run_ends hE hp g (k + 1) k _ _ _ (by omega) (by omega) ?_ rfl ?_ (h4.next hk) (.inl ⟨rfl, hk⟩)
        · rw [show k + 1 - p = (k - p) + 1 by omega, tot, show p + (k - p) = k by omega, h1]
        · intro j x y
          by_cases e : j = k
          · subst e; exact ⟨hm, by omega⟩
          · exact h3 j x (by omega)
theorem fin_ends {E : El} {n : Nat} {w : Int} (hE : ∀ k, 0 ≤ E.w k) {p : Nat} (hp : p < n) : ∃ e : Nat, fin E n w p = (e : Int) ∧ Ends E n w p e :=
  run_ends hE hp (n - p) p p (-1) 0 0 (by omega) (Nat.le_refl _) (by rw [Nat.sub_self]; rfl) (by rw [Nat.sub_self]; rfl) (fun j x y => by omega) (Cut.start E p) (.inr ⟨rfl, rfl⟩)
/-- What might stand on the line behind its end. -/
theorem Ends.behind {E : El} {n : Nat} {w : Int} {p e k : Nat} (h : Ends E n w p e) (hE : ∀ k, 0 ≤ E.w k) (he : e + 1 ≠ n) (hm : E.m e ≠ 2) (hk : e < k) (hs : ink E p (k + 1 - p) ≤ w) : E.m k ≠ 1 ∧ E.m k ≠ 2 ∧ k + 1 < n ∧ E.m e = 1 := by
  have hp := h.le
  rcases h.full with h1 | h1 | ⟨L, h1, h2, h3, h4, h5⟩
  · exact absurd h1 he
  · exact absurd h1 hm
  · have hkL : k ≤ L := by
      by_cases c : k ≤ L
      · exact c
      · have := ink_mono hE p (L + 2 - p) (k + 1 - p - (L + 2 - p))
        rw [show L + 2 - p + (k + 1 - p - (L + 2 - p)) = k + 1 - p by omega] at this
        omega
    have := h5 k hk hkL
    exact ⟨this.1, this.2, by omega, h4.resolve_left (by omega)⟩
end Go.Proofs.YtcocnmpnbolpmaaDoor.BP
