/- On wider lines no element has a greater number. No conditions. -/
import Derived.Test.YtcocnmpnbolpmaaDoorBrkCut
namespace Go.Proofs.YtcocnmpnbolpmaaDoor.BP
theorem run_low {E : El} {n : Nat} {width : Int} {B : Int} : ∀ (g k last : Nat) (cut sum ink : Int), B ≤ (last : Int) → B ≤ (k : Int) → (cut < 0 ∨ B ≤ cut) → B ≤ run E n width g k last cut sum ink
  | 0, k, last, cut, sum, ink, h1, h2, h3 => by
    unfold run fin2
    by_cases h : (last : Int) = (n : Int) - 1 ∨ cut < 0
    · rw [if_pos h]; exact h1
    · rw [if_neg h]; omega
  | g + 1, k, last, cut, sum, ink, h1, h2, h3 => by
    by_cases hw : width < (if E.s k then ink else sum + E.w k)
    · rw [run_stop (by omega) hw]; unfold fin2
      by_cases h : (last : Int) = (n : Int) - 1 ∨ cut < 0
      · rw [if_pos h]; exact h1
      · rw [if_neg h]; omega
    · by_cases hm : E.m k = 2
      · rw [run_must (by omega) hw hm]; exact h2
      · rw [run_on (by omega) hw hm]
        refine run_low g (k + 1) k _ _ _ (by omega) (by omega) ?_
        by_cases h : E.m k = 1
        · rw [if_pos h]; omega
        · rw [if_neg h]; exact h3
/-- Two runs at the same place, the second one over wider lines and of a later beginning q. -/
theorem run_mono {E : El} {n : Nat} {w v : Int} (hwv : w ≤ v) (hE : ∀ k, 0 ≤ E.w k) {q : Nat} (hq : q < n) : ∀ (g k last last' : Nat) (cut cut' sum sum' ink ink' : Int), g + k = n → sum' ≤ sum → ink' ≤ ink → (last' = last ∨ last < q) → (cut' = cut ∨ cut' < 0 ∧ cut < (q : Int)) → (k = last' + 1 ∧ (cut' < 0 ∨ cut' ≤ (last' : Int)) ∨ k = last' ∧ last' = q ∧ cut' < 0) → q ≤ last' → last' < n → last < n → (cut < 0 ∨ cut ≤ (last : Int)) →
    run E n w g k last cut sum ink < (q : Int) ∨ run E n w g k last cut sum ink ≤ run E n v g k last' cut' sum' ink'
  | 0, k, last, last', cut, cut', sum, sum', ink, ink', hg, h1, h2, h3, h4, h5, h6, h7, h8, h9 => by
    right
    have hl : (last' : Int) = (n : Int) - 1 := by omega
    unfold run
    rw [fin2_end hl]
    unfold fin2
    by_cases h : (last : Int) = (n : Int) - 1 ∨ cut < 0
    · rw [if_pos h]; omega
    · rw [if_neg h]; omega
  | g + 1, k, last, last', cut, cut', sum, sum', ink, ink', hg, h1, h2, h3, h4, h5, h6, h7, h8, h9 => by
    have hi : (if E.s k then ink' else sum' + E.w k) ≤ (if E.s k then ink else sum + E.w k) := by
      by_cases hs : E.s k = true
      · rw [if_pos hs, if_pos hs]; exact h2
      · rw [if_neg hs, if_neg hs]; omega
    by_cases hv : v < (if E.s k then ink' else sum' + E.w k)
    · rw [run_stop (by omega) hv, run_stop (by omega) (show w < (if E.s k then ink else sum + E.w k) by omega)]
      unfold fin2
      by_cases a : (last : Int) = (n : Int) - 1 ∨ cut < 0
      · rw [if_pos a]
        by_cases b : (last' : Int) = (n : Int) - 1 ∨ cut' < 0
        · rw [if_pos b]; omega
        · rw [if_neg b]; omega
      · rw [if_neg a]
        by_cases b : (last' : Int) = (n : Int) - 1 ∨ cut' < 0
        · rw [if_pos b]; omega
        · rw [if_neg b]; omega
    · by_cases hw : w < (if E.s k then ink else sum + E.w k)
      · rw [run_stop (by omega) hw]
        by_cases hr : fin2 n last cut < (q : Int)
        · exact .inl hr
        · right
          have hb : fin2 n last cut ≤ (last' : Int) ∧ fin2 n last cut ≤ (k : Int) ∧ (cut' < 0 ∨ fin2 n last cut ≤ cut') := by
            unfold fin2 at hr ⊢
            by_cases a : (last : Int) = (n : Int) - 1 ∨ cut < 0
            · rw [if_pos a] at hr ⊢; omega
            · rw [if_neg a] at hr ⊢; omega
          exact run_low (g + 1) k last' cut' sum' ink' hb.1 hb.2.1 hb.2.2
      · by_cases hm : E.m k = 2
        · rw [run_must (by omega) hw hm, run_must (by omega) hv hm]; exact .inr (Int.le_refl _)
        · rw [run_on (by omega) hw hm, run_on (by omega) hv hm]
          have hk : k < n := by omega
          by_cases c : E.m k = 1
          · rw [if_pos c, if_pos c]
            exact run_mono hwv hE hq g (k + 1) k k _ _ _ _ _ _ (by omega) (by omega) hi (.inl rfl) (.inl rfl) (.inl ⟨rfl, .inr (Int.le_refl _)⟩) (by omega) hk hk (.inr (Int.le_refl _))
          · rw [if_neg c, if_neg c]
            exact run_mono hwv hE hq g (k + 1) k k _ _ _ _ _ _ (by omega) (by omega) hi (.inl rfl) h4 (.inl ⟨rfl, by omega⟩) (by omega) hk hk (by omega)
/-- A run from before q on: what it finds lies before q, or not behind what is found from q on, on lines that are as wide. -/
theorem run_later {E : El} {n : Nat} {w v : Int} (hwv : w ≤ v) (hE : ∀ k, 0 ≤ E.w k) {q : Nat} (hq : q < n) : ∀ (d g k last : Nat) (cut sum ink : Int), k + d = q → g + k = n → 0 ≤ sum → 0 ≤ ink → (last < q ∨ last = k ∧ k = q) → cut < (q : Int) → last < n → last ≤ k → (cut < 0 ∨ cut ≤ (last : Int)) →
    run E n w g k last cut sum ink < (q : Int) ∨ run E n w g k last cut sum ink ≤ fin E n v q
  | 0, g, k, last, cut, sum, ink, hd, hg, h1, h2, h3, h4, h5, h7, h6 => by
    obtain rfl : k = q := by omega
    have := run_mono hwv hE hq g k last k cut (-1) sum 0 ink 0 hg h1 h2 (by omega) (.inr ⟨by omega, h4⟩) (.inr ⟨rfl, rfl, by omega⟩) (Nat.le_refl _) hq h5 h6
    unfold fin
    rwa [show n - k = g by omega]
  | d + 1, g, k, last, cut, sum, ink, hd, hg, h1, h2, h3, h4, h5, h7, h6 => by
    by_cases hw : w < (if E.s k then ink else sum + E.w k)
    · left
      rw [run_stop (by omega) hw]
      unfold fin2
      by_cases a : (last : Int) = (n : Int) - 1 ∨ cut < 0
      · rw [if_pos a]; omega
      · rw [if_neg a]; exact h4
    · by_cases hm : E.m k = 2
      · left; rw [run_must (by omega) hw hm]; omega
      · rw [run_on (by omega) hw hm]
        have hk := hE k
        refine run_later hwv hE hq d (g - 1) (k + 1) k _ _ _ (by omega) (by omega) (by omega) ?_ (.inl (by omega)) ?_ (by omega) (by omega) ?_
        · by_cases hs : E.s k = true
          · rw [if_pos hs]; exact h2
          · rw [if_neg hs]; omega
        · by_cases c : E.m k = 1
          · rw [if_pos c]; omega
          · rw [if_neg c]; exact h4
        · by_cases c : E.m k = 1
          · rw [if_pos c]; exact .inr (Int.le_refl _)
          · rw [if_neg c]; omega
theorem fin_mono {E : El} {n : Nat} {w v : Int} (hwv : w ≤ v) (hE : ∀ k, 0 ≤ E.w k) {p q : Nat} (hpq : p ≤ q) (hq : q < n) : fin E n w p < (q : Int) ∨ fin E n w p ≤ fin E n v q := by
  by_cases e : p = q
  · subst e
    exact run_later hwv hE hq 0 _ p p _ _ _ (by omega) (by omega) (by omega) (by omega) (.inr ⟨rfl, rfl⟩) (by omega) hq (Nat.le_refl _) (.inl (by omega))
  · exact run_later hwv hE hq (q - p) _ p p _ _ _ (by omega) (by omega) (by omega) (by omega) (.inl (by omega)) (by omega) (by omega) (Nat.le_refl _) (.inl (by omega))
/-- The line of an element. -/
theorem fill_ge {E : El} {n : Nat} {w : Int} : ∀ (g first line i : Nat) (x : Int), (fill E n w g first line)[i]? = some x → (line : Int) ≤ x
  | 0, first, line, i, x, h => by simp [fill] at h
  | g + 1, first, line, i, x, h => by
    rw [fill] at h
    split at h
    · rw [List.getElem?_append] at h
      split at h
      · rw [List.getElem?_replicate] at h
        split at h <;> simp at h
        omega
      · have := fill_ge g _ _ _ x h; omega
    · simp at h
theorem fill_mono {E : El} {n : Nat} {w v : Int} (hwv : w ≤ v) (hE : ∀ k, 0 ≤ E.w k) : ∀ (s g g' p q line line' : Nat), g + g' ≤ s → p ≤ q → line' ≤ line → n ≤ p + g → n ≤ q + g' → ∀ (i : Nat) (x y : Int), q ≤ i → (fill E n w g p line)[i - p]? = some x → (fill E n v g' q line')[i - q]? = some y → y ≤ x := by
  intro s
  induction s with
  | zero =>
    intro g g' p q line line' hs hpq hl hg hg' i x y hi hx hy
    obtain rfl : g = 0 := by omega
    simp [fill] at hx
  | succ s ih =>
    intro g g' p q line line' hs hpq hl hg hg' i x y hi hx hy
    by_cases hqn : q < n
    · obtain ⟨g, rfl⟩ : ∃ j, g = j + 1 := ⟨g - 1, by omega⟩
      obtain ⟨g', rfl⟩ : ∃ j, g' = j + 1 := ⟨g' - 1, by omega⟩
      have b1 := fin_bd (E := E) (width := w) (show p < n by omega)
      have b2 := fin_bd (E := E) (width := v) hqn
      have hmo := fin_mono hwv hE hpq hqn
      generalize hf : fin E n w p = a at b1 hmo
      generalize hg2 : fin E n v q = b at b2 hmo
      have hx0 := hx
      rw [fill, if_pos (show p < n by omega), hf, List.getElem?_append] at hx
      by_cases hlt : a < (q : Int)
      · rw [if_neg (by rw [List.length_replicate]; omega), List.length_replicate, show i - p - (a.toNat + 1 - p) = i - (a.toNat + 1) by omega] at hx
        exact ih g (g' + 1) (a.toNat + 1) q (line + 1) line' (by omega) (by omega) (by omega) (by omega) (by omega) i x y hi hx hy
      · have hab : a ≤ b := by omega
        rw [fill, if_pos hqn, hg2, List.getElem?_append] at hy
        by_cases hib : (i : Int) ≤ b
        · rw [if_pos (by rw [List.length_replicate]; omega), List.getElem?_replicate] at hy
          split at hy
          · simp at hy
            have := fill_ge _ _ _ _ _ hx0
            omega
          · simp at hy
        · rw [if_neg (by rw [List.length_replicate]; omega), List.length_replicate, show i - q - (b.toNat + 1 - q) = i - (b.toNat + 1) by omega] at hy
          rw [if_neg (by rw [List.length_replicate]; omega), List.length_replicate, show i - p - (a.toNat + 1 - p) = i - (a.toNat + 1) by omega] at hx
          exact ih g g' (a.toNat + 1) (b.toNat + 1) (line + 1) (line' + 1) (by omega) (by omega) (by omega) (by omega) (by omega) i x y (by omega) hx hy
    · exfalso
      cases g' with
      | zero => simp [fill] at hy
      | succ g' => rw [fill, if_neg hqn] at hy; simp at hy
theorem fills_mono {E : El} {n : Nat} {w v : Int} (hwv : w ≤ v) (hE : ∀ k, 0 ≤ E.w k) (i : Nat) (x y : Int) (hx : (fills E n w)[i]? = some x) (hy : (fills E n v)[i]? = some y) : y ≤ x :=
  fill_mono hwv hE (n + n) n n 0 0 0 0 (Nat.le_refl _) (Nat.le_refl _) (Nat.le_refl _) (by omega) (by omega) i x y (Nat.zero_le _) hx hy
end Go.Proofs.YtcocnmpnbolpmaaDoor.BP
