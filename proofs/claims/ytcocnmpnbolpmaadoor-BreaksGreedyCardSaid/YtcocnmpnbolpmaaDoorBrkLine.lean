/- Plain facts on filling lines. No conditions. -/
import Derived.Test.YtcocnmpnbolpmaaDoorBrkRMayB
namespace Go.Proofs.YtcocnmpnbolpmaaDoor.BP
def wd (w : Int) : Int := max 0 (min w 10000)
theorem wd_bd (w : Int) : 0 ≤ wd w ∧ wd w ≤ 10000 := by unfold wd; omega
/-- Elements: their widths, where a line may end, and which are spaces. -/
structure El where
  w : Nat → Int
  m : Nat → Int
  s : Nat → Bool
def fin2 (n : Nat) (last : Nat) (cut : Int) : Int := if (last : Int) = (n : Int) - 1 ∨ cut < 0 then (last : Int) else cut
def run (E : El) (n : Nat) (width : Int) : Nat → Nat → Nat → Int → Int → Int → Int
  | 0, _, last, cut, _, _ => fin2 n last cut
  | g + 1, k, last, cut, sum, ink =>
    if width < (if E.s k then ink else sum + E.w k) then fin2 n last cut
    else if E.m k = 2 then (k : Int)
    else run E n width g (k + 1) k (if E.m k = 1 then (k : Int) else cut) (sum + E.w k) (if E.s k then ink else sum + E.w k)
/-- The last element of the line that begins with an element. -/
def fin (E : El) (n : Nat) (width : Int) (first : Nat) : Int := run E n width (n - first) first first (-1) 0 0
theorem run_stop {E : El} {n : Nat} {width : Int} {g k last : Nat} {cut sum ink : Int} (hg : 0 < g) (h : width < (if E.s k then ink else sum + E.w k)) : run E n width g k last cut sum ink = fin2 n last cut := by
  obtain ⟨g, rfl⟩ : ∃ j, g = j + 1 := ⟨g - 1, by omega⟩
  rw [run, if_pos h]
theorem run_must {E : El} {n : Nat} {width : Int} {g k last : Nat} {cut sum ink : Int} (hg : 0 < g) (h : ¬ width < (if E.s k then ink else sum + E.w k)) (hm : E.m k = 2) : run E n width g k last cut sum ink = (k : Int) := by
  obtain ⟨g, rfl⟩ : ∃ j, g = j + 1 := ⟨g - 1, by omega⟩
  rw [run, if_neg h, if_pos hm]
theorem run_on {E : El} {n : Nat} {width : Int} {g k last : Nat} {cut sum ink : Int} (hg : 0 < g) (h : ¬ width < (if E.s k then ink else sum + E.w k)) (hm : ¬ E.m k = 2) : run E n width g k last cut sum ink = run E n width (g - 1) (k + 1) k (if E.m k = 1 then (k : Int) else cut) (sum + E.w k) (if E.s k then ink else sum + E.w k) := by
  obtain ⟨g, rfl⟩ : ∃ j, g = j + 1 := ⟨g - 1, by omega⟩
  rw [run, if_neg h, if_neg hm]; rfl
/-- The last place from first on, before k, at which a line may end. -/
def Cut (E : El) (first k : Nat) (cut : Int) : Prop := (cut = -1 ∧ ∀ j, first ≤ j → j < k → E.m j ≠ 1) ∨ ∃ c : Nat, cut = (c : Int) ∧ first ≤ c ∧ c < k ∧ E.m c = 1 ∧ ∀ j, c < j → j < k → E.m j ≠ 1
theorem Cut.start (E : El) (first : Nat) : Cut E first first (-1) := .inl ⟨rfl, fun j a b => by omega⟩
theorem Cut.next {E : El} {first k : Nat} {cut : Int} (h : Cut E first k cut) (hk : first ≤ k) : Cut E first (k + 1) (if E.m k = 1 then (k : Int) else cut) := by
  by_cases hm : E.m k = 1
  · rw [if_pos hm]
    exact .inr ⟨k, rfl, hk, by omega, hm, fun j a b => by omega⟩
  · rw [if_neg hm]
    rcases h with ⟨h1, h2⟩ | ⟨c, h1, h2, h3, h4, h5⟩
    · refine .inl ⟨h1, fun j a b => ?_⟩
      by_cases e : j = k
      · subst e; exact hm
      · exact h2 j a (by omega)
    · refine .inr ⟨c, h1, h2, by omega, h4, fun j a b => ?_⟩
      by_cases e : j = k
      · subst e; exact hm
      · exact h5 j a (by omega)
/-- Where the search downwards finds a place. -/
theorem Cut.found {E : El} {first k last i n : Nat} {cut : Int} (h : Cut E first k cut) (hl : k = last + 1 ∨ k = first ∧ last = first) (hn : (last : Int) ≠ (n : Int) - 1) (hi : first ≤ i) (hil : i ≤ last) (hm : E.m i = 1) (hno : ∀ j, i < j → j ≤ last → E.m j ≠ 1) : fin2 n last cut = (i : Int) := by
  unfold fin2
  rcases hl with hl | ⟨hl, hl2⟩
  · rcases h with ⟨h1, h2⟩ | ⟨c, h1, h2, h3, h4, h5⟩
    · exact absurd hm (h2 i hi (by omega))
    · rw [if_neg (by omega), h1]
      have : c = i := by
        rcases Nat.lt_trichotomy c i with a | a | a
        · exact absurd hm (h5 i a (by omega))
        · exact a
        · exact absurd h4 (hno c a (by omega))
      rw [this]
  · rcases h with ⟨h1, h2⟩ | ⟨c, h1, h2, h3, h4, h5⟩
    · rw [if_pos (.inr (by omega))]; omega
    · omega
theorem Cut.none {E : El} {first k last n : Nat} {cut : Int} (h : Cut E first k cut) (hl : k = last + 1 ∨ k = first ∧ last = first) (hno : ∀ j, first ≤ j → j ≤ last → E.m j ≠ 1) : fin2 n last cut = (last : Int) := by
  unfold fin2
  rcases h with ⟨h1, h2⟩ | ⟨c, h1, h2, h3, h4, h5⟩
  · rw [if_pos (.inr (by omega))]
  · rcases hl with hl | ⟨hl, hl2⟩
    · exact absurd h4 (hno c h2 (by omega))
    · omega
theorem fin2_end {n last : Nat} {cut : Int} (h : (last : Int) = (n : Int) - 1) : fin2 n last cut = (last : Int) := if_pos (.inl h)
theorem fin2_bd {n last first : Nat} {cut : Int} (h1 : first ≤ last) (h2 : last < n) (hc : cut < 0 ∨ (first : Int) ≤ cut ∧ cut < (n : Int)) : (first : Int) ≤ fin2 n last cut ∧ fin2 n last cut < (n : Int) := by
  unfold fin2
  by_cases h : (last : Int) = (n : Int) - 1 ∨ cut < 0
  · rw [if_pos h]; omega
  · rw [if_neg h]; omega
theorem run_bd (E : El) (n : Nat) (width : Int) (first : Nat) : ∀ (g k last : Nat) (cut sum ink : Int), g + k = n → first ≤ last → last < n → last ≤ k → first ≤ k → (cut < 0 ∨ (first : Int) ≤ cut ∧ cut < (n : Int)) → (first : Int) ≤ run E n width g k last cut sum ink ∧ run E n width g k last cut sum ink < (n : Int)
  | 0, k, last, cut, sum, ink, hg, h1, h2, h3, h4, hc => fin2_bd h1 h2 hc
  | g + 1, k, last, cut, sum, ink, hg, h1, h2, h3, h4, hc => by
    by_cases hw : width < (if E.s k then ink else sum + E.w k)
    · rw [run_stop (by omega) hw]; exact fin2_bd h1 h2 hc
    · by_cases hm : E.m k = 2
      · rw [run_must (by omega) hw hm]; omega
      · rw [run_on (by omega) hw hm]
        refine run_bd E n width first g (k + 1) k _ _ _ (by omega) (by omega) (by omega) (by omega) (by omega) ?_
        by_cases h : E.m k = 1
        · rw [if_pos h]; omega
        · rw [if_neg h]; exact hc
theorem fin_bd {E : El} {n : Nat} {width : Int} {first : Nat} (h : first < n) : (first : Int) ≤ fin E n width first ∧ fin E n width first < (n : Int) :=
  run_bd E n width first _ first first _ _ _ (by omega) (Nat.le_refl _) h (Nat.le_refl _) (Nat.le_refl _) (.inl (by omega))
/-- The lines of the elements from first on. -/
def fill (E : El) (n : Nat) (width : Int) : Nat → Nat → Nat → List Int
  | 0, _, _ => []
  | g + 1, first, line => if first < n then List.replicate ((fin E n width first).toNat + 1 - first) (line : Int) ++ fill E n width g ((fin E n width first).toNat + 1) (line + 1) else []
def fills (E : El) (n : Nat) (width : Int) : List Int := fill E n width n 0 0
def elOf (W M : List Int) (S : List Bool) : El := ⟨fun k => wd (W.getD k 0), fun k => M.getD k 0, fun k => S.getD k false⟩
def nOf (W M : List Int) (S : List Bool) : Nat := min (min W.length M.length) S.length
def Fill (W M : List Int) (S : List Bool) (width : Int) : List Int := fills (elOf W M S) (nOf W M S) (wd width)
/-- What has come is pre, and the next line, with this number, begins behind it. -/
def Fl (E : El) (n : Nat) (width : Int) (pre : List Int) (line : Nat) : Prop := pre.length ≤ n ∧ ∃ g, n ≤ pre.length + g ∧ fills E n width = pre ++ fill E n width g pre.length line
theorem Fl.start (E : El) (n : Nat) (width : Int) : Fl E n width [] 0 := ⟨Nat.zero_le _, n, by simp, rfl⟩
theorem Fl.next {E : El} {n : Nat} {width : Int} {pre : List Int} {line : Nat} (h : Fl E n width pre line) (hl : pre.length < n) : Fl E n width (pre ++ List.replicate ((fin E n width pre.length).toNat + 1 - pre.length) (line : Int)) (line + 1) := by
  obtain ⟨_, g, hg, e⟩ := h
  obtain ⟨g, rfl⟩ : ∃ j, g = j + 1 := ⟨g - 1, by omega⟩
  have hb := fin_bd (E := E) (width := width) hl
  have hlen : (pre ++ List.replicate ((fin E n width pre.length).toNat + 1 - pre.length) (line : Int)).length = (fin E n width pre.length).toNat + 1 := by
    rw [List.length_append, List.length_replicate]; omega
  refine ⟨by rw [hlen]; omega, g, by rw [hlen]; omega, ?_⟩
  rw [e, fill, if_pos hl, hlen, List.append_assoc]
theorem Fl.done {E : El} {n : Nat} {width : Int} {pre : List Int} {line : Nat} (h : Fl E n width pre line) (hl : pre.length = n) : pre = fills E n width := by
  obtain ⟨_, g, hg, e⟩ := h
  rw [e]
  cases g with
  | zero => simp [fill]
  | succ g => rw [fill, if_neg (by omega), List.append_nil]
theorem Fl.length {E : El} {n : Nat} {width : Int} : (fills E n width).length = n := by
  suffices h : ∀ g first line, first ≤ n → n ≤ first + g → (fill E n width g first line).length = n - first by
    have := h n 0 0 (Nat.zero_le _) (by omega); simpa [fills] using this
  intro g
  induction g with
  | zero => intro first line h1 h2; simp [fill]; omega
  | succ g ih =>
    intro first line h1 h2
    rw [fill]
    split
    · rename_i h
      have hb := fin_bd (E := E) (width := width) h
      rw [List.length_append, List.length_replicate, ih _ _ (by omega) (by omega)]; omega
    · simp; omega
end Go.Proofs.YtcocnmpnbolpmaaDoor.BP
