/- Plain facts: walking along a line, element by element. No conditions. -/
import Derived.Test.YtcocnmpnbolpmaaDoorBrkLns
namespace Go.Proofs.YtcocnmpnbolpmaaDoor.BP
/-- What the walk along all lines needs to know: from every way that lines have begun, the next line. -/
def Gl (E : El) (n : Nat) (L : List Int) (wd : Int) : Prop :=
  ∀ (pre : List Int) (line : Nat), Fl E n wd pre line → pre.length < n → ∃ e : Nat, Ends E n wd pre.length e ∧ (∀ j, pre.length ≤ j → j ≤ e → L.getD j 0 = (line : Int)) ∧ (e + 1 < n → L.getD (e + 1) 0 = (line : Int) + 1) ∧ Fl E n wd (pre ++ List.replicate (e + 1 - pre.length) (line : Int)) (line + 1)
/-- Element k stands on the line 'line', which goes from p to e. -/
structure GS (E : El) (n : Nat) (L : List Int) (wd : Int) (k p line e : Nat) : Prop where
  ends : Ends E n wd p e
  vals : ∀ j, p ≤ j → j ≤ e → L.getD j 0 = (line : Int)
  nxt : e + 1 < n → L.getD (e + 1) 0 = (line : Int) + 1
  lp : line ≤ p
  pk : p ≤ k
  ke : k ≤ e
  fl : ∃ pre : List Int, pre.length = e + 1 ∧ Fl E n wd pre (line + 1)
theorem GS.of {E : El} {n : Nat} {L : List Int} {wd : Int} (h : Gl E n L wd) {pre : List Int} {line : Nat} (hf : Fl E n wd pre line) (hl : pre.length < n) (hp : line ≤ pre.length) : ∃ e, GS E n L wd pre.length pre.length line e := by
  obtain ⟨e, a, b, c, d⟩ := h pre line hf hl
  have := a.le
  exact ⟨e, a, b, c, hp, Nat.le_refl _, a.le, _, by rw [List.length_append, List.length_replicate]; omega, d⟩
theorem GS.first {E : El} {n : Nat} {L : List Int} {wd : Int} (h : Gl E n L wd) (hn : 0 < n) : ∃ e, GS E n L wd 0 0 0 e :=
  GS.of h (Fl.start _ _ _) hn (Nat.le_refl _)
theorem GS.go {E : El} {n : Nat} {L : List Int} {wd : Int} (h : Gl E n L wd) {k p line e : Nat} (s : GS E n L wd k p line e) (hk : k + 1 < n) :
    ∃ p2 line2 e2 : Nat, GS E n L wd (k + 1) p2 line2 e2 ∧ (p2 = p ∧ line2 = line ∨ p2 = k + 1 ∧ line2 = line + 1) := by
  by_cases he : k = e
  · subst he
    obtain ⟨pre, h1, h2⟩ := s.fl
    have h3 := s.lp
    have h4 := s.pk
    obtain ⟨e2, h5⟩ := GS.of h h2 (by omega) (by omega)
    rw [h1] at h5
    exact ⟨_, _, _, h5, .inr ⟨rfl, rfl⟩⟩
  · have h3 := s.pk
    have h4 := s.ke
    exact ⟨p, line, e, ⟨s.ends, s.vals, s.nxt, s.lp, by omega, by omega, s.fl⟩, .inl ⟨rfl, rfl⟩⟩
theorem GS.here {E : El} {n : Nat} {L : List Int} {wd : Int} {k p line e : Nat} (s : GS E n L wd k p line e) : L.getD k 0 = (line : Int) := s.vals k s.pk s.ke
theorem GS.kn {E : El} {n : Nat} {L : List Int} {wd : Int} {k p line e : Nat} (s : GS E n L wd k p line e) : k < n := Nat.lt_of_le_of_lt s.ke s.ends.lt
end Go.Proofs.YtcocnmpnbolpmaaDoor.BP
