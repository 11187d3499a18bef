/- Copies of one message, one after the other. No conditions. -/
import Derived.Test.YtgphdgalcbcamaaLn11
namespace Go.Proofs.Ytgphdgalcbcamaa
set_option maxRecDepth 100000
set_option linter.unusedVariables false
open Go.RowKit Go.Deep
/-- The copies from i on, m of them. -/
def cpr (a : Int) (k : Nat) (f o : Int) (s : ByteArray) : Nat → Nat → List Pc
  | _, 0 => []
  | i, m + 1 => cpy a k f o s i :: cpr a k f o s (i + 1) m
section
variable {a : Int} {k : Nat} {f o : Int} {s : ByteArray}
theorem cps_from : ∀ (m i : Nat), (List.range' i m).map (cpy a k f o s) = cpr a k f o s i m
  | 0, i => rfl
  | m + 1, i => by
    rw [List.range'_succ, List.map_cons, cps_from m (i + 1)]
    rfl
theorem cps_cpr (c : Nat) : cps a k f o s c = cpr a k f o s 0 c := by
  unfold cps
  rw [List.range_eq_range', cps_from]
theorem cpr_ge : ∀ (m i : Nat), ∀ p ∈ cpr a k f o s i m, a + (i : Int) ≤ p.t ∧ p.n = (k : Int)
  | 0, i, p, h => by cases h
  | m + 1, i, p, h => by
    rcases List.mem_cons.1 h with rfl | h
    · exact ⟨Int.le_refl _, rfl⟩
    · have := cpr_ge m (i + 1) p h
      refine ⟨?_, this.2⟩
      have h1 := this.1
      omega
theorem cpr_bs (m i : Nat) : LN.bs (cpr a k f o s i (m + 1)) = 0 := by
  show LN.bst ((cpy a k f o s i :: cpr a k f o s (i + 1) m).map Pc.t) = 0
  rw [List.map_cons]
  unfold LN.bst
  rw [if_pos]
  rw [List.all_eq_true]
  intro y hy
  obtain ⟨p, hp, rfl⟩ := List.mem_map.1 hy
  have := (cpr_ge m (i + 1) p hp).1
  refine decide_eq_true ?_
  show a + (i : Int) ≤ p.t
  omega
theorem cpr_ord : ∀ (m i : Nat), LN.Ord (cpr a k f o s i m)
  | 0, i => List.Pairwise.nil
  | m + 1, i => by
    refine List.Pairwise.cons (fun p hp => .inr ?_) (cpr_ord m (i + 1))
    have := cpr_ge m (i + 1) p hp
    refine ⟨this.2.symm, ?_⟩
    show a + (i : Int) < p.t
    have := this.1
    omega
theorem cpr_len : ∀ (m i : Nat), (cpr a k f o s i m).length = m
  | 0, i => rfl
  | m + 1, i => by
    show (cpr a k f o s (i + 1) m).length + 1 = m + 1
    rw [cpr_len m (i + 1)]
end
theorem nodes01 : nodeB 2 0 = true ∧ nodeB 2 1 = true := by decide
end Go.Proofs.Ytgphdgalcbcamaa
