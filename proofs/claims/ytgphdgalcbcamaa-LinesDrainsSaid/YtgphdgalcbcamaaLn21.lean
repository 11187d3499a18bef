/- What is due: the copies of one message that wait. No conditions. -/
import Derived.Test.YtgphdgalcbcamaaLn20
namespace Go.Proofs.Ytgphdgalcbcamaa.LN
set_option linter.unusedVariables false
/-- The times of the copies of message j that wait. -/
def due (R : List Pc) (j : Nat) : List Int := (R.filter fun p => decide (p.n = (j : Int))).map Pc.t
theorem due_app (A B : List Pc) (j : Nat) : due (A ++ B) j = due A j ++ due B j := by unfold due; rw [List.filter_append, List.map_append]
theorem due_none {A : List Pc} {j : Nat} (h : ∀ p ∈ A, p.n ≠ (j : Int)) : due A j = [] := by
  unfold due
  rw [List.filter_eq_nil_iff.2 (fun p hp => by simpa using h p hp)]
  rfl
theorem due_cons (p : Pc) (B : List Pc) (j : Nat) : due (p :: B) j = if p.n = (j : Int) then p.t :: due B j else due B j := by
  unfold due
  rw [List.filter_cons]
  by_cases h : p.n = (j : Int)
  · rw [if_pos h, if_pos (decide_eq_true h)]
    rfl
  · rw [if_neg h, if_neg (by simpa using h)]
theorem due_best {R : List Pc} {p : Pc} {j : Nat} (ho : Ord R) (hp : R[bs R]? = some p) (hj : p.n = (j : Int)) : due R j = p.t :: due (R.eraseIdx (bs R)) j := by
  obtain ⟨A, B, rfl, hA, hB⟩ := bs_split hp
  rw [(bs_app hA hB).2.2, due_app, due_app, due_cons, if_pos hj]
  have hn : due A j = [] := due_none fun a ha e => by
    have h1 := (List.pairwise_append.1 ho).2.2 a ha p List.mem_cons_self
    have h2 := hA a ha
    omega
  rw [hn]
  rfl
theorem due_other {R : List Pc} {p : Pc} {j : Nat} (hp : R[bs R]? = some p) (hj : p.n ≠ (j : Int)) : due (R.eraseIdx (bs R)) j = due R j := by
  obtain ⟨A, B, rfl, hA, hB⟩ := bs_split hp
  rw [(bs_app hA hB).2.2, due_app, due_app, due_cons, if_neg hj]
theorem best_le {R : List Pc} {p : Pc} (hp : R[bs R]? = some p) : ∀ q ∈ R, p.t ≤ q.t := by
  obtain ⟨A, B, rfl, hA, hB⟩ := bs_split hp
  intro q hq
  rcases List.mem_append.1 hq with hq | hq
  · exact Int.le_of_lt (hA q hq)
  · rcases List.mem_cons.1 hq with rfl | hq
    · exact Int.le_refl _
    · exact hB q hq
end Go.Proofs.Ytgphdgalcbcamaa.LN
namespace Go.Proofs.Ytgphdgalcbcamaa
set_option maxRecDepth 100000
set_option linter.unusedVariables false
open Go.RowKit Go.Deep
theorem due_cps (a : Int) (k : Nat) (f o : Int) (s : ByteArray) (c j : Nat) : LN.due (cps a k f o s c) j = if k = j then (List.range c).map (fun (i : Nat) => a + (i : Int)) else [] := by
  by_cases h : k = j
  · rw [if_pos h]
    unfold LN.due cps
    rw [List.filter_eq_self.2 (fun p hp => by
      obtain ⟨i, -, rfl⟩ := List.mem_map.1 hp
      exact decide_eq_true (show ((k : Nat) : Int) = (j : Int) by omega)), List.map_map]
    rfl
  · rw [if_neg h]
    refine LN.due_none fun p hp => ?_
    obtain ⟨i, -, rfl⟩ := List.mem_map.1 hp
    show ((k : Nat) : Int) ≠ (j : Int)
    omega
/-- The times of messages, modulo 1000; what waits when k were sent. -/
def dAt (L : List Int) (i : Nat) : Int := (L.getD i 0) % 1000
def DP (T : List Tr) (L : List Int) : Nat → List Pc
  | 0 => []
  | i + 1 => sendP T 2 i (dAt L i) 0 1 (LN.txt i) (DP T L i)
theorem DP_sn (T : List Tr) (L : List Int) : ∀ i, Sn (DP T L i) i
  | 0 => Sn.nil
  | i + 1 => (DP_sn T L i).send T 2 _ 0 1 _
theorem DP_gd (T : List Tr) (L : List Int) : ∀ i, LN.Gd i (DP T L i)
  | 0 => fun p hp => by cases hp
  | i + 1 => Gd.send (DP_gd T L i)
/-- All go from 0 to 1. -/
theorem DP_ends (T : List Tr) (L : List Int) : ∀ i, ∀ p ∈ DP T L i, p.f = 0 ∧ p.o = 1
  | 0, p, hp => by cases hp
  | i + 1, p, hp => by
    unfold DP sendP at hp
    split at hp
    · exact DP_ends T L i p hp
    · rcases List.mem_append.1 hp with hp | hp
      · exact DP_ends T L i p hp
      · obtain ⟨j, -, rfl⟩ := List.mem_map.1 hp
        exact ⟨rfl, rfl⟩
/-- What is due of message j, once more were sent. -/
theorem DP_due_old (T : List Tr) (L : List Int) (i j : Nat) (h : j ≠ i) : LN.due (DP T L (i + 1)) j = LN.due (DP T L i) j := by
  show LN.due (sendP T 2 i (dAt L i) 0 1 (LN.txt i) (DP T L i)) j = _
  unfold sendP
  split
  · rfl
  · rw [LN.due_app, due_cps, if_neg (by omega), List.append_nil]
theorem DP_due_none (T : List Tr) (L : List Int) (i j : Nat) (h : i ≤ j) : LN.due (DP T L i) j = [] := LN.due_none fun p hp => by
  have := (DP_gd T L i p hp).2.2
  omega
theorem DP_due_new (T : List Tr) (L : List Int) (i : Nat) : LN.due (DP T L (i + 1)) i = if (tro T i).l = true then [] else (List.range (clp (tro T i).c 1 9).toNat).map (fun (j : Nat) => clp (dAt L i) 0 1048576 + clp (tro T i).d 0 1048576 + (j : Int)) := by
  show LN.due (sendP T 2 i (dAt L i) 0 1 (LN.txt i) (DP T L i)) i = _
  unfold sendP
  rw [nodes01.1, nodes01.2]
  cases (tro T i).l
  · show LN.due (DP T L i ++ cps _ i _ _ _ _) i = _
    rw [LN.due_app, due_cps, if_pos rfl, DP_due_none T L i i (Nat.le_refl _)]
    rfl
  · exact DP_due_none T L i i (Nat.le_refl _)
theorem DP_pos (T : List Tr) (L : List Int) : ∀ i, ∀ p ∈ DP T L i, 0 ≤ p.t
  | 0, p, hp => by cases hp
  | i + 1, p, hp => by
    unfold DP sendP at hp
    split at hp
    · exact DP_pos T L i p hp
    · rcases List.mem_append.1 hp with hp | hp
      · exact DP_pos T L i p hp
      · obtain ⟨j, -, rfl⟩ := List.mem_map.1 hp
        have h1 := clp_bd (dAt L i) (show (0 : Int) ≤ 1048576 by decide)
        have h2 := clp_bd (tro T i).d (show (0 : Int) ≤ 1048576 by decide)
        show 0 ≤ clp (dAt L i) 0 1048576 + clp (tro T i).d 0 1048576 + (j : Int)
        omega
end Go.Proofs.Ytgphdgalcbcamaa
