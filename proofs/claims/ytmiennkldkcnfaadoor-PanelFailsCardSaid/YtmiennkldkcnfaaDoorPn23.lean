/- For the law on plans: how long a plan is; two cells that are stored. No conditions. -/
import Derived.Test.YtmiennkldkcnfaaDoorPn22
namespace Go.Proofs.YtmiennkldkcnfaaDoor
set_option maxRecDepth 100000
set_option linter.unusedVariables false
open Go.ChangeShapes Go.WideShapes Go.ChangeAt Go.RowKit Go.Joins Go.Deep
theorem red_len (most : Nat) : ∀ (n : Nat) (l : List Rc), l.length ≤ n → (PN.red most l).length ≤ l.length
  | 0, l, h => by rw [PN.red_end (by omega)]; exact Nat.le_refl _
  | n + 1, l, h => by
    by_cases h1 : most < l.length ∧ 1 ≤ most
    · have h2 := PN.jn1_len (l := l) (by omega)
      rw [PN.red_go h1.1 h1.2]
      have := red_len most n (PN.jn1 l) (by omega)
      omega
    · by_cases h2 : most < l.length
      · rw [PN.red, dif_neg h1]
        exact Nat.le_refl _
      · rw [PN.red_end h2]
        exact Nat.le_refl _
theorem planP_len (A B : List Nat) (w most : Int) : (planP A B w most).length ≤ 64 := by
  unfold planP
  split
  · rename_i h
    have h1 := red_len most.toNat _ (PN.pl (PN.df A B w.toNat) A.length).1 (Nat.le_refl _)
    have h2 := PN.pl_len (PN.df A B w.toNat) A.length
    have h3 := h.2.2.2.1
    show (PN.red most.toNat (PN.pl (PN.df A B w.toNat) A.length).1).length ≤ 64
    omega
  · simp
theorem set2 {w : World} {X : Nat} {u0 u1 : Value} {T : TypeId} (h : w.heap[X]? = some (.cells #[u0, u1] T (0, 0))) (a b : Value) :
    ∃ V, (w.setCell ⟨X, 0, none⟩ a).setCell ⟨X, 1, none⟩ b = V ∧ V.heap[X]? = some (.cells #[a, b] T (0, 0)) ∧ FrS (fun y => y = X) w V := by
  have s := fun (V : World) (i : Nat) (u : Value) => FrS.set (S := fun b => b = X) V (b := X) (i := i) rfl u
  refine ⟨_, rfl, ?_, (s _ _ _).trans (s _ _ _)⟩
  exact heap_setCell_same _ X 1 _ T b (heap_setCell_same w X 0 _ T a h)
theorem UsArg.keep {W V : World} {v : Value} {L : List Nat} (h : UsArg W v L) (hb : Below W.heap.size W V) : UsArg V v L := ⟨h.ua.keep hb, h.len, h.cap, h.lt⟩
/-- A row of a few elements, and what it is worth. -/
structure Rw (U : World) (a : Option Addr) (n c : Nat) (L : List Nat) : Prop where
  ua : UA U (.slice a n c) L
  len : L.length = n
  n66 : n ≤ 66
  lt : ∀ x ∈ L, x < 18446744073709551616
theorem Rw.keep {U V : World} {a : Option Addr} {n c : Nat} {L : List Nat} (h : Rw U a n c L) (hb : Below U.heap.size U V) : Rw V a n c L := ⟨h.ua.keep hb, h.len, h.n66, h.lt⟩
theorem Rw.take {U : World} {a : Option Addr} {n c m : Nat} {L : List Nat} (h : Rw U a n c L) (hm : m ≤ n) : Rw U a m c (L.take m) := by
  have hu := h.ua
  unfold UA at hu
  rw [h.len] at hu
  have hl : (L.take m).length = m := by rw [List.length_take, h.len]; omega
  have hs := SrcN.take hu hm
  rw [Nat.mul_one, ← List.map_take] at hs
  refine ⟨?_, hl, by have := h.n66; omega, fun x hx => h.lt x (List.mem_of_mem_take hx)⟩
  unfold UA
  rw [hl]
  exact hs
/-- Two plans of the same rows are the same. -/
theorem plan_rw {U : World} (t0 : Nat × Nat) (hld : Laid U t0) {a1 a2 : Option Addr} {n1 c1 n2 c2 : Nat} {A B : List Nat} (pw most : Int) (ha : Rw U a1 n1 c1 A) (hb : Rw U a2 n2 c2 B) (hm : most ≤ 9223372036854775807) :
    Calls Tryd.prog 22 #[.slice a1 n1 c1, .slice a2 n2 c2, .int .i64 pw, .int .i64 most] U fun e W' => ∃ v', e = .returned v' ∧ SrcN 4 W' v' (planP A B pw most).length (rcs (planP A B pw most)) ∧ Below U.heap.size U W' :=
  (plan_any U t0 hld _ _ A B pw most ha.ua hb.ua (by have := ha.len; have := ha.n66; omega) (by have := hb.len; have := hb.n66; omega) hm ha.lt hb.lt).mono fun e W' ⟨v', h1, h2, h3⟩ => ⟨v', h1, own_srcN h2, h3⟩
theorem rplan_rw {U : World} {a1 a2 : Option Addr} {n1 c1 n2 c2 : Nat} {A B : List Nat} (pw most : Int) (ha : Rw U a1 n1 c1 A) (hb : Rw U a2 n2 c2 B) (hm : most ≤ 9223372036854775807) :
    Calls Tryd.prog 23 #[.slice a1 n1 c1, .slice a2 n2 c2, .int .i64 pw, .int .i64 most] U fun e W' => ∃ v', e = .returned v' ∧ SrcN 4 W' v' (planP A B pw most).length (rcs (planP A B pw most)) ∧ Below U.heap.size U W' :=
  (rplan_any U _ _ A B pw most ha.ua hb.ua (by have := ha.len; have := ha.n66; omega) (by have := hb.len; have := hb.n66; omega) hm ha.lt hb.lt).mono fun e W' ⟨v', h1, h2, h3⟩ => ⟨v', h1, own_srcN h2, h3⟩
end Go.Proofs.YtmiennkldkcnfaaDoor
