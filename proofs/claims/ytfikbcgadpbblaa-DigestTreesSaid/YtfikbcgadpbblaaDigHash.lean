/- The contracts of digest.hasher and of the two functions that it hands back. -/
import Derived.Test.YtfikbcgadpbblaaDigPlain
import Derived.Laws.OwnMore
import Derived.RangeFuncBox
namespace Go.Proofs.Ytfikbcgadpbblaa
set_option linter.unusedVariables false
open Go.RowKit
/-- The two sums lie in these blocks. -/
def Hs (bx bY x y : Nat) (w : World) : Prop := w.heap[bx]? = some (.cells #[.int .u64 (x : Int)] 66 (0, 0)) ∧ w.heap[bY]? = some (.cells #[.int .u64 (y : Int)] 66 (0, 0)) ∧ bx ≠ bY
theorem Hs.out {bx bY x y : Nat} {w : World} (h : Hs bx bY x y w) : w.heap[bx]? = some (.cells #[.int .u64 (x : Int)] 66 (0, 0)) ∧ w.heap[bY]? = some (.cells #[.int .u64 (y : Int)] 66 (0, 0)) ∧ bx ≠ bY := h
theorem Hs.keep {bx bY x y : Nat} {w w' : World} (h : Hs bx bY x y w) (hb : Below w.heap.size w w') : Hs bx bY x y w' :=
  ⟨(hb.block bx (Array.getElem?_eq_some_iff.1 h.1).1).trans h.1, (hb.block bY (Array.getElem?_eq_some_iff.1 h.2.1).1).trans h.2.1, h.2.2⟩
theorem one_at {X : World} {B : Nat} {a : Value} {t : TypeId} (h : X.heap[B]? = some (.cells #[a] t (0, 0))) : X.cell? ⟨B, 0, none⟩ = some a := by
  simp [World.cell?, h]
theorem one_free {X : World} {B : Nat} {a : Value} {t : TypeId} (h : X.heap[B]? = some (.cells #[a] t (0, 0))) : X.frozen? ⟨B, 0, none⟩ = false := by
  simp [World.frozen?, h]
theorem set_one {X : World} {B : Nat} {a : Value} {t : TypeId} (u : Value) (h : X.heap[B]? = some (.cells #[a] t (0, 0))) : (X.setCell ⟨B, 0, none⟩ u).heap[B]? = some (.cells #[u] t (0, 0)) := by
  simp [World.setCell, Array.getElem?_modify, h]
theorem Hs.set {bx bY x y : Nat} {w : World} (h : Hs bx bY x y w) (x' y' : Nat) : Hs bx bY x' y' ((w.setCell ⟨bx, 0, none⟩ (.int .u64 (x' : Int))).setCell ⟨bY, 0, none⟩ (.int .u64 (y' : Int))) := by
  obtain ⟨h1, h2, h3⟩ := h
  have a1 := set_one (.int .u64 (x' : Int)) h1
  have a2 : (w.setCell ⟨bx, 0, none⟩ (.int .u64 (x' : Int))).heap[bY]? = _ := (Below.heap_setCell w ⟨bx, 0, none⟩ _ bY (fun e => h3 e.symm)).trans h2
  exact ⟨(Below.heap_setCell _ ⟨bY, 0, none⟩ _ bx h3).trans a1, set_one _ a2, h3⟩
set_option maxRecDepth 100000 in
set_option maxHeartbeats 1000000 in
theorem take_any (bx bY x y : Nat) (c : UInt8) (w : World) (h : Hs bx bY x y w) (hx : x < 2147483647) (hy : y < 2147483629) :
    Calls Try.prog 37 #[.int .u8 (c.toNat : Int), .pointer (some ⟨bx, 0, none⟩), .pointer (some ⟨bY, 0, none⟩)] w fun e w' => e = .returned (.tuple #[]) ∧ w' = (w.setCell ⟨bx, 0, none⟩ (.int .u64 (DG.fx x c : Int))).setCell ⟨bY, 0, none⟩ (.int .u64 (DG.fy y c : Int)) := by
  have c0 := one_at h.1
  have f0 := one_free h.1
  have c1 := one_at h.2.1
  have f1 := one_free h.2.1
  have hne := h.2.2
  have hc := c.toNat_lt
  obtain ⟨n, hn⟩ : ∃ n, c.toNat = n := ⟨_, rfl⟩
  have hX : DG.fx x c = (1000003 * x + n + 1) % 2147483647 := by unfold DG.fx; rw [hn]
  have hY : DG.fy y c = (69069 * y + n + 1) % 2147483629 := by unfold DG.fy; rw [hn]
  rw [hn] at hc ⊢
  rw [hX, hY]
  obtain ⟨X, hX2⟩ : ∃ X, (1000003 * x + n + 1) % 2147483647 = X := ⟨_, rfl⟩
  obtain ⟨Y, hY2⟩ : ∃ Y, (69069 * y + n + 1) % 2147483629 = Y := ⟨_, rfl⟩
  rw [hX2, hY2]
  have x0 : (1000003 : Int) * (x : Int) ≤ 2147490089486351 := by omega
  have y0 : (69069 : Int) * (y : Int) ≤ 148324546702332 := by omega
  have x1 : ((1000003 : Int) * (x : Int) + (n : Int) + 1) % 2147483647 = (X : Int) := by omega
  have y1 : ((69069 : Int) * (y : Int) + (n : Int) + 1) % 2147483629 = (Y : Int) := by omega
  have x2 : ((1000003 : Int) * (x : Int) + (n : Int) + 1).tmod 2147483647 = (X : Int) := by rw [Int.tmod_eq_emod_of_nonneg (by omega)]; exact x1
  have y2 : ((69069 : Int) * (y : Int) + (n : Int) + 1).tmod 2147483629 = (Y : Int) := by rw [Int.tmod_eq_emod_of_nonneg (by omega)]; exact y1
  have c1' : (w.setCell ⟨bx, 0, none⟩ (.int .u64 (X : Int))).cell? ⟨bY, 0, none⟩ = some (.int .u64 (y : Int)) := one_at ((Below.heap_setCell w ⟨bx, 0, none⟩ _ bY (fun e => hne e.symm)).trans h.2.1)
  have f1' : (w.setCell ⟨bx, 0, none⟩ (.int .u64 (X : Int))).frozen? ⟨bY, 0, none⟩ = false := one_free ((Below.heap_setCell w ⟨bx, 0, none⟩ _ bY (fun e => hne e.symm)).trans h.2.1)
  clear hX hY hX2 hY2 hn h
  go_enter Try.func37, Try.ntmps37
  go_wp2
  go_end0

  exact ⟨rfl, rfl⟩
end Go.Proofs.Ytfikbcgadpbblaa
