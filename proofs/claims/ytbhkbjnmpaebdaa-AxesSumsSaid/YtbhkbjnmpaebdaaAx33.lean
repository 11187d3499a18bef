/- Pairs in rows that are stored into. No conditions. -/
import Derived.Test.YtbhkbjnmpaebdaaAx32
namespace Go.Proofs.Ytbhkbjnmpaebdaa.AX
set_option linter.unusedVariables false
theorem prc_get (P : List Pr) {k : Nat} {p : Pr} (h : P[k]? = some p) : (prc P)[k * 2]? = some (.int .i64 p.1) ∧ (prc P)[k * 2 + 1]? = some (.int .i64 p.2) :=
  ⟨flat_at prv_len P k p 0 _ h rfl, flat_at prv_len P k p 1 _ h rfl⟩
theorem prc_set0 : ∀ (P : List Pr) (k : Nat) (p : Pr) (z : Int), P[k]? = some p → (prc P).set (k * 2) (.int .i64 z) = prc (P.set k (z, p.2))
  | [], k, p, z, h => by simp at h
  | q :: P, 0, p, z, h => by
    obtain rfl : q = p := by simpa using h
    rfl
  | q :: P, k + 1, p, z, h => by
    have h' : P[k]? = some p := by simpa using h
    rw [show (k + 1) * 2 = k * 2 + 1 + 1 by omega]
    show Value.int .i64 q.1 :: Value.int .i64 q.2 :: (prc P).set (k * 2) (.int .i64 z) = Value.int .i64 q.1 :: Value.int .i64 q.2 :: prc (P.set k (z, p.2))
    rw [prc_set0 P k p z h']
theorem prc_set1 : ∀ (P : List Pr) (k : Nat) (p : Pr) (z : Int), P[k]? = some p → (prc P).set (k * 2 + 1) (.int .i64 z) = prc (P.set k (p.1, z))
  | [], k, p, z, h => by simp at h
  | q :: P, 0, p, z, h => by
    obtain rfl : q = p := by simpa using h
    rfl
  | q :: P, k + 1, p, z, h => by
    have h' : P[k]? = some p := by simpa using h
    rw [show (k + 1) * 2 + 1 = k * 2 + 1 + 1 + 1 by omega]
    show Value.int .i64 q.1 :: Value.int .i64 q.2 :: (prc P).set (k * 2 + 1) (.int .i64 z) = Value.int .i64 q.1 :: Value.int .i64 q.2 :: prc (P.set k (p.1, z))
    rw [prc_set1 P k p z h']
end Go.Proofs.Ytbhkbjnmpaebdaa.AX
namespace Go.Proofs.Ytbhkbjnmpaebdaa
set_option maxRecDepth 100000
set_option linter.unusedVariables false
open Go.RowKit Go.Deep
theorem info_gr : (Try.prog.info? 60).map (fun i => (i.zero, i.size, i.bytes)) = some (some (.agg #[.int .i64 0, .int .i64 0]), 2, 16) := by kernel_rfl
/-- A row of our own that is not empty lies at the beginning of a block. -/
theorem own_addr {W : World} {B e k n : Nat} {a : Option Addr} {c : Nat} {U : List Value} (h : W.ownsRow B e k (.slice a n c) n U) (hn : 0 < n) : ∃ g, a = some ⟨g, 0, none⟩ ∧ B ≤ g := by
  rcases h.2 with ⟨e, h0⟩ | ⟨g, cap, cur, e, hb, -⟩
  · omega
  · injection e with e1
    exact ⟨g, e1, hb⟩
theorem rsum_c {base : Int} {l : List (Int × Int)} {R : List (List AX.Tn)} {at' : List Int} {r : Int × Bool} (h : AX.sum base l R at' = r) (v vr va : Value) (w : World) (hl : l.length ≤ 1000000000000) (hR : R.length ≤ 1000000000000) (hRR : ∀ r ∈ R, r.length ≤ 1000000000000) (hal : at'.length ≤ 1000000000000) (hv : PrAt w v l) (hr : RgAt w vr R) (ha : InAt w va at') :
    Calls Try.prog 30 #[.int .i64 base, v, vr, va] w fun e w' => e = .returned (.tuple #[.int .i64 r.1, .bool r.2]) ∧ Below w.heap.size w w' := by
  have := rsum_any base l R at' v vr va w hl hR hRR hal hv hr ha
  rwa [h] at this
theorem one_block (w : World) (o : Obj) (B : Nat) (hB : w.heap.size = B) : ∃ W0, w.alloc o = W0 ∧ W0.heap[B]? = some o ∧ Below w.heap.size w W0 ∧ W0.heap.size = B + 1 := by
  subst hB
  exact ⟨_, rfl, heap_alloc_new w o, balloc (Below.refl _ _) _, by simp⟩
theorem regs_tents {LL : List (List Int)} {n : Nat} (hn : n ≤ 3) : ∀ r ∈ regs LL n, r.length ≤ 1000000000000 := fun r hr => by
  obtain ⟨l, rfl⟩ := regs_mem hr
  rw [AX.mkReg_len]
  omega
end Go.Proofs.Ytbhkbjnmpaebdaa
