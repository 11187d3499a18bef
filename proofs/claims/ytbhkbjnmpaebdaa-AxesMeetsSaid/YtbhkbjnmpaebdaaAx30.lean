/- Rows: more laws. No conditions. -/
import Derived.Test.YtbhkbjnmpaebdaaAx29
namespace Go.Proofs.Ytbhkbjnmpaebdaa
set_option maxRecDepth 100000
set_option linter.unusedVariables false
open Go.RowKit Go.Deep
/-- A region put behind regions of our own. -/
theorem RgO.app {W1 W2 : World} {B : Nat} {v v' : Value} {vs : List Value} {R : List (List AX.Tn)} {r : List AX.Tn} {ra : Option Addr} {rn rc : Nat} {W0 : World} (h : RgO W1 B v vs R) (ht : TnAt W0 (.slice ra rn rc) r) (hB : W0.heap.size ≤ B) (h01 : Below W0.heap.size W0 W1)
    (hg : W1.grownBy W2 v.ownBlock) (hown : W2.ownsRow B 42 1 v' (R.length + 1) (vs ++ [.slice ra rn rc])) (hat : v'.ownBlock = v.ownBlock ∨ v'.ownBlock = some W1.heap.size) : RgO W2 B v' (vs ++ [.slice ra rn rc]) (R ++ [r]) := by
  have hvl : vs.length = R.length := by have := h.1.1; omega
  have ht' := ht
  obtain ⟨a0, c0, e0, -⟩ := ht'
  injection e0 with e1 e2 e3
  subst e2
  refine ⟨by rw [List.length_append]; exact hown, fun i r' hr => ?_⟩
  have hcell : ∀ q (p : Nat), q < W1.heap.size → v.ownBlock ≠ some q → W2.cell? ⟨q, p, none⟩ = W1.cell? ⟨q, p, none⟩ := fun q p hq hne => World.cell?_of_block (a := ⟨q, p, none⟩) (hg.block q hq hne.symm)
  have hs2 : W1.heap.size ≤ W2.heap.size := hg.size
  have hnew : ∀ q, q < W1.heap.size → v.ownBlock ≠ some q → v'.ownBlock ≠ some q := fun q hq hne e => by
    rcases hat with h1 | h1
    · exact hne (h1.symm.trans e)
    · have := Option.some.inj (h1.symm.trans e)
      omega
  by_cases hi : i < R.length
  · rw [List.getElem?_append_left hi] at hr
    obtain ⟨ra', rc', e, h2⟩ := h.2 i r' hr
    refine ⟨ra', rc', by rw [List.getElem?_append_left (by omega)]; exact e, ?_⟩
    rcases h2 with h2 | ⟨g, o', e2, hg', hne, hc⟩
    · exact .inl h2
    · refine .inr ⟨g, o', e2, by omega, hnew g hg' hne, fun j z hz => ?_⟩
      rw [hcell g _ hg' hne, hcell g _ hg' hne, hcell g _ hg' hne]
      exact hc j z hz
  · rw [List.getElem?_append_right (by omega)] at hr
    obtain ⟨hi0, rfl⟩ : i - R.length = 0 ∧ r = r' := by
      cases hd : i - R.length with
      | zero => rw [hd] at hr; exact ⟨rfl, by simpa using hr⟩
      | succ j => rw [hd] at hr; simp at hr
    refine ⟨ra, rc, by rw [List.getElem?_append_right (by omega), hvl, hi0]; rfl, ?_⟩
    obtain ⟨a, c, e, h3⟩ := ht
    injection e with e1 e2 e3
    subst e1
    rcases h3 with h3 | ⟨g, o', e2, hg', hc⟩
    · exact .inl h3
    · have hg1 : g < W1.heap.size := Nat.lt_of_lt_of_le hg' h01.size
      have hne : v.ownBlock ≠ some g := fun e => by
        have h1 := (h.1.lt g e).1
        omega
      refine .inr ⟨g, o', e2, by omega, hnew g hg1 hne, fun j z hz => ?_⟩
      rw [hcell g _ hg1 hne, hcell g _ hg1 hne, hcell g _ hg1 hne]
      exact ⟨(h01.cell (p := ⟨g, o' + j * 3, none⟩) hg').trans (hc j z hz).1, (h01.cell (p := ⟨g, o' + j * 3 + 1, none⟩) hg').trans (hc j z hz).2.1, (h01.cell (p := ⟨g, o' + j * 3 + 2, none⟩) hg').trans (hc j z hz).2.2⟩
theorem regs_len (LL : List (List Int)) (n : Nat) : (regs LL n).length ≤ 4 := by unfold regs; rw [List.length_map, List.length_take]; omega
theorem regs_mem {LL : List (List Int)} {n : Nat} {r : List AX.Tn} (h : r ∈ regs LL n) : ∃ l, r = AX.mkReg l n := by
  unfold regs at h
  obtain ⟨l, -, e⟩ := List.mem_map.1 h
  exact ⟨l, e.symm⟩
theorem rtouches_c {r : List AX.Tn} {l : List AX.Pr} {b : Bool} (h : AX.touches r l = b) (va v : Value) (w : World) (hal : r.length ≤ 1000000000000) (hl : l.length ≤ 1000000000000) (ha : TnAt w va r) (hv : PrAt w v l) :
    Calls Try.prog 37 #[.agg #[va], v] w fun e w' => e = .returned (.bool b) ∧ Below w.heap.size w w' := by
  have := rtouches_any r l va v w hal hl ha hv
  rwa [h] at this
theorem rwithin_c {at' : List Int} {l : List AX.Pr} {b : Bool} (h : AX.within at' l = b) (va v : Value) (w : World) (hal : at'.length ≤ 1000000000000) (hl : l.length ≤ 1000000000000) (ha : InAt w va at') (hv : PrAt w v l) :
    Calls Try.prog 35 #[va, v] w fun e w' => e = .returned (.bool b) ∧ Below w.heap.size w w' := by
  have := rwithin_any at' l va v w hal hl ha hv
  rwa [h] at this
/-- A row of ranges cut off behind m elements. -/
theorem prarg_take {W : World} {a : Option Addr} {n c m : Nat} {l : List AX.Pr} (h : PrArg W (.slice a n c) l) (hm : m ≤ n) : SrcN 2 W (.slice a m c) m (AX.prc (l.take m)) ∧ (l.take m).length = m ∧ m ≤ c := by
  obtain ⟨h1, h2, h3⟩ := h
  have h1' := h1
  obtain ⟨a', c', e, -⟩ := h1'
  injection e with e1 e2 e3
  subst e2
  have := (h3 _ _ _ rfl).1
  refine ⟨by rw [AX.prc, AX.flat_take AX.prv_len]; exact h1.take hm, by rw [List.length_take]; omega, by omega⟩
end Go.Proofs.Ytbhkbjnmpaebdaa
