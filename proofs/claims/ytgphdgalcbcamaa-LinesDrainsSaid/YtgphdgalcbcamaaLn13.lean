/- Texts of one byte; messages that are sent once. No conditions. -/
import Derived.Test.YtgphdgalcbcamaaLn12
import Derived.Test.YtgphdgalcbcamaaMod
namespace Go.Proofs.Ytgphdgalcbcamaa.LN
set_option linter.unusedVariables false
def txt (k : Nat) : ByteArray := ByteArray.empty.push (UInt8.ofNat k)
/-- In the order of their numbers, each number once. -/
def Inc (P : List Pc) : Prop := P.Pairwise fun p q => p.n < q.n
theorem Inc.ord {P : List Pc} (h : Inc P) : Ord P := List.Pairwise.imp (fun h => .inl h) h
theorem erase_n : ∀ {R : List Pc} {i : Nat} {p : Pc}, Inc R → R[i]? = some p → R.eraseIdx i = R.filter fun q => decide (q.n ≠ p.n)
  | [], i, p, _, h => by simp at h
  | x :: R, 0, p, hR, h => by
    obtain rfl : x = p := by simpa using h
    have h1 := (List.pairwise_cons.1 hR).1
    rw [List.eraseIdx_zero, List.tail_cons, List.filter_cons]
    simp only [ne_eq, not_true_eq_false, decide_false]
    have : R.filter (fun q => decide (¬ q.n = x.n)) = R := List.filter_eq_self.2 fun q hq => decide_eq_true (by have := h1 q hq; omega)
    simpa using this.symm
  | x :: R, i + 1, p, hR, h => by
    have hp : R[i]? = some p := by simpa using h
    have h1 := (List.pairwise_cons.1 hR).1 p (List.mem_of_getElem? hp)
    have ih := erase_n (List.pairwise_cons.1 hR).2 hp
    rw [List.eraseIdx_cons_succ, ih, List.filter_cons, if_pos (decide_eq_true (by omega))]
theorem filter_best {P : List Pc} {f : Pc → Bool} {p : Pc} (hP : Inc P) (hp : p ∈ P.filter f) (hm : ∀ q ∈ P.filter f, p.t ≤ q.t ∧ (q.t = p.t → p.n ≤ q.n)) :
    (P.filter f)[bs (P.filter f)]? = some p ∧ (P.filter f).eraseIdx (bs (P.filter f)) = P.filter fun q => f q && decide (q.n ≠ p.n) := by
  have hR : Inc (P.filter f) := List.Pairwise.sublist List.filter_sublist hP
  obtain ⟨b, hb⟩ := bs_some (P := P.filter f) (List.ne_nil_of_mem hp)
  have hbp : b = p := by
    obtain ⟨i, hi⟩ := List.getElem?_of_mem hp
    have hm' := hm b (List.mem_of_getElem? hb)
    obtain ⟨m, h1, h2, h3⟩ := bst_spec ((P.filter f).map Pc.t) (by simpa using List.ne_nil_of_mem hp)
    rw [show bst ((P.filter f).map Pc.t) = bs (P.filter f) from rfl, List.getElem?_map, hb] at h1
    obtain rfl : b.t = m := by simpa using h1
    have h4 := h3 i p.t (by rw [List.getElem?_map, hi]; rfl)
    have hlb := (List.getElem?_eq_some_iff.1 hb).1
    have hli := (List.getElem?_eq_some_iff.1 hi).1
    rcases Nat.lt_trichotomy i (bs (P.filter f)) with h | h | h
    · have := h2 i p.t h (by rw [List.getElem?_map, hi]; rfl)
      omega
    · rw [h, hb] at hi
      exact Option.some.inj hi
    · have := (List.pairwise_iff_getElem.1 hR) (bs (P.filter f)) i hlb hli h
      rw [(List.getElem?_eq_some_iff.1 hb).2, (List.getElem?_eq_some_iff.1 hi).2] at this
      have h5 := hm'.2 (by omega)
      omega
  subst hbp
  refine ⟨hb, ?_⟩
  rw [erase_n hR hb, List.filter_filter]
  exact List.filter_congr fun q _ => Bool.and_comm _ _
def ta (L : List Int) (j : Nat) : Int := (L.getD j 0) % 5
def pa (L : List Int) (j : Nat) : Pc := ⟨ta L j, (j : Int), 0, 1, txt j⟩
def PA (L : List Int) (n : Nat) : List Pc := (List.range n).map (pa L)
theorem ta_bd (L : List Int) (j : Nat) : 0 ≤ ta L j ∧ ta L j < 5 := by unfold ta; omega
theorem PA_len (L : List Int) (n : Nat) : (PA L n).length = n := by simp [PA]
theorem PA_next (L : List Int) (n : Nat) : PA L (n + 1) = PA L n ++ [pa L n] := by simp [PA, List.range_succ]
theorem PA_mem {L : List Int} {n : Nat} {q : Pc} (h : q ∈ PA L n) : ∃ j, j < n ∧ q = pa L j := by
  obtain ⟨j, hj, rfl⟩ := List.mem_map.1 h
  exact ⟨j, List.mem_range.1 hj, rfl⟩
theorem PA_inc (L : List Int) (n : Nat) : Inc (PA L n) := by
  unfold PA Inc
  rw [List.pairwise_map]
  exact List.Pairwise.imp (fun {a b} h => (show ((a : Nat) : Int) < ((b : Nat) : Int) by omega)) List.pairwise_lt_range
/-- What is left at a time, from a number on. -/
def RA (L : List Int) (n A k : Nat) : List Pc := (PA L n).filter fun p => decide ((A : Int) < p.t ∨ (p.t = (A : Int) ∧ (k : Int) ≤ p.n))
theorem RA_inc (L : List Int) (n A k : Nat) : Inc (RA L n A k) := List.Pairwise.sublist List.filter_sublist (PA_inc L n)
theorem RA_len (L : List Int) (n A k : Nat) : (RA L n A k).length ≤ n := by
  have := (List.filter_sublist (p := fun p : Pc => decide ((A : Int) < p.t ∨ (p.t = (A : Int) ∧ (k : Int) ≤ p.n))) (l := PA L n)).length_le
  rw [PA_len] at this
  exact this
theorem RA_start (L : List Int) (n : Nat) : RA L n 0 0 = PA L n := by
  refine List.filter_eq_self.2 fun q hq => decide_eq_true ?_
  obtain ⟨j, hj, rfl⟩ := PA_mem hq
  have := ta_bd L j
  show ((0 : Nat) : Int) < ta L j ∨ (ta L j = ((0 : Nat) : Int) ∧ ((0 : Nat) : Int) ≤ (j : Int))
  omega
theorem RA_end (L : List Int) (n : Nat) : RA L n 5 0 = [] := by
  refine List.filter_eq_nil_iff.2 fun q hq => ?_
  obtain ⟨j, hj, rfl⟩ := PA_mem hq
  have := ta_bd L j
  intro h
  have h := of_decide_eq_true h
  have h' : ((5 : Nat) : Int) < ta L j ∨ (ta L j = ((5 : Nat) : Int) ∧ ((0 : Nat) : Int) ≤ (j : Int)) := h
  omega
theorem RA_up (L : List Int) (n A : Nat) : RA L n A n = RA L n (A + 1) 0 := by
  refine List.filter_congr fun q hq => ?_
  obtain ⟨j, hj, rfl⟩ := PA_mem hq
  rw [decide_eq_decide]
  show (A : Int) < ta L j ∨ (ta L j = (A : Int) ∧ (n : Int) ≤ (j : Int)) ↔ ((A + 1 : Nat) : Int) < ta L j ∨ (ta L j = ((A + 1 : Nat) : Int) ∧ ((0 : Nat) : Int) ≤ (j : Int))
  omega
theorem RA_other (L : List Int) (n A k : Nat) (h : ta L k ≠ (A : Int)) : RA L n A k = RA L n A (k + 1) := by
  refine List.filter_congr fun q hq => ?_
  obtain ⟨j, hj, rfl⟩ := PA_mem hq
  rw [decide_eq_decide]
  show (A : Int) < ta L j ∨ (ta L j = (A : Int) ∧ (k : Int) ≤ (j : Int)) ↔ (A : Int) < ta L j ∨ (ta L j = (A : Int) ∧ ((k + 1 : Nat) : Int) ≤ (j : Int))
  by_cases e : j = k
  · subst e
    omega
  · omega
theorem RA_gives (L : List Int) (n A k : Nat) (hk : k < n) (h : ta L k = (A : Int)) : (RA L n A k)[bs (RA L n A k)]? = some (pa L k) ∧ (RA L n A k).eraseIdx (bs (RA L n A k)) = RA L n A (k + 1) := by
  have hmem : pa L k ∈ PA L n := List.mem_map.2 ⟨k, List.mem_range.2 hk, rfl⟩
  have hh := filter_best (P := PA L n) (f := fun p => decide ((A : Int) < p.t ∨ (p.t = (A : Int) ∧ (k : Int) ≤ p.n))) (p := pa L k) (PA_inc L n) (List.mem_filter.2 ⟨hmem, decide_eq_true (.inr ⟨h, Int.le_refl _⟩)⟩) (fun q hq => by
    obtain ⟨h1, h2⟩ := List.mem_filter.1 hq
    have h2 := of_decide_eq_true h2
    have ht : (pa L k).t = (A : Int) := h
    have hn : (pa L k).n = (k : Int) := rfl
    omega)
  refine ⟨hh.1, hh.2.trans (List.filter_congr fun q hq => ?_)⟩
  obtain ⟨j, hj, rfl⟩ := PA_mem hq
  rw [Bool.eq_iff_iff, Bool.and_eq_true, decide_eq_true_eq, decide_eq_true_eq, decide_eq_true_eq]
  show ((A : Int) < ta L j ∨ (ta L j = (A : Int) ∧ (k : Int) ≤ (j : Int))) ∧ ¬ (j : Int) = (k : Int) ↔ (A : Int) < ta L j ∨ (ta L j = (A : Int) ∧ ((k + 1 : Nat) : Int) ≤ (j : Int))
  by_cases e : j = k
  · subst e
    omega
  · omega
end Go.Proofs.Ytgphdgalcbcamaa.LN
namespace Go.Proofs.Ytgphdgalcbcamaa
set_option maxRecDepth 100000
set_option linter.unusedVariables false
open Go.RowKit Go.Deep
theorem conv_new (W : World) (k : Nat) : Sem.run Try.prog (convert 40 9 (.slice (some ⟨W.heap.size, 0, none⟩) 1 1)) (W.alloc (.cells #[.int .u8 (k : Int)] 5)) = .ok (.string (LN.txt k)) (W.alloc (.cells #[.int .u8 (k : Int)] 5)) := by
  have h := run_convert_bytes_string (P := Try.prog) (W.alloc (.cells #[.int .u8 (k : Int)] 5)) 40 9 5 (some ⟨W.heap.size, 0, none⟩) 1 1 Try.underlying40 Try.underlying5 Try.underlying9
  rw [h]
  have hl := run_loadCells_list (P := Try.prog) (W.alloc (.cells #[.int .u8 (k : Int)] 5)) ⟨W.heap.size, 0, none⟩ [.int .u8 (k : Int)] (fun j v hj => by
    match j, hj with
    | 0, hj =>
      simp at hj
      subst hj
      rw [Addr.add_lit]
      exact nd_cell (heap_alloc_new W (.cells #[.int .u8 (k : Int)] 5)) rfl
    | j + 1, hj => simp at hj)
  exact run_bytesToString _ _ 1 1 [(k : Int)] hl
theorem u8_wrap (k : Nat) (h : k < 256) : IntKind.u8.wrap (k : Int) = (k : Int) := by
  have hmin : IntKind.u8.min = 0 := rfl
  have hmax : IntKind.u8.max = 255 := rfl
  rw [IntKind.wrap_u8]
  omega
theorem sendP_once (L : List Int) (i : Nat) : sendP [] 2 i (LN.ta L i) 0 1 (LN.txt i) (LN.PA L i) = LN.PA L (i + 1) := by
  have hb := LN.ta_bd L i
  have h0 : tro [] i = ⟨false, 1, 0⟩ := rfl
  have h1 : clp (LN.ta L i) 0 1048576 = LN.ta L i := by unfold clp; omega
  have h2 : clp 0 0 1048576 = 0 := by decide
  have h3 : (clp 1 1 9).toNat = 1 := by decide
  unfold sendP
  rw [h0, nodes01.1, nodes01.2]
  dsimp only
  rw [h1, h2, h3, LN.PA_next]
  show LN.PA L i ++ [cpy (LN.ta L i + 0) i 0 1 (LN.txt i) 0] = LN.PA L i ++ [LN.pa L i]
  unfold cpy LN.pa
  simp
end Go.Proofs.Ytgphdgalcbcamaa
