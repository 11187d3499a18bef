/- The contract of digest.of. -/
import Derived.Test.YtfikbcgadpbblaaDigSum
import Derived.Laws.CopyOwn
namespace Go.Proofs.Ytfikbcgadpbblaa.DG
def cat (l : List ByteArray) : List UInt8 := (l.map fun s => s.data.toList).flatten
theorem cat_take {l : List ByteArray} {k : Nat} (h : k < l.length) : cat (l.take (k + 1)) = cat (l.take k) ++ l[k].data.toList := by
  unfold cat
  rw [List.take_add_one, List.map_append, List.flatten_append, List.getElem?_eq_getElem h]
  congr 1
  simp
theorem take_snoc (s : ByteArray) {j : Nat} (h : j < s.size) : s.data.toList.take (j + 1) = s.data.toList.take j ++ [s[j]] := by
  have h' : j < s.data.toList.length := by simpa using h
  rw [List.take_add_one, List.getElem?_eq_getElem h']
  simp [ByteArray.getElem_eq_getElem_data]
def sumA (l : List UInt8) : Array Value := ((dig l).map fun b => Value.int .u8 (b.toNat : Int)).toArray
theorem sumV_eq (l : List UInt8) : sumV l = .agg (sumA l) := rfl
theorem sumA_size (l : List UInt8) : (sumA l).size = 8 := by simp [sumA, dig_length]
theorem sumA_one (l : List UInt8) : (sumA l).all (·.oneCell') = true := by simp [sumA, Value.oneCell']
end Go.Proofs.Ytfikbcgadpbblaa.DG
namespace Go.Proofs.Ytfikbcgadpbblaa
set_option linter.unusedVariables false
open Go.RowKit
theorem store_all (P : Program) (w : World) (g : Nat) (t : TypeId) (old C : Array Value) (hg : w.heap[g]? = some (.cells old t (0, 0))) (ho : old.size = C.size) (h1 : C.all (·.oneCell') = true) :
    (storeCells ⟨g, 0, none⟩ C.toList).run P w = .ok () (w.setRow g C) := by
  have := run_storeCells_from (P := P) g t C.toList 0 old w hg (by simp; omega) (fun v hv => (Array.all_eq_true_iff_forall_mem.1 h1) v (by simpa using hv))
  simpa using this
set_option maxRecDepth 100000 in
set_option maxHeartbeats 4000000 in
theorem of_any (a : Option Addr) (c : Nat) (ss : List ByteArray) (w : World) (hr : RowAt w (.slice a ss.length c) (ss.map Value.string)) (hn : ss.length ≤ maxLen) (hs : ∀ s ∈ ss, s.size ≤ maxLen) :
    Calls Try.prog 25 #[.slice a ss.length c] w fun e w' => e = .returned (DG.sumV (DG.cat ss)) ∧ Below w.heap.size w w' := by
  have HR : Hid (∀ wr, Below w.heap.size w wr → ∀ k, ∀ hk : k < ss.length, ∃ g o, a = some ⟨g, o, none⟩ ∧ g < wr.heap.size ∧ wr.cell? ⟨g, o + k, none⟩ = some (.string ss[k])) := Lib.hid (fun wr hb k hk => by
    have := (hr.keep hb).cell (a := a) (k := k) (by simpa using hk)
    simpa using this)
  have HS := Lib.hid hs
  unfold maxLen at hn
  clear hr hs
  go_enter Try.func25, Try.ntmps25
  go_wp2_with (first | (go_at_call 33; refine (hasher_any _).mono ?_; rintro e w1 ⟨bx, bY, rfl, hH, hbx, hbY, hb1⟩))
  obtain ⟨w0, hw0⟩ : ∃ w0, w.alloc (.cells #[.int .u8 0, .int .u8 0, .int .u8 0, .int .u8 0, .int .u8 0, .int .u8 0, .int .u8 0, .int .u8 0] 46) = w0 := ⟨_, rfl⟩
  have hz0 : w0.heap[w.heap.size]? = some (.cells #[.int .u8 0, .int .u8 0, .int .u8 0, .int .u8 0, .int .u8 0, .int .u8 0, .int .u8 0, .int .u8 0] 46 (0, 0)) := by rw [← hw0]; exact heap_alloc_new w _
  have hb0 : Below w.heap.size w w0 := by rw [← hw0]; exact balloc (Below.refl _ _) _
  rw [hw0] at hbx hbY hb1
  have HB : Hid (∀ wr, Below w0.heap.size w0 wr → Below w.heap.size w wr) := Lib.hid fun wr h => bnext hb0 h
  have HK : Hid (∀ wr wk B u, Below w0.heap.size w0 wr → (B = bx ∨ B = bY) → wk = wr.setCell ⟨B, 0, none⟩ u → Below w0.heap.size w0 wk) := Lib.hid fun wr wk B u h hB e => by
    subst e
    exact bset h (by rcases hB with rfl | rfl <;> assumption) u
  clear hb0 hw0 hbx hbY
  go_loopw [14] (fun v wr => ∃ k : Nat, k ≤ ss.length ∧ v = .int .i64 k ∧ Hs bx bY (DG.X (DG.cat (ss.take k))) (DG.Y (DG.cat (ss.take k))) wr ∧ Below w0.heap.size w0 wr) (fun i _ => ss.length - (intOf i).toNat)
  case atStart => exact ⟨0, Nat.zero_le _, rfl, by simpa [DG.cat, DG.X, DG.Y] using hH, hb1⟩
  case round =>
    clear hH hb1
    obtain ⟨k, hk, rfl, hH, hb⟩ := hrel
    by_cases hkl : k < ss.length
    · have hki : (k : Int) < (ss.length : Int) := by omega
      obtain ⟨g, o, ha, hg, hc⟩ := HR.out _ (HB.out _ hb) k hkl
      obtain ⟨s, hs⟩ : ∃ s, ss[k] = s := ⟨_, rfl⟩
      rw [hs] at hc
      have hsz : s.size ≤ maxLen := HS.out s (by rw [← hs]; exact List.getElem_mem _)
      unfold maxLen at hsz
      have HT : Hid (DG.cat (ss.take (k + 1)) = DG.cat (ss.take k) ++ s.data.toList) := Lib.hid (by rw [← hs]; exact DG.cat_take hkl)
      obtain ⟨pre, hpre⟩ : ∃ pre, DG.cat (ss.take k) = pre := ⟨_, rfl⟩
      rw [hpre] at HT hH
      clear hs hpre
      subst ha
      go_wp2
      go_loopw [20] (fun v wi => ∃ j : Nat, j ≤ s.size ∧ v = .int .i64 j ∧ Hs bx bY (DG.X (pre ++ s.data.toList.take j)) (DG.Y (pre ++ s.data.toList.take j)) wi ∧ Below w0.heap.size w0 wi) (fun v _ => s.size - (intOf v).toNat)
      case atStart => exact ⟨0, Nat.zero_le _, rfl, by simpa using hH, hb⟩
      case round =>
        clear hH hb hc hg
        obtain ⟨j, hj, rfl, hH, hb⟩ := hrel
        by_cases hjl : j < s.size
        · have hji : (j : Int) < (s.size : Int) := by omega
          have HN : Hid (Hs bx bY (DG.X (pre ++ s.data.toList.take (j + 1))) (DG.Y (pre ++ s.data.toList.take (j + 1))) ((wr.setCell ⟨bx, 0, none⟩ (.int .u64 (DG.fx (DG.X (pre ++ s.data.toList.take j)) s[j] : Int))).setCell ⟨bY, 0, none⟩ (.int .u64 (DG.fy (DG.Y (pre ++ s.data.toList.take j)) s[j] : Int)))) := Lib.hid (by
            have := hH.set (DG.fx (DG.X (pre ++ s.data.toList.take j)) s[j]) (DG.fy (DG.Y (pre ++ s.data.toList.take j)) s[j])
            rw [DG.take_snoc s hjl, ← List.append_assoc, DG.X_snoc, DG.Y_snoc]
            exact this)
          have hX := DG.X_lt (pre ++ s.data.toList.take j)
          have hY := DG.Y_lt (pre ++ s.data.toList.take j)
          generalize DG.X (pre ++ s.data.toList.take j) = x at *
          generalize DG.Y (pre ++ s.data.toList.take j) = y at *
          go_wp2_with (first | (go_at_call 37; refine (take_any bx bY x y s[j] _ hH hX hY).mono ?_; rintro e w2 ⟨rfl, rfl⟩))
          case roundEnd => exact ⟨⟨j + 1, hjl, by go_num, HN.out, HK.out _ _ bY _ (HK.out _ _ bx _ hb (.inl rfl) rfl) (.inr rfl) rfl⟩, by simp [intOf]; omega⟩
        · have hje : j = s.size := by omega
          subst hje
          have hji : ¬ (s.size : Int) < (s.size : Int) := by omega
          have hfu : s.data.toList.take s.size = s.data.toList := List.take_of_length_le (by rw [Array.length_toList]; exact Nat.le_refl _)
          rw [hfu, ← HT.out] at hH
          clear hfu
          go_wp2
          case roundEnd => exact ⟨⟨k + 1, hkl, by go_num, hH, hb⟩, by simp [intOf]; omega⟩
    · have hke : k = ss.length := by omega
      subst hke
      have hki : ¬ (ss.length : Int) < (ss.length : Int) := by omega
      rw [List.take_length] at hH
      have hz := (hb.block _ (Array.getElem?_eq_some_iff.1 hz0).1).trans hz0
      have HL : Hid (w.heap.size < wr.heap.size) := Lib.hid (Array.getElem?_eq_some_iff.1 hz).1
      have HZ := Lib.hid hz
      clear hz hz0
      obtain ⟨C, hC⟩ : ∃ C, DG.sumV (DG.cat ss) = .agg C := ⟨_, DG.sumV_eq _⟩
      have hC1 : C.size = 8 := by have := DG.sumA_size (DG.cat ss); rw [DG.sumV_eq] at hC; injection hC with e; rw [← e]; exact this
      have hC2 : C.all (·.oneCell') = true := by have := DG.sumA_one (DG.cat ss); rw [DG.sumV_eq] at hC; injection hC with e; rw [← e]; exact this
      have HI : Hid ((Try.prog.info? 46).map (·.size) = some C.size) := Lib.hid (by rw [hC1]; kernel_rfl)
      have HC := Lib.hid (And.intro hC1 hC2)
      have HCC := Lib.hid hC
      clear hC hC1 hC2
      go_wp2_with (first | (go_at_call 38; refine (sum_any bx bY (DG.cat ss) _ hH).mono ?_; rintro e w2 ⟨rfl, hb2⟩; rw [HCC.out]; have hz2 := (hb2.block _ HL.out).trans HZ.out; have hcs := HC.out.1; have hst := store_all Try.prog w2 w.heap.size 46 _ C hz2 (by rw [HC.out.1]; rfl) HC.out.2))
      refine bodyPost_ret (results_cell_row Try.results25 _ _ w.heap.size 46 _ (0, 0) _ rfl (setRow_heap _ _ _ _ _ _ hz2) Try.underlying46 rfl HI.out) rfl ?_
      exact ⟨by rw [HCC.out], below_setRow (bnext (HB.out _ hb) hb2) (Nat.le_refl _) _⟩
end Go.Proofs.Ytfikbcgadpbblaa
