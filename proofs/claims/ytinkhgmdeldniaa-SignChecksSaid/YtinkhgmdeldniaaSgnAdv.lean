/- advance of the program: all chains one link on. No conditions. -/
import Derived.Test.YtinkhgmdeldniaaSgnRChk
import Derived.Laws.OwnMore
namespace Go.Proofs.Ytinkhgmdeldniaa.SG
set_option maxRecDepth 100000
set_option linter.unusedVariables false
open Go.RowKit
/-- The links after T steps, where the digits are D. -/
def lt (l : List ByteArray) (D T : Nat → Nat) : List ByteArray := (List.range 18).map fun c => lk (l.getD c ⟨#[]⟩) (min (T c) (15 - D c))
/-- .. and their numbers. -/
def Dt (D T : Nat → Nat) (c : Nat) : Nat := min (D c + T c) 15
/-- One step more for the first c chains. -/
def up (T : Nat → Nat) (c : Nat) (k : Nat) : Nat := if k < c then T k + 1 else T k
theorem lt_len (l : List ByteArray) (D T : Nat → Nat) : (lt l D T).length = 18 := by simp [lt]
theorem lt_get (l : List ByteArray) (D T : Nat → Nat) {c : Nat} (h : c < 18) : ((lt l D T).map Value.string)[c]? = some (.string (lk (l.getD c ⟨#[]⟩) (min (T c) (15 - D c)))) := by
  simp [lt, h]
theorem lt_congr {l : List ByteArray} {D T T' : Nat → Nat} (h : ∀ c, c < 18 → min (T c) (15 - D c) = min (T' c) (15 - D c)) : lt l D T = lt l D T' := by
  unfold lt
  apply List.map_congr_left
  intro c hc
  rw [h c (List.mem_range.1 hc)]
theorem lt_set {l : List ByteArray} {D T T' : Nat → Nat} {c : Nat} {y : ByteArray} (hc : c < 18) (hy : y = lk (l.getD c ⟨#[]⟩) (min (T' c) (15 - D c))) (h : ∀ k, k < 18 → k ≠ c → min (T k) (15 - D k) = min (T' k) (15 - D k)) :
    ((lt l D T).map Value.string).set c (.string y) = (lt l D T').map Value.string := by
  apply List.ext_getElem
  · simp [lt]
  · intro k h1 h2
    have hk : k < 18 := by simpa [lt] using h2
    rw [List.getElem_set]
    by_cases he : c = k
    · subst he
      simp [lt, hy]
    · rw [if_neg he]
      simp [lt, h k hk (fun e => he e.symm)]
theorem lt_small {l : List ByteArray} {D T : Nat → Nat} (h : ∀ s ∈ l, s.size ≤ 1000000) (c : Nat) : (lk (l.getD c ⟨#[]⟩) (min (T c) (15 - D c))).size ≤ 1000008 := by
  have := lk_size (l.getD c ⟨#[]⟩) (min (T c) (15 - D c))
  have h2 : (l.getD c ⟨#[]⟩).size ≤ 1000000 := by
    rw [List.getD_eq_getElem?_getD]
    cases he : l[c]? with
    | none => simp [ByteArray.size]
    | some s => exact h s (List.mem_of_getElem? he)
  omega
end Go.Proofs.Ytinkhgmdeldniaa.SG
namespace Go.Proofs.Ytinkhgmdeldniaa
set_option maxRecDepth 100000
set_option linter.unusedVariables false
open Go.RowKit Go.Deep
theorem box_nums (w : World) (D : Nat → Nat) (B : Nat) (hB : w.heap.size = B) : ∃ W0, ((w.alloc (.cells (SG.numA D) 61)).alloc (.cells #[.int .i64 0, .int .i64 0, .int .i64 0, .int .i64 0, .int .i64 0, .int .i64 0, .int .i64 0, .int .i64 0, .int .i64 0, .int .i64 0, .int .i64 0, .int .i64 0, .int .i64 0, .int .i64 0, .int .i64 0, .int .i64 0, .int .i64 0, .int .i64 0] 61)) = W0 ∧ NumAt W0 B D ∧ NumAt W0 (B + 1) (fun _ => 0) ∧ Below B w W0 := by
  subst hB
  have a1 := World.alloc_heap_new w (.cells (SG.numA D) 61)
  have a2 := World.alloc_heap_new (w.alloc (.cells (SG.numA D) 61)) (.cells #[.int .i64 0, .int .i64 0, .int .i64 0, .int .i64 0, .int .i64 0, .int .i64 0, .int .i64 0, .int .i64 0, .int .i64 0, .int .i64 0, .int .i64 0, .int .i64 0, .int .i64 0, .int .i64 0, .int .i64 0, .int .i64 0, .int .i64 0, .int .i64 0] 61)
  rw [World.size_alloc] at a2
  refine ⟨_, rfl, ?_, ?_, ((Below.refl _ w).alloc (Nat.le_refl _) _).alloc (by simp) _⟩
  · unfold NumAt
    rw [Below.heap_alloc _ _ _ (by simp)]
    exact a1
  · unfold NumAt
    rw [zeroA]
    exact a2
theorem kept_set {g : Nat} {w w1 : World} (h : W.Kept g w w1) {b : Nat} (hb : w.heap.size ≤ b ∨ b = g) (o : Nat) (v : Value) : W.Kept g w (w1.setCell ⟨b, o, none⟩ v) :=
  ⟨h.os, h.tape, h.output, by simpa [World.setCell] using h.size, fun k hk hne => (Below.heap_setCell _ _ _ _ (fun e => by
    rcases hb with hb | hb
    · simp at e; omega
    · exact hne (by rw [← hb]; exact congrArg some e))).trans (h.block k hk hne)⟩
theorem own_row {w w' : World} {B : Nat} {t : TypeId} {n : Nat} {g cap : Nat} {L : List Value} (h : w.ownsRow B t 1 (.slice (some ⟨g, 0, none⟩) n cap) n L) (hb : w'.heap[g]? = w.heap[g]?) : w'.ownsRow B t 1 (.slice (some ⟨g, 0, none⟩) n cap) n L := by
  refine ⟨h.1, ?_⟩
  rcases h.2 with ⟨h', _⟩ | ⟨g', cap', cur, h', h1, h2, h3⟩
  · simp at h'
  · simp only [Value.slice.injEq, Option.some.injEq, Addr.mk.injEq, and_true, true_and] at h'
    obtain ⟨rfl, rfl⟩ := h'
    exact .inr ⟨g, cap, cur, rfl, h1, hb.trans h2, h3⟩
set_option maxHeartbeats 4000000 in
theorem advance_any (l : List ByteArray) (D T : Nat → Nat) (B g cap : Nat) (w : World) (hl : ∀ s ∈ l, s.size ≤ 1000000) (hr : w.ownsRow B 9 1 (.slice (some ⟨g, 0, none⟩) 18 cap) 18 ((SG.lt l D T).map Value.string)) :
    Calls Try.prog 47 #[.slice (some ⟨g, 0, none⟩) 18 cap, .agg (SG.numA (SG.Dt D T))] w fun e w' => e = .returned (.agg (SG.numA (SG.Dt D fun k => T k + 1))) ∧ w'.ownsRow B 9 1 (.slice (some ⟨g, 0, none⟩) 18 cap) 18 ((SG.lt l D fun k => T k + 1).map Value.string) ∧ W.Kept g w w' := by
  have hg : g < w.heap.size := World.block_lt_of_cell? w ⟨g, 0, none⟩ ((hr.cellAt 0 (by omega)).trans (SG.lt_get _ _ _ (by omega)))
  have HSM := Lib.hid (SG.lt_small (l := l) (D := D) (T := T) hl)
  have HR := Lib.hid hr
  clear hl hr
  go_enter Try.func47, Try.ntmps47
  go_wp2
  obtain ⟨P, hP⟩ : ∃ P, w.heap.size = P := ⟨_, rfl⟩
  obtain ⟨W0, hW0, n0, n1, hb0⟩ := box_nums w (SG.Dt D T) P hP
  rw [hW0, hP]
  have hk0 : W.Kept g w W0 := ⟨hb0.os, hb0.tape, hb0.output, hb0.size, fun k hk _ => hb0.block k (by omega)⟩
  have hr0 := own_row HR.out (hb0.block g (by omega))
  rw [hP] at hg
  have HP := Lib.hid hP
  clear hW0 hb0 hP
  go_loopw [6] (fun v wr => ∃ c : Nat, v = .int .i64 (c : Int) ∧ c ≤ 18 ∧ NumAt wr P (SG.Dt D (SG.up T c)) ∧ NumAt wr (P + 1) (fun _ => 0) ∧ wr.ownsRow B 9 1 (.slice (some ⟨g, 0, none⟩) 18 cap) 18 ((SG.lt l D (SG.up T c)).map Value.string) ∧ W.Kept g w wr) (fun v _ => 18 - (intOf v).toNat)
  case atStart => exact ⟨0, rfl, Nat.zero_le _, n0.congr (fun c _ => by simp [SG.Dt, SG.up]), n1, by rw [show SG.lt l D (SG.up T 0) = SG.lt l D T from SG.lt_congr (fun c _ => by simp [SG.up])]; exact hr0, hk0⟩
  case round =>
    clear n0 n1 hk0 hr0
    obtain ⟨c, rfl, hc, n0, n1, hr, hk⟩ := hrel
    have hgw : g < wr.heap.size := Nat.lt_of_lt_of_le (by have := HP.out; omega) hk.size
    by_cases hc18 : c < 18
    · have hci : (c : Int) < 18 := by omega
      have hc0 : (0 : Int) ≤ (c : Int) := by omega
      have c1 := n0.cell hc18
      have f1 := n0.frozen c
      have hup : SG.up T c c = T c := by simp [SG.up]
      have hupn : ∀ k, k ≠ c → SG.up T c k = SG.up T (c + 1) k := fun k hne => by
        unfold SG.up
        by_cases h : k < c
        · rw [if_pos h, if_pos (by omega)]
        · rw [if_neg h, if_neg (by omega)]
      have hupc : SG.up T (c + 1) c = T c + 1 := by simp [SG.up]
      obtain ⟨d, hd⟩ : ∃ d, SG.Dt D (SG.up T c) c = d := ⟨_, rfl⟩
      rw [hd] at c1
      have hdd : d = min (D c + T c) 15 := by rw [← hd]; unfold SG.Dt; rw [hup]
      by_cases hd15 : d < 15
      · have hdi : (d : Int) < 15 := by omega
        have ed : (d : Int) + 1 = ((d + 1 : Nat) : Int) := by omega
        obtain ⟨d1, hd1⟩ : ∃ d1, d + 1 = d1 := ⟨_, rfl⟩
        rw [hd1] at ed
        have n2 := n0.set c d1
        have r1 : (wr.setCell ⟨P, c, none⟩ (.int .i64 (d1 : Int))).ownsRow B 9 1 (.slice (some ⟨g, 0, none⟩) 18 cap) 18 ((SG.lt l D (SG.up T c)).map Value.string) := own_row hr (Below.heap_setCell _ _ _ _ (by simp <;> omega))
        have n3 := n1.other (b' := P) (by omega) c (.int .i64 (d1 : Int))
        have hk1 := kept_set hk (b := P) (.inl (by rw [HP.out]; exact Nat.le_refl _)) c (.int .i64 (d1 : Int))
        have hx := (r1.cellAt c (by omega)).trans (SG.lt_get _ _ _ hc18)
        have fx := r1.frozenAt c
        rw [hup] at hx
        have hsz := HSM.out c
        obtain ⟨x, hxx⟩ : ∃ x, SG.lk (l.getD c ⟨#[]⟩) (min (T c) (15 - D c)) = x := ⟨_, rfl⟩
        rw [hxx] at hx hsz
        have hnx : DG.Of x = SG.lk (l.getD c ⟨#[]⟩) (min (T c + 1) (15 - D c)) := by
          rw [← hxx, show min (T c) (15 - D c) = T c by omega, show min (T c + 1) (15 - D c) = T c + 1 by omega]
          rfl
        obtain ⟨y, hy⟩ : ∃ y, DG.Of x = y := ⟨_, rfl⟩
        have HO := Lib.hid (fun V => Of_any x V (by unfold maxLen; omega))
        rw [hy] at hnx HO
        have HSET := Lib.hid (SG.lt_set (y := y) (l := l) (D := D) (T := SG.up T c) (T' := SG.up T (c + 1)) hc18 (by rw [hupc]; exact hnx) (fun k _ hne => by rw [hupn k hne]))
        have HN2 := Lib.hid (n2.congr (E := SG.Dt D (SG.up T (c + 1))) (fun k hk => by
          by_cases he : k = c
          · rw [if_pos he, he]; unfold SG.Dt; rw [hupc]; omega
          · rw [if_neg he]; unfold SG.Dt; rw [hupn k he]))
        have HN3 := Lib.hid n3
        have HR1 := Lib.hid r1
        have HK1 := Lib.hid hk1
        have hPw := n2.lt
        clear n0 n1 n2 n3 r1 hk1 hk hr hxx hnx hy hd hdd hd1 hup hupn hupc
        go_wp2_with fail
        refine (HO.out _).mono ?_
        rintro e w5 ⟨rfl, k5⟩
        have n4 := HN2.out.keep k5
        have n5 := HN3.out.keep k5
        have r2 := own_row HR1.out (k5.block g (by simpa [World.setCell] using hgw))
        have hx5 := r2.cellAt c (by omega)
        have fx5 := r2.frozenAt c
        have hx6 : ∃ u, w5.cell? ⟨g, c, none⟩ = some u := ⟨_, hx5.trans (SG.lt_get _ _ _ hc18)⟩
        obtain ⟨u, hu⟩ := hx6
        have r3 := (r2.stored c (.string y)).1
        rw [HSET.out] at r3
        have HR3 := Lib.hid r3
        have HN4 := Lib.hid (n4.other (b' := g) (by omega) c (.string y))
        have HN5 := Lib.hid (n5.other (b' := g) (by omega) c (.string y))
        have HK5 := Lib.hid (kept_set (HK1.out.trans (W.Kept.of k5)) (b := g) (.inr rfl) c (.string y))
        clear n4 n5 r2 r3 hx5 k5 HR1
        go_wp2
        go_roundw
        case rel => exact ⟨c + 1, by go_num, hc18, HN4.out, HN5.out, HR3.out, HK5.out⟩
        case measure => simp [intOf]; omega
      · have hdi : ¬ (d : Int) < 15 := by omega
        have HN0 := Lib.hid (n0.congr (E := SG.Dt D (SG.up T (c + 1))) (fun k hk => by
          by_cases he : k = c
          · rw [he]; unfold SG.Dt; rw [hupc, hup]; omega
          · unfold SG.Dt; rw [hupn k he]))
        have hlt : SG.lt l D (SG.up T c) = SG.lt l D (SG.up T (c + 1)) := SG.lt_congr (fun k _ => by
          by_cases he : k = c
          · rw [he, hupc, hup]; omega
          · rw [hupn k he])
        rw [hlt] at hr
        have HR0 := Lib.hid hr
        have HN1 := Lib.hid n1
        have HK := Lib.hid hk
        clear n0 n1 hr hk hlt hd hdd hup hupn hupc
        go_wp2
        go_roundw
        case rel => exact ⟨c + 1, by go_num, hc18, HN0.out, HN1.out, HR0.out, HK.out⟩
        case measure => simp [intOf]; omega
    · have hci : ¬ (c : Int) < 18 := by omega
      obtain rfl : c = 18 := by omega
      have n2 := n0.congr (E := SG.Dt D fun k => T k + 1) (fun k hk => by unfold SG.Dt SG.up; rw [if_pos hk])
      have hlt : SG.lt l D (SG.up T 18) = SG.lt l D (fun k => T k + 1) := SG.lt_congr (fun k hk => by unfold SG.up; rw [if_pos hk])
      rw [hlt] at hr
      have HR0 := Lib.hid hr
      have HK := Lib.hid hk
      have HN := Lib.hid (And.intro n1 n2)
      have HI := Lib.hid (info_nums (SG.Dt D fun k => T k + 1))
      have HZ := Lib.hid (setRow_heap wr (P + 1) _ (SG.numA (SG.Dt D fun k => T k + 1)) _ _ n1)
      have hne : g ≠ P + 1 := by omega
      clear n0 n1 n2 hr hk hlt
      go_upto_region 8 with fail
      refine wp_region_lit ?_
      refine wpList_load_nums rfl rfl rfl HN.out.2 ?_
      refine wpList_store_nums rfl rfl rfl rfl HN.out.1 ?_
      refine wpList_nil ?_
      simp only [Act.put, List.setIfInBounds_toArray, List.set_cons_zero, List.set_cons_succ]
      go_wp2
      refine bodyPost_ret (results_cell_row Try.results47 _ _ (P + 1) 61 (SG.numA (SG.Dt D fun k => T k + 1)) (0, 0) _ rfl HZ.out Try.underlying61 rfl HI.out) rfl ?_
      refine ⟨rfl, own_row HR0.out (setRow_other _ _ _ _ hne), ?_⟩
      have hk := HK.out
      exact ⟨hk.os, hk.tape, hk.output, by simpa [World.setRow] using hk.size, fun k hk' hne => (setRow_other _ _ _ _ (by have := HP.out; omega)).trans (hk.block k hk' hne)⟩
end Go.Proofs.Ytinkhgmdeldniaa
