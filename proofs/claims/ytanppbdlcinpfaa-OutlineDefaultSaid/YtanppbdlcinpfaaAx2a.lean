/- Texts merged: Ax2, Ax2a. No conditions. -/
import Derived.Test.YtanppbdlcinpfaaAx1
import Derived.Test.YtanppbdlcinpfaaLater
import Derived.Shelf.RegionOpen
import Derived.Stop.RegionWithIn
import Derived.LoopIn
import Derived.Sort.CutIn
/- Two rows side by side: the iterators of the program. No conditions. -/
section
namespace Go.Proofs.Ytanppbdlcinpfaa
set_option maxRecDepth 100000
set_option linter.unusedVariables false
open Go.RowKit Go.Shelf Go.Deep
attribute [local go_sem] Oper.semAt_some
/-- A row of numbers. -/
def InAt (W : World) (v : Value) (l : List Int) : Prop := ∃ a c, v = .slice a l.length c ∧ (l = [] ∨ ∃ g o, a = some ⟨g, o, none⟩ ∧ g < W.heap.size ∧ ∀ i x, l[i]? = some x → W.cell? ⟨g, o + i, none⟩ = some (.int .i64 x))
theorem InAt.keep {W W' : World} {v : Value} {l : List Int} (h : InAt W v l) (hb : Below W.heap.size W W') : InAt W' v l := by
  obtain ⟨a, c, e, h⟩ := h
  refine ⟨a, c, e, ?_⟩
  rcases h with h | ⟨g, o, e2, hg, hc⟩
  · exact .inl h
  · exact .inr ⟨g, o, e2, Nat.lt_of_lt_of_le hg hb.size, fun i x hx => (hb.cell (p := ⟨g, o + i, none⟩) hg).trans (hc i x hx)⟩
theorem InAt.of {W : World} {v : Value} {l : List Int} (h : RowAt W v (l.map (Value.int .i64))) : InAt W v l := by
  obtain ⟨a, c, e, h⟩ := h.out
  refine ⟨a, c, by rw [List.length_map] at e; exact e, ?_⟩
  rcases h with h | ⟨g, o, e2, hg, hc⟩
  · exact .inl (by simpa using h)
  · refine .inr ⟨g, o, e2, hg, fun i x hx => ?_⟩
    have hi := (List.getElem?_eq_some_iff.1 hx).1
    rw [hc i (by rw [List.length_map]; exact hi)]
    simp [List.getD, hx]
theorem InAt.row {W : World} {v : Value} {l : List Int} (h : InAt W v l) : RowAt W v (l.map (Value.int .i64)) := by
  obtain ⟨a, c, e, h⟩ := h
  refine ⟨a, c, by rw [List.length_map]; exact e, ?_⟩
  rcases h with h | ⟨g, o, e2, hg, hc⟩
  · exact .inl (by rw [h]; rfl)
  · refine .inr ⟨g, o, e2, hg, fun i hi => ?_⟩
    rw [List.length_map] at hi
    rw [hc i l[i] (List.getElem?_eq_getElem hi)]
    simp [List.getD, hi]
/-- The cells of the first blocks are kept, but for one block (a second number that is not under the first: for none). -/
def KpN (N : Nat × Nat) (A B : World) : Prop := A.heap.size ≤ B.heap.size ∧ ∀ p : Addr, p.block < N.1 → p.block ≠ N.2 → B.cell? p = A.cell? p
theorem KpN.refl (N : Nat × Nat) (A : World) : KpN N A A := ⟨Nat.le_refl _, fun _ _ _ => rfl⟩
theorem KpN.trans {N : Nat × Nat} {A B C : World} (h : KpN N A B) (k : KpN N B C) : KpN N A C := ⟨Nat.le_trans h.1 k.1, fun p hp hq => (k.2 p hp hq).trans (h.2 p hp hq)⟩
theorem KpN.drew {N : Nat × Nat} {A B : World} (h : KpN N A B) : KpN N A B.drew := ⟨h.1, h.2⟩
theorem KpN.of {N : Nat × Nat} {A B : World} (h : Below A.heap.size A B) (hN : N.1 ≤ A.heap.size) : KpN N A B := ⟨h.size, fun p hp _ => h.cell (Nat.lt_of_lt_of_le hp hN)⟩
theorem kpn_put {N : Nat × Nat} {W : World} {l : Nat} {o o' : Obj} (hl : N.1 ≤ l) (h : W.heap[l]? = some o) : KpN N W (W.putObj l o') :=
  ⟨(grownBy_putObj' W l o').size, fun p hp _ => by
    have hlt := (Array.getElem?_eq_some_iff.1 h).1
    simp only [World.cell?, (grownBy_putObj' W l o').block p.block (by omega) (fun e => by have := Option.some.inj e; omega)]⟩
theorem TnAt.cells {W W' : World} {v : Value} {l : List AX.Tn} (h : TnAt W v l) (hs : W.heap.size ≤ W'.heap.size) (hb : ∀ p : Addr, p.block < W.heap.size → W'.cell? p = W.cell? p) : TnAt W' v l := by
  obtain ⟨a, cap, e, h⟩ := h
  refine ⟨a, cap, e, ?_⟩
  rcases h with h | ⟨g, o, e2, hg, hc⟩
  · exact .inl h
  · refine .inr ⟨g, o, e2, Nat.lt_of_lt_of_le hg hs, fun i z hz => ?_⟩
    have c0 := hc i z hz
    exact ⟨(hb ⟨g, o + i * 3, none⟩ hg).trans c0.1, (hb ⟨g, o + i * 3 + 1, none⟩ hg).trans c0.2.1, (hb ⟨g, o + i * 3 + 2, none⟩ hg).trans c0.2.2⟩
theorem InAt.cells {W W' : World} {v : Value} {l : List Int} (h : InAt W v l) (hs : W.heap.size ≤ W'.heap.size) (hb : ∀ p : Addr, p.block < W.heap.size → W'.cell? p = W.cell? p) : InAt W' v l := by
  obtain ⟨a, cap, e, h⟩ := h
  refine ⟨a, cap, e, ?_⟩
  rcases h with h | ⟨g, o, e2, hg, hc⟩
  · exact .inl h
  · refine .inr ⟨g, o, e2, Nat.lt_of_lt_of_le hg hs, fun i z hz => ?_⟩
    have c0 := hc i z hz
    exact (hb ⟨g, o + i, none⟩ hg).trans c0
theorem PrAt.cells {W W' : World} {v : Value} {l : List AX.Pr} (h : PrAt W v l) (hs : W.heap.size ≤ W'.heap.size) (hb : ∀ p : Addr, p.block < W.heap.size → W'.cell? p = W.cell? p) : PrAt W' v l := by
  obtain ⟨a, cap, e, h⟩ := h
  refine ⟨a, cap, e, ?_⟩
  rcases h with h | ⟨g, o, e2, hg, hc⟩
  · exact .inl h
  · refine .inr ⟨g, o, e2, Nat.lt_of_lt_of_le hg hs, fun i z hz => ?_⟩
    have c0 := hc i z hz
    exact ⟨(hb ⟨g, o + i * 2, none⟩ hg).trans c0.1, (hb ⟨g, o + i * 2 + 1, none⟩ hg).trans c0.2⟩
/-- What is known of the pair that comes. -/
def BoG {α β : Type} (A : List α) (B : List β) (pre : List (α × β)) (x : α × β) (W : World) : Prop := (A.zip B)[pre.length]? = some x
end Go.Proofs.Ytanppbdlcinpfaa
end
/- Two rows side by side, walked. No conditions. -/
section
namespace Go.Proofs.Ytanppbdlcinpfaa
set_option maxRecDepth 100000
set_option linter.unusedVariables false
open Go.RowKit Go.Shelf Go.Deep
attribute [local go_sem] Oper.semAt_some
abbrev boTX := AX.Tn × Int
def boTE (x : boTX) : Array Value := #[.agg #[.int .i64 x.1.1, .int .i64 x.1.2.1, .int .i64 x.1.2.2], .int .i64 x.2]
theorem boT_any (va vb : Value) (w : World) (a : Option Addr) (n c : Nat) (hv : va = .slice a n c) (a' : Option Addr) (n' c' : Nat) (hv' : vb = .slice a' n' c') :
    Calls Try.prog 59 #[va, vb] w fun e w' => e = .returned (.func (.func 91) #[] #[.pointer (some ⟨w.heap.size, 0, none⟩), .pointer (some ⟨w.heap.size + 1, 0, none⟩)]) ∧ w' = (w.alloc (.cells #[va] 61)).alloc (.cells #[vb] 22) := by
  subst hv hv'
  go_enter Try.func59, Try.ntmps59
  go_wp2
  go_ret
  exact ⟨by simp, rfl⟩
set_option maxHeartbeats 4000000 in
theorem boT_in (n : Nat) (hn : 1 ≤ n) (l ba bb : Nat) (N : Nat × Nat) (LA : List AX.Tn) (LB : List Int) (va vb : Value) (hA : LA.length ≤ 1000000000000) (hB : LB.length ≤ 1000000000000) (J Jx : List boTX → World → Prop)
    (hJ : ∀ pre W, J pre W → J pre W.drew)
    (hY : ∀ pre x W, J pre W → BoG LA LB pre x W → YieldAt Fence.wide (n - 1) Try.prog l (boTE x) W fun e W' =>
      (e = .returned (.bool true) ∧ J (pre ++ [x]) W' ∧ KpN N W W') ∨ (e = .returned (.bool false) ∧ Jx (pre ++ [x]) W'))
    (U : World) (HS : ∀ V, KpN N U V → TnAt V va LA ∧ InAt V vb LB ∧ V.cell? ⟨ba, 0, none⟩ = some va ∧ V.cell? ⟨bb, 0, none⟩ = some vb) (h0 : J [] U) :
    CallsIn Fence.wide n Try.prog 91 #[.func (.yield l) #[] #[], .pointer (some ⟨ba, 0, none⟩), .pointer (some ⟨bb, 0, none⟩)] U fun e W' => (∃ v, e = .returned v) ∧
      ((∃ xs : List boTX, xs.length = (LA.zip LB).length ∧ J xs W') ∨ (∃ pre : List boTX, True ∧ Jx pre W')) := by
  obtain ⟨⟨a, cap, rfl, -⟩, ⟨a', cap', rfl, -⟩, c0, c1⟩ := HS U (KpN.refl _ _)
  obtain ⟨m, hm⟩ : ∃ m, LA.length = m := ⟨_, rfl⟩
  obtain ⟨m', hm'⟩ : ∃ m', LB.length = m' := ⟨_, rfl⟩
  obtain ⟨k, hk⟩ : ∃ k, min m m' = k := ⟨_, rfl⟩
  have hkm : k ≤ m := by omega
  have hkm' : k ≤ m' := by omega
  have hmi : min (m : Int) (m' : Int) = (k : Int) := by omega
  have hif : (if (m' : Int) < (m : Int) then (m' : Int) else (m : Int)) = (k : Int) := by split <;> omega
  have HZL : Hid ((LA.zip LB).length = k) := Lib.hid (by rw [List.length_zip, hm, hm', hk])
  have HM := Lib.hid hm
  have HM' := Lib.hid hm'
  rw [hm] at hA c0 HS
  rw [hm'] at hB c1 HS
  have HSS := Lib.hid HS
  have HY := Lib.hid hY
  have H0 := Lib.hid h0
  have HJ := Lib.hid hJ
  clear HS hY h0 hm hm' hJ hk
  rcases Nat.lt_or_ge m' m with hle | hle
  · obtain rfl : k = m' := by omega
    have hli : (k : Int) < (m : Int) := by omega
    clear hmi hif
    refine callsIn_of_wp Try.func91 rfl trivial ?_ rfl
    simp only [Try.ntmps91, List.size_toArray, List.length_cons, List.length_nil, Nat.reduceAdd, Nat.reduceSub, Array.replicate_succ, Array.replicate_zero, List.push_toArray, List.append_toArray, List.nil_append, List.cons_append]
    gi_wp2
    clear c0 c1
    gi_loopw [10] (fun v10 wr => ∃ (pre : List boTX) (i : Nat), pre.length = i ∧ i ≤ k ∧ v10 = .int .i64 (i : Int) ∧ J pre wr ∧ KpN N U wr) (fun v _ => k - (intOf v).toNat)
    case atStart => exact ⟨[], 0, rfl, Nat.zero_le _, rfl, H0.out, KpN.refl _ _⟩
    case round =>
      clear H0
      obtain ⟨pre, i, hpi, hik, rfl, hJr, hkp⟩ := hrel
      by_cases hin : i < k
      · have hii : (i : Int) < (k : Int) := by omega
        have hi0 : (0 : Int) ≤ (i : Int) := by omega
        have him : (i : Int) < (m : Int) := by omega
        have him' : (i : Int) < (k : Int) := by omega
        obtain ⟨x, hx⟩ : ∃ x, (LA.zip LB)[i]? = some x := ⟨(LA.zip LB)[i]'(by rw [HZL.out]; exact hin), List.getElem?_eq_getElem _⟩
        have hx2 := List.getElem?_zip_eq_some.1 hx
        obtain ⟨⟨aw, cw, e1, hc⟩, ⟨aw', cw', e1', hc'⟩, c0, c1⟩ := HSS.out wr hkp
        rw [HM.out] at e1
        rw [HM'.out] at e1'
        injection e1 with e1 e2 e3
        injection e1' with e1' e2' e3'
        subst e1 e3 e1' e3'
        rcases hc with h | ⟨g, o, rfl, hg, hcl⟩
        · rw [h] at hx2
          simp at hx2
        rcases hc' with h | ⟨g', o', rfl, hg', hcl'⟩
        · rw [h] at hx2
          simp at hx2
        obtain ⟨xa0, xa1, xa2⟩ := hcl i x.1 hx2.1
        have xb0 := hcl' i x.2 hx2.2
        obtain ⟨fn, tmps, assign, body, hyy, hR⟩ := HY.out pre x wr.drew (HJ.out _ _ hJr) (by unfold BoG; rw [hpi]; exact hx)
        simp only [boTE] at hyy
        have HKP := Lib.hid hkp.drew
        have HPI := Lib.hid hpi
        clear hcl hcl' hx hx2 hJr hkp hpi
        gi_upto_region 3 with fail
        gi_region_with (first | (refine hR.mono ?_; intro e W3 hh; obtain ⟨b, rfl, hbb⟩ : ∃ b, e = .returned (.bool b) ∧ Hid ((b = true ∧ J (pre ++ [x]) W3 ∧ KpN N wr.drew W3) ∨ (b = false ∧ Jx (pre ++ [x]) W3)) := (by rcases hh with ⟨h1, h2⟩ | ⟨h1, h2⟩; exact ⟨true, h1, Lib.hid (.inl ⟨rfl, h2⟩)⟩; exact ⟨false, h1, Lib.hid (.inr ⟨rfl, h2⟩)⟩)))
        all_goals
          have HB3 := hbb
          clear hbb
          cases b with
          | true =>
            have hj := HB3.out.resolve_right (fun h => by cases h.1)
            have HJ3 := Lib.hid hj.2.1
            have HK3 := Lib.hid (HKP.out.trans hj.2.2)
            clear hj HB3 hR c0 c1
            gi_wp2
            go_roundw
            case rel => exact ⟨pre ++ [x], i + 1, by rw [List.length_append, HPI.out]; rfl, hin, by go_num, HJ3.out, HK3.out⟩
            case measure => simp [intOf] <;> omega
          | false =>
            have hj := HB3.out.resolve_left (fun h => by cases h.1)
            have HJX := Lib.hid hj.2
            clear hj HB3 hR c0 c1
            gi_wp2
            (try simp only [Exit.inBlock, Exit.then])
            refine bodyPost_ret (results_none rfl _ _ _) rfl ?_
            exact ⟨⟨_, rfl⟩, .inr ⟨_, by first | exact ⟨trivial, HJX.out⟩ | exact HJX.out⟩⟩
      · obtain rfl : i = k := by omega
        gi_wp2
        go_end0
        exact ⟨⟨_, rfl⟩, .inl ⟨pre, by rw [HZL.out]; exact hpi, hJr⟩⟩
  · obtain rfl : k = m := by omega
    have hli : ¬ (m' : Int) < (k : Int) := by omega
    clear hmi hif
    refine callsIn_of_wp Try.func91 rfl trivial ?_ rfl
    simp only [Try.ntmps91, List.size_toArray, List.length_cons, List.length_nil, Nat.reduceAdd, Nat.reduceSub, Array.replicate_succ, Array.replicate_zero, List.push_toArray, List.append_toArray, List.nil_append, List.cons_append]
    gi_wp2
    clear c0 c1
    gi_loopw [10] (fun v10 wr => ∃ (pre : List boTX) (i : Nat), pre.length = i ∧ i ≤ k ∧ v10 = .int .i64 (i : Int) ∧ J pre wr ∧ KpN N U wr) (fun v _ => k - (intOf v).toNat)
    case atStart => exact ⟨[], 0, rfl, Nat.zero_le _, rfl, H0.out, KpN.refl _ _⟩
    case round =>
      clear H0
      obtain ⟨pre, i, hpi, hik, rfl, hJr, hkp⟩ := hrel
      by_cases hin : i < k
      · have hii : (i : Int) < (k : Int) := by omega
        have hi0 : (0 : Int) ≤ (i : Int) := by omega
        have him : (i : Int) < (k : Int) := by omega
        have him' : (i : Int) < (m' : Int) := by omega
        obtain ⟨x, hx⟩ : ∃ x, (LA.zip LB)[i]? = some x := ⟨(LA.zip LB)[i]'(by rw [HZL.out]; exact hin), List.getElem?_eq_getElem _⟩
        have hx2 := List.getElem?_zip_eq_some.1 hx
        obtain ⟨⟨aw, cw, e1, hc⟩, ⟨aw', cw', e1', hc'⟩, c0, c1⟩ := HSS.out wr hkp
        rw [HM.out] at e1
        rw [HM'.out] at e1'
        injection e1 with e1 e2 e3
        injection e1' with e1' e2' e3'
        subst e1 e3 e1' e3'
        rcases hc with h | ⟨g, o, rfl, hg, hcl⟩
        · rw [h] at hx2
          simp at hx2
        rcases hc' with h | ⟨g', o', rfl, hg', hcl'⟩
        · rw [h] at hx2
          simp at hx2
        obtain ⟨xa0, xa1, xa2⟩ := hcl i x.1 hx2.1
        have xb0 := hcl' i x.2 hx2.2
        obtain ⟨fn, tmps, assign, body, hyy, hR⟩ := HY.out pre x wr.drew (HJ.out _ _ hJr) (by unfold BoG; rw [hpi]; exact hx)
        simp only [boTE] at hyy
        have HKP := Lib.hid hkp.drew
        have HPI := Lib.hid hpi
        clear hcl hcl' hx hx2 hJr hkp hpi
        gi_upto_region 3 with fail
        gi_region_with (first | (refine hR.mono ?_; intro e W3 hh; obtain ⟨b, rfl, hbb⟩ : ∃ b, e = .returned (.bool b) ∧ Hid ((b = true ∧ J (pre ++ [x]) W3 ∧ KpN N wr.drew W3) ∨ (b = false ∧ Jx (pre ++ [x]) W3)) := (by rcases hh with ⟨h1, h2⟩ | ⟨h1, h2⟩; exact ⟨true, h1, Lib.hid (.inl ⟨rfl, h2⟩)⟩; exact ⟨false, h1, Lib.hid (.inr ⟨rfl, h2⟩)⟩)))
        all_goals
          have HB3 := hbb
          clear hbb
          cases b with
          | true =>
            have hj := HB3.out.resolve_right (fun h => by cases h.1)
            have HJ3 := Lib.hid hj.2.1
            have HK3 := Lib.hid (HKP.out.trans hj.2.2)
            clear hj HB3 hR c0 c1
            gi_wp2
            go_roundw
            case rel => exact ⟨pre ++ [x], i + 1, by rw [List.length_append, HPI.out]; rfl, hin, by go_num, HJ3.out, HK3.out⟩
            case measure => simp [intOf] <;> omega
          | false =>
            have hj := HB3.out.resolve_left (fun h => by cases h.1)
            have HJX := Lib.hid hj.2
            clear hj HB3 hR c0 c1
            gi_wp2
            (try simp only [Exit.inBlock, Exit.then])
            refine bodyPost_ret (results_none rfl _ _ _) rfl ?_
            exact ⟨⟨_, rfl⟩, .inr ⟨_, by first | exact ⟨trivial, HJX.out⟩ | exact HJX.out⟩⟩
      · obtain rfl : i = k := by omega
        gi_wp2
        go_end0
        exact ⟨⟨_, rfl⟩, .inl ⟨pre, by rw [HZL.out]; exact hpi, hJr⟩⟩
/-- .. as what is ranged over. -/
theorem boT_given (n : Nat) (hn : 1 ≤ n) (ba bb c : Nat) (LA : List AX.Tn) (LB : List Int) (va vb : Value) (hA : LA.length ≤ 1000000000000) (hB : LB.length ≤ 1000000000000) (Wa W0 : World) (hWa : Below Wa.heap.size Wa W0) (hcW : Wa.heap.size ≤ c) (ha : TnAt Wa va LA) (hb : InAt Wa vb LB) (hba : ba ≠ c) (hbb : bb ≠ c)
    (c0 : W0.cell? ⟨ba, 0, none⟩ = some va) (c1 : W0.cell? ⟨bb, 0, none⟩ = some vb) :
    SeqGiven Fence.wide n Try.prog 91 #[.pointer (some ⟨ba, 0, none⟩), .pointer (some ⟨bb, 0, none⟩)] boTE (KpN (W0.heap.size, c)) (fun _ _ => False) (BoG LA LB) (fun xs => xs.length = (LA.zip LB).length) (fun _ => True) W0 :=
  fun l J Jx U hU hJ hJx hJo hJxo hY h0 => boT_in n hn l ba bb (W0.heap.size, c) LA LB va vb hA hB J Jx (fun pre W h => hJ pre W W.drew none h ⟨rfl, rfl, rfl, Nat.le_refl _, fun _ _ _ => rfl⟩ (fun r e => by cases e)) hY U (fun V hV => by
    have hc : ∀ p : Addr, p.block < W0.heap.size → p.block ≠ c → V.cell? p = W0.cell? p := fun p hp hq => (hV.2 p hp hq).trans (hU.cell hp)
    have hs : W0.heap.size ≤ V.heap.size := Nat.le_trans hU.size hV.1
    have hd : ∀ p : Addr, p.block < Wa.heap.size → V.cell? p = Wa.cell? p := fun p hp => (hc p (Nat.lt_of_lt_of_le hp hWa.size) (by omega)).trans (hWa.cell hp)
    have hsa := Nat.le_trans hWa.size hs
    exact ⟨ha.cells hsa hd, hb.cells hsa hd, (hc _ (World.block_lt_of_cell? W0 _ c0) hba).trans c0, (hc _ (World.block_lt_of_cell? W0 _ c1) hbb).trans c1⟩) h0
end Go.Proofs.Ytanppbdlcinpfaa
end
