/- Texts merged: Ol13, Ol14, Ol15, Ol16. No conditions. -/
import Derived.Test.YtanppbdlcinpfaaOl12
import Derived.Test.YtanppbdlcinpfaaRoundIn
import Derived.Test.YtanppbdlcinpfaaLater
import Derived.Test.YtanppbdlcinpfaaHeldIn
import Derived.Shelf.RegionOpen
import Derived.Stop.RegionWithIn
import Derived.LoopIn
import Derived.Sort.CutIn
set_option linter.unusedSimpArgs false
set_option linter.unusedVariables false
/- The iterator over the points of an outline. No conditions. -/
section
namespace Go.Proofs.Ytanppbdlcinpfaa
set_option maxRecDepth 100000
set_option linter.unusedVariables false
open Go.RowKit Go.Shelf Go.Deep
attribute [local go_sem] Oper.semAt_some
theorem pts_closure (w : World) (vc va : Value) (hc hx hy ad : Int) (h1 : ∃ a n c, vc = .slice a n c) (h2 : ∃ a n c, va = .slice a n c) :
    Calls Try.prog 48 #[.agg #[vc, va, .int .i64 hc, .int .i64 hx, .int .i64 hy, .int .i64 ad]] w fun e w' => e = .returned (.func (.func 86) #[] #[.pointer (some ⟨w.heap.size, 0, none⟩)]) ∧ w' = w.alloc (.cells #[vc, va, .int .i64 hc, .int .i64 hx, .int .i64 hy, .int .i64 ad] 41) := by
  obtain ⟨a, n, c, rfl⟩ := h1
  obtain ⟨a2, n2, c2, rfl⟩ := h2
  go_enter Try.func48, Try.ntmps48
  go_wp2
  go_ret
  exact ⟨rfl, rfl⟩
/-- A number, and where it stands: the block and the place of the first of two cells. -/
abbrev It := Nat × Nat × Nat
def encI (x : It) : Array Value := #[.int .i64 (x.1 : Int), .agg #[.pointer (some ⟨x.2.1, x.2.2, none⟩), .pointer (some ⟨x.2.1, x.2.2 + 1, none⟩)]]
/-- Slices of so many elements in blocks. -/
def VsOk (vs : List Value) (ms : List (Nat × Nat)) : Prop := ∀ (i g m : Nat), ms[i]? = some (g, m) → ∃ a k, vs[i]? = some (Value.slice a m k) ∧ (0 < m → a = some ⟨g, 0, none⟩)
def row1 (g m : Nat) : List (Nat × Nat) := (List.range m).map fun j => (g, j * 3)
def items (ms : List (Nat × Nat)) (ga na : Nat) : List (Nat × Nat) := (ms.flatMap fun x => row1 x.1 x.2) ++ (List.range na).map fun j => (ga, j * 3 + 1)
def offs (ms : List (Nat × Nat)) : Nat := (ms.map Prod.snd).sum
theorem row1_len (g m : Nat) : (row1 g m).length = m := by simp [row1]
theorem offs_take {ms : List (Nat × Nat)} {i g m : Nat} (h : ms[i]? = some (g, m)) : offs (ms.take (i + 1)) = offs (ms.take i) + m := by
  unfold offs
  rw [List.take_add_one, h]
  simp
theorem items_len (ms : List (Nat × Nat)) (ga na : Nat) : (items ms ga na).length = offs ms + na := by
  unfold items offs
  rw [List.length_append, List.length_map, List.length_range, List.length_flatMap]
  congr 2
  exact List.map_congr_left fun x _ => row1_len _ _
theorem items_pt {ms : List (Nat × Nat)} {ga na i g m j : Nat} (h : ms[i]? = some (g, m)) (hj : j < m) : (items ms ga na)[offs (ms.take i) + j]? = some (g, j * 3) := by
  have hl : ∀ l : List (Nat × Nat), (l.flatMap fun x => row1 x.1 x.2).length = offs l := fun l => by
    unfold offs
    rw [List.length_flatMap]
    congr 1
    exact List.map_congr_left fun x _ => row1_len _ _
  obtain ⟨h1, h2⟩ := List.getElem?_eq_some_iff.1 h
  have hs : ms = ms.take i ++ (g, m) :: ms.drop (i + 1) := by
    rw [← h2, ← List.drop_eq_getElem_cons h1, List.take_append_drop]
  unfold items
  rw [List.getElem?_append_left (by rw [hl]; have := offs_take h; have h5 : offs ms = offs (ms.take (i + 1)) + offs (ms.drop (i + 1)) := (by unfold offs; rw [← List.sum_append, ← List.map_append, List.take_append_drop]); omega)]
  have e : (ms.flatMap fun x => row1 x.1 x.2) = ((ms.take i).flatMap fun x => row1 x.1 x.2) ++ (row1 g m ++ (ms.drop (i + 1)).flatMap fun x => row1 x.1 x.2) := by
    rw [← List.flatMap_cons (f := fun x => row1 x.1 x.2) (x := (g, m)), ← List.flatMap_append, ← hs]
  rw [e, List.getElem?_append_right (by rw [hl]; omega), hl, Nat.add_sub_cancel_left, List.getElem?_append_left (by rw [row1_len]; exact hj)]
  unfold row1
  rw [List.getElem?_map, List.getElem?_range hj]
  rfl
theorem items_an {ms : List (Nat × Nat)} {ga na j : Nat} (hj : j < na) : (items ms ga na)[offs ms + j]? = some (ga, j * 3 + 1) := by
  unfold items
  have hl : (ms.flatMap fun x => row1 x.1 x.2).length = offs ms := by
    unfold offs
    rw [List.length_flatMap]
    congr 1
    exact List.map_congr_left fun x _ => row1_len _ _
  rw [List.getElem?_append_right (by rw [hl]; omega), hl, Nat.add_sub_cancel_left, List.getElem?_map, List.getElem?_range hj]
  rfl
theorem offs_bd {ms : List (Nat × Nat)} (h : ∀ x ∈ ms, x.2 ≤ 1000) : ∀ i, offs (ms.take i) ≤ 1000 * i
  | 0 => by simp [offs]
  | i + 1 => by
    have ih := offs_bd h i
    cases hc : ms[i]? with
    | none => rw [List.take_add_one, hc, Option.toList_none, List.append_nil]; omega
    | some x =>
      obtain ⟨g, m⟩ := x
      rw [offs_take hc]
      have := h (g, m) (List.mem_of_getElem? hc)
      dsimp only at this
      omega
/-- What the iterator needs: its box, and the row of rows. -/
def ItN (c : Nat) (vc va : Value) (n : Nat) (vs : List Value) (pre : List It) (W : World) : Prop := W.cell? ⟨c, 0, none⟩ = some vc ∧ W.cell? ⟨c, 1, none⟩ = some va ∧ SrcN 1 W vc n vs
def ItG (L : List (Nat × Nat)) (pre : List It) (x : It) (_ : World) : Prop := x.1 = pre.length ∧ L[pre.length]? = some x.2
def ItS (L : List (Nat × Nat)) (xs : List It) : Prop := xs.length = L.length
set_option maxHeartbeats 8000000 in
theorem pts_in (m : Nat) (hm : 1 ≤ m) (l c : Nat) (vc : Value) (aa : Option Addr) (ac na ga n : Nat) (ms : List (Nat × Nat)) (vs : List Value) (hn : ms.length = n) (hn9 : n ≤ 1000) (hms : ∀ x ∈ ms, x.2 ≤ 1000) (hvs : VsOk vs ms) (hna : na ≤ 1000) (haa : 0 < na → aa = some ⟨ga, 0, none⟩) (J Jx : List It → World → Prop)
    (W : World) (hJ : AbidesFrom W.heap.size J) (hN : ∀ pre W1, J pre W1 → ItN c vc (.slice aa na ac) n vs pre W1)
    (hY : ∀ pre x W1, J pre W1 → ItG (items ms ga na) pre x W1 → YieldAt Fence.wide (m - 1) Try.prog l (encI x) W1 fun e W' =>
      (e = .returned (.bool true) ∧ J (pre ++ [x]) W') ∨ (e = .returned (.bool false) ∧ Jx (pre ++ [x]) W')) (h0 : J [] W) :
    CallsIn Fence.wide m Try.prog 86 #[.func (.yield l) #[] #[], .pointer (some ⟨c, 0, none⟩)] W fun e W' => (∃ v, e = .returned v) ∧
      ((∃ ys : List It, ItS (items ms ga na) ys ∧ J ys W') ∨ (∃ pre : List It, True ∧ Jx pre W')) := by
  have HN := Lib.hid hN
  have HY := Lib.hid hY
  have H0 := Lib.hid h0
  have HJ : Hid (∀ pre A B, J pre A → Below A.heap.size A B → J pre B) := Lib.hid fun pre A B hA hb => hJ pre A B none hA ⟨hb.os, hb.tape, hb.output, hb.size, fun k hk _ => hb.block k hk⟩ (fun r e => by cases e)
  have HML := Lib.hid (And.intro hn (And.intro hms (And.intro hvs (And.intro hna haa))))
  obtain ⟨q0, q1, q2⟩ := hN [] W h0
  obtain ⟨oa, oc, rfl⟩ := q2.shape
  clear hJ hN hY h0 hms hvs q2 haa hn
  refine callsIn_of_wp Try.func86 rfl trivial ?_ rfl
  simp only [Try.ntmps86, List.size_toArray, List.length_cons, List.length_nil, Nat.reduceAdd, Nat.reduceSub, Array.replicate_succ, Array.replicate_zero, List.push_toArray, List.append_toArray, List.nil_append, List.cons_append]
  gi_upto_region 2 with fail
  clear q0 q1
  gi_loopw [3, 11] (fun v3 v11 wr => ∃ (i k : Nat) (pre : List It), v11 = .int .i64 (i : Int) ∧ v3 = .int .i64 (k : Int) ∧ i ≤ n ∧ Hid (pre.length = k ∧ k = offs (ms.take i)) ∧ J pre wr) (fun v3 v11 _ => n - (intOf v11).toNat)
  case atStart => exact ⟨0, 0, [], rfl, rfl, Nat.zero_le _, Lib.hid ⟨rfl, by simp [offs]⟩, H0.out⟩
  case round =>
    clear H0
    obtain ⟨i, k, pre, rfl, rfl, hi, HK, hj⟩ := hrel
    obtain ⟨q0, q1, q2⟩ := HN.out pre wr hj
    by_cases hin : i < n
    · have hii : (i : Int) < (n : Int) := by omega
      have hi0 : (0 : Int) ≤ (i : Int) := by omega
      obtain ⟨⟨g, mm⟩, hg⟩ : ∃ x, ms[i]? = some x := ⟨_, List.getElem?_eq_getElem (by rw [HML.out.1]; exact hin)⟩
      obtain ⟨ra, rk, hr, hra⟩ := HML.out.2.2.1 i g mm hg
      have hm9 := HML.out.2.1 _ (List.mem_of_getElem? hg)
      dsimp only at hm9
      have hcell : ∃ og oo, oa = some ⟨og, oo, none⟩ ∧ wr.cell? ⟨og, oo + i, none⟩ = some (.slice ra mm rk) := by
        obtain ⟨ao, c', e1, hl, h1⟩ := q2
        injection e1 with e1 _ _
        rcases h1 with ⟨h1, _⟩ | ⟨og, oo, e2, hgl, hcl⟩
        · omega
        · exact ⟨og, oo, by rw [e1]; exact e2, hcl i _ hr⟩
      obtain ⟨og, oo, rfl, hcell⟩ := hcell
      have HG := Lib.hid (And.intro hg hra)
      clear hg hr hra q2 q0 q1
      gi_upto_region 5 with fail
      clear hcell
      gi_loopw [3, 17] (fun v3 v17 wr => ∃ (j k : Nat) (pre : List It), v17 = .int .i64 (j : Int) ∧ v3 = .int .i64 (k : Int) ∧ j ≤ mm ∧ Hid (pre.length = k ∧ k = offs (ms.take i) + j) ∧ J pre wr) (fun v3 v17 _ => mm - (intOf v17).toNat)
      case atStart => exact ⟨0, k, pre, rfl, rfl, Nat.zero_le _, HK, hj⟩
      case round =>
        clear HK
        obtain ⟨j, k, pre, rfl, rfl, hjm, HK, hj⟩ := hrel
        by_cases hjl : j < mm
        · have hjj : (j : Int) < (mm : Int) := by omega
          have hj0 : (0 : Int) ≤ (j : Int) := by omega
          have hra := HG.out.2 (by omega)
          subst hra
          have hk9 : k ≤ 1000 * 1000 + 1000 := by
            have := offs_bd HML.out.2.1 i
            have := HK.out
            omega
          obtain ⟨fn, tmps, assign, body, hyy, hR⟩ := HY.out pre (k, g, j * 3) wr.drew (HJ.out pre _ _ hj (Below.drew (Below.refl _ _))) ⟨HK.out.1.symm, by rw [HK.out.1, HK.out.2]; exact items_pt HG.out.1 hjl⟩
          simp only [encI] at hyy
          have HKN : Hid ((pre ++ [(k, g, j * 3)]).length = k + 1 ∧ k + 1 = offs (ms.take i) + (j + 1)) := Lib.hid (by rw [List.length_append, List.length_singleton]; have := HK.out; omega)
          have hk1 : IntKind.i64.wrap ((k : Int) + 1) = (k : Int) + 1 := IntWalk.i64_in _ (by omega)
          clear hj
          gi_upto_region 7 with fail
          gi_region_with (first | (refine hR.mono ?_; intro e W3 hh; obtain ⟨b, rfl, hbb⟩ : ∃ b, e = .returned (.bool b) ∧ Hid ((b = true ∧ J (pre ++ [(k, g, j * 3)]) W3) ∨ (b = false ∧ Jx (pre ++ [(k, g, j * 3)]) W3)) := (by rcases hh with ⟨h1, h2⟩ | ⟨h1, h2⟩; exact ⟨true, h1, Lib.hid (.inl ⟨rfl, h2⟩)⟩; exact ⟨false, h1, Lib.hid (.inr ⟨rfl, h2⟩)⟩)))
          all_goals
            have HB3 := hbb
            clear hbb
            cases b with
            | true =>
              have hj := HB3.out.resolve_right (fun h => by cases h.1)
              have HJ3 := Lib.hid hj.2
              clear hj HB3 hR hyy
              gi_wp2
              go_roundw
              case rel => exact ⟨j + 1, k + 1, pre ++ [(k, g, j * 3)], by go_num, by go_num, by omega, HKN, HJ3.out⟩
              case measure => simp [intOf] <;> omega
            | false =>
              have hj := HB3.out.resolve_left (fun h => by cases h.1)
              have HJX := Lib.hid hj.2
              clear hj HB3 hR hyy
              gi_wp2
              (try simp only [Exit.inBlock, Exit.then])
              refine bodyPost_ret (results_none rfl _ _ _) rfl ?_
              exact ⟨⟨_, rfl⟩, .inr ⟨_, by first | exact ⟨trivial, HJX.out⟩ | exact HJX.out⟩⟩
        · have hjj : ¬ (j : Int) < (mm : Int) := by omega
          have HKN : Hid (pre.length = k ∧ k = offs (ms.take (i + 1))) := Lib.hid (by rw [offs_take HG.out.1]; have := HK.out; omega)
          clear hjl
          gi_wp2
          go_roundw
          case rel => exact ⟨i + 1, k, pre, by go_num, rfl, by omega, HKN, hj⟩
          case measure => simp [intOf]; omega
    · have hii : ¬ (i : Int) < (n : Int) := by omega
      have HKE : Hid (pre.length = k ∧ k = offs ms + 0) := Lib.hid (by
        have h := HK.out
        rw [List.take_of_length_le (by rw [HML.out.1]; omega)] at h
        exact h)
      clear hin q2
      gi_upto_region 12 with fail
      clear q0 q1
      gi_loopw [3, 40] (fun v3 v40 wr => ∃ (j k : Nat) (pre : List It), v40 = .int .i64 (j : Int) ∧ v3 = .int .i64 (k : Int) ∧ j ≤ na ∧ Hid (pre.length = k ∧ k = offs ms + j) ∧ J pre wr) (fun v3 v40 _ => na - (intOf v40).toNat)
      case atStart => exact ⟨0, k, pre, rfl, rfl, Nat.zero_le _, HKE, hj⟩
      case round =>
        clear HK HKE
        obtain ⟨j, k, pre, rfl, rfl, hjm, HK, hj⟩ := hrel
        by_cases hjl : j < na
        · have hjj : (j : Int) < (na : Int) := by omega
          have hj0 : (0 : Int) ≤ (j : Int) := by omega
          have hra := HML.out.2.2.2.2 (by omega)
          subst hra
          have hk9 : k ≤ 1000 * 1000 + 1000 := by
            have := offs_bd HML.out.2.1 n
            rw [← HML.out.1, List.take_length] at this
            have := HK.out
            have := HML.out.1
            omega
          have hjd := HJ.out pre _ _ hj (Below.drew (Below.refl _ wr))
          obtain ⟨q0, q1, -⟩ := HN.out pre _ hjd
          obtain ⟨fn, tmps, assign, body, hyy, hR⟩ := HY.out pre (k, ga, j * 3 + 1) wr.drew hjd ⟨HK.out.1.symm, by rw [HK.out.1, HK.out.2]; exact items_an hjl⟩
          simp only [encI] at hyy
          have HKN : Hid ((pre ++ [(k, ga, j * 3 + 1)]).length = k + 1 ∧ k + 1 = offs ms + (j + 1)) := Lib.hid (by rw [List.length_append, List.length_singleton]; have := HK.out; omega)
          have hk1 : IntKind.i64.wrap ((k : Int) + 1) = (k : Int) + 1 := IntWalk.i64_in _ (by omega)
          clear hj hjd
          gi_upto_region 14 with fail
          gi_region_with (first | (refine hR.mono ?_; intro e W3 hh; obtain ⟨b, rfl, hbb⟩ : ∃ b, e = .returned (.bool b) ∧ Hid ((b = true ∧ J (pre ++ [(k, ga, j * 3 + 1)]) W3) ∨ (b = false ∧ Jx (pre ++ [(k, ga, j * 3 + 1)]) W3)) := (by rcases hh with ⟨h1, h2⟩ | ⟨h1, h2⟩; exact ⟨true, h1, Lib.hid (.inl ⟨rfl, h2⟩)⟩; exact ⟨false, h1, Lib.hid (.inr ⟨rfl, h2⟩)⟩)))
          all_goals
            have HB3 := hbb
            clear hbb
            cases b with
            | true =>
              have hj := HB3.out.resolve_right (fun h => by cases h.1)
              have HJ3 := Lib.hid hj.2
              clear hj HB3 hR hyy q0 q1
              gi_wp2
              go_roundw
              case rel => exact ⟨j + 1, k + 1, pre ++ [(k, ga, j * 3 + 1)], by go_num, by go_num, by omega, HKN, HJ3.out⟩
              case measure => simp [intOf] <;> omega
            | false =>
              have hj := HB3.out.resolve_left (fun h => by cases h.1)
              have HJX := Lib.hid hj.2
              clear hj HB3 hR hyy q0 q1
              gi_wp2
              (try simp only [Exit.inBlock, Exit.then])
              refine bodyPost_ret (results_none rfl _ _ _) rfl ?_
              exact ⟨⟨_, rfl⟩, .inr ⟨_, by first | exact ⟨trivial, HJX.out⟩ | exact HJX.out⟩⟩
        · have hjj : ¬ (j : Int) < (na : Int) := by omega
          have HSE : Hid (ItS (items ms ga na) pre) := Lib.hid (by unfold ItS; rw [items_len]; have := HK.out; omega)
          clear hjl
          gi_wp2
          go_end0
          exact ⟨⟨_, rfl⟩, .inl ⟨pre, HSE.out, hj⟩⟩
theorem pts_need (m : Nat) (hm : 1 ≤ m) (c : Nat) (vc : Value) (aa : Option Addr) (ac na ga n : Nat) (ms : List (Nat × Nat)) (vs : List Value) (hn : ms.length = n) (hn9 : n ≤ 1000) (hms : ∀ x ∈ ms, x.2 ≤ 1000) (hvs : VsOk vs ms) (hna : na ≤ 1000) (haa : 0 < na → aa = some ⟨ga, 0, none⟩) (w : World) :
    SeqNeed Fence.wide m Try.prog 86 #[.pointer (some ⟨c, 0, none⟩)] encI (ItN c vc (.slice aa na ac) n vs) (ItG (items ms ga na)) (ItS (items ms ga na)) (fun _ => True) w := fun l J Jx W _ hJ _ hN hY h0 =>
  pts_in m hm l c vc aa ac na ga n ms vs hn hn9 hms hvs hna haa J Jx W hJ hN hY h0
end Go.Proofs.Ytanppbdlcinpfaa
end
/- Numbers that are written one after the other. No conditions. -/
section
namespace Go.Proofs.Ytanppbdlcinpfaa
set_option maxRecDepth 100000
set_option linter.unusedVariables false
open Go.RowKit Go.Deep
theorem items_inv {ms : List (Nat × Nat)} {ga na k g o : Nat} (h : (items ms ga na)[k]? = some (g, o)) : (∃ i n j, ms[i]? = some (g, n) ∧ j < n ∧ k = offs (ms.take i) + j ∧ o = j * 3) ∨ (∃ j, j < na ∧ k = offs ms + j ∧ g = ga ∧ o = j * 3 + 1) := by
  have hk := (List.getElem?_eq_some_iff.1 h).1
  rw [items_len] at hk
  by_cases h1 : k < offs ms
  · have key : ∀ i, i ≤ ms.length → k < offs (ms.take i) → ∃ i' g' n' j, ms[i']? = some (g', n') ∧ j < n' ∧ k = offs (ms.take i') + j := fun i => by
      induction i with
      | zero => intro _ h0; simp [offs] at h0
      | succ i ih =>
        intro hi h0
        by_cases h2 : k < offs (ms.take i)
        · exact ih (by omega) h2
        · obtain ⟨⟨g', n'⟩, hg⟩ : ∃ x, ms[i]? = some x := ⟨_, List.getElem?_eq_getElem (by omega)⟩
          rw [offs_take hg] at h0
          exact ⟨i, g', n', k - offs (ms.take i), hg, by omega, by omega⟩
    obtain ⟨i, g', n', j, a1, a2, a3⟩ := key ms.length (Nat.le_refl _) (by rw [List.take_length]; exact h1)
    have := items_pt (ga := ga) (na := na) a1 a2
    rw [← a3, h] at this
    have e := Option.some.inj this
    injection e with e1 e2
    subst e1 e2
    exact .inl ⟨i, n', j, a1, a2, a3, rfl⟩
  · have := items_an (ms := ms) (ga := ga) (j := k - offs ms) (na := na) (by omega)
    rw [show offs ms + (k - offs ms) = k by omega, h] at this
    have e := Option.some.inj this
    injection e with e1 e2
    exact .inr ⟨k - offs ms, by omega, by omega, e1, e2⟩
/-- Different rows lie in different blocks. -/
structure SepB (ms : List (Nat × Nat)) (ga : Nat) : Prop where
  ne : ∀ (i i' g g' n n' : Nat), i ≠ i' → ms[i]? = some (g, n) → ms[i']? = some (g', n') → 0 < n → 0 < n' → g ≠ g'
  an : ∀ (i g n : Nat), ms[i]? = some (g, n) → 0 < n → g ≠ ga
/-- Where a number stands. -/
def adr (L : List (Nat × Nat)) (t : Nat) : Nat × Nat := ((L.getD (t / 2) (0, 0)).1, (L.getD (t / 2) (0, 0)).2 + t % 2)
theorem adr_at {L : List (Nat × Nat)} {k g o q : Nat} (h : L[k]? = some (g, o)) (hq : q < 2) : adr L (2 * k + q) = (g, o + q) := by
  unfold adr
  rw [show (2 * k + q) / 2 = k by omega, show (2 * k + q) % 2 = q by omega, List.getD_eq_getElem?_getD, h]
  rfl
theorem adr_get {L : List (Nat × Nat)} {t : Nat} (ht : t < 2 * L.length) : ∃ g o, L[t / 2]? = some (g, o) ∧ adr L t = (g, o + t % 2) := by
  obtain ⟨⟨g, o⟩, h⟩ : ∃ x, L[t / 2]? = some x := ⟨_, List.getElem?_eq_getElem (by omega)⟩
  refine ⟨g, o, h, ?_⟩
  have := adr_at h (q := t % 2) (by omega)
  rwa [show 2 * (t / 2) + t % 2 = t by omega] at this
theorem adr_inj {ms : List (Nat × Nat)} {ga na : Nat} (hs : SepB ms ga) {t t' : Nat} (ht : t < 2 * (items ms ga na).length) (ht' : t' < 2 * (items ms ga na).length) (he : adr (items ms ga na) t = adr (items ms ga na) t') : t = t' := by
  obtain ⟨g, o, h, e⟩ := adr_get ht
  obtain ⟨g', o', h', e'⟩ := adr_get ht'
  rw [e, e'] at he
  injection he with h1 h2
  subst h1
  rcases items_inv h with ⟨i, n, j, a1, a2, a3, a4⟩ | ⟨j, a2, a3, a4, a5⟩
  · rcases items_inv h' with ⟨i', n', j', b1, b2, b3, b4⟩ | ⟨j', b2, b3, b4, b5⟩
    · have hii : i = i' := Classical.byContradiction fun hne => hs.ne i i' g g n n' hne a1 b1 (by omega) (by omega) rfl
      subst hii
      omega
    · exact absurd b4 (hs.an i g n a1 (by omega))
  · rcases items_inv h' with ⟨i', n', j', b1, b2, b3, b4⟩ | ⟨j', b2, b3, b4, b5⟩
    · exact absurd a4 (hs.an i' g n' b1 (by omega))
    · omega
/-- The first numbers are written, all else of these blocks is as it was. -/
structure Upd (F : Nat → Prop) (L : List (Nat × Nat)) (nv : Nat → Int) (W0 W : World) (t : Nat) : Prop where
  new : ∀ t', t' < t → W.cell? ⟨(adr L t').1, (adr L t').2, none⟩ = some (.int .i64 (nv t'))
  old : ∀ g o, F g → (∀ t', t' < t → adr L t' ≠ (g, o)) → W.cell? ⟨g, o, none⟩ = W0.cell? ⟨g, o, none⟩
  fro : ∀ g o, F g → W.frozen? ⟨g, o, none⟩ = false
  lt : ∀ g, F g → g < W.heap.size
theorem Upd.below {F : Nat → Prop} {L : List (Nat × Nat)} {nv : Nat → Int} {W0 W V : World} {t : Nat} (h : Upd F L nv W0 W t) (hF : ∀ t', t' < t → F (adr L t').1) (hb : Below W.heap.size W V) : Upd F L nv W0 V t :=
  ⟨fun t' ht => (hb.cell (p := ⟨_, _, none⟩) (h.lt _ (hF t' ht))).trans (h.new t' ht), fun g o hg hn => (hb.cell (p := ⟨g, o, none⟩) (h.lt g hg)).trans (h.old g o hg hn), fun g o hg => (hb.frozen (p := ⟨g, o, none⟩) (h.lt g hg)).trans (h.fro g o hg), fun g hg => Nat.lt_of_lt_of_le (h.lt g hg) hb.size⟩
theorem frozen_set (w : World) (p q : Addr) (v : Value) : (w.setCell p v).frozen? q = w.frozen? q := by
  unfold World.frozen? World.setCell
  simp only [Array.getElem?_modify]
  by_cases h : p.block = q.block
  · rw [if_pos h]
    cases w.heap[q.block]? with
    | none => rfl
    | some o => cases o <;> rfl
  · rw [if_neg h]
theorem Upd.step {F : Nat → Prop} {L : List (Nat × Nat)} {nv : Nat → Int} {W0 W : World} {t T : Nat} (h : Upd F L nv W0 W t) (ht : t < T) (hinj : ∀ a b, a < T → b < T → adr L a = adr L b → a = b) {u : Value} (hc : W.cell? ⟨(adr L t).1, (adr L t).2, none⟩ = some u) :
    Upd F L nv W0 (W.setCell ⟨(adr L t).1, (adr L t).2, none⟩ (.int .i64 (nv t))) (t + 1) := by
  refine ⟨fun t' ht' => ?_, fun g o hg hn => ?_, fun g o hg => by rw [frozen_set]; exact h.fro g o hg, fun g hg => by simpa using h.lt g hg⟩
  · by_cases e : t' = t
    · subst e
      exact World.cell?_setCell_same _ _ _ hc
    · rw [World.cell?_setCell_other _ _ _ _ (fun e2 => e ?_)]
      · exact h.new t' (by omega)
      · injection e2 with e3 e4
        exact (hinj t t' ht (by omega) (Prod.ext e3 e4)).symm
  · rw [World.cell?_setCell_other _ _ _ _ (fun e2 => hn t (by omega) ?_)]
    · exact h.old g o hg fun t' ht' => hn t' (by omega)
    · injection e2 with e3 e4
      exact Prod.ext e3 e4
end Go.Proofs.Ytanppbdlcinpfaa
end
/- Outlines whose numbers were all written. No conditions. -/
section
namespace Go.Proofs.Ytanppbdlcinpfaa
set_option maxRecDepth 100000
set_option linter.unusedVariables false
open Go.RowKit Go.Deep
theorem flat_get {α : Type} {f : α → List Value} {k : Nat} (hk : 0 < k) (hf : ∀ z, (f z).length = k) : ∀ (l : List α) (j : Nat) (u : Value), (l.flatMap f)[j]? = some u → ∃ z, l[j / k]? = some z ∧ (f z)[j % k]? = some u
  | [], j, u, h => by simp at h
  | z :: l, j, u, h => by
    rw [List.flatMap_cons] at h
    by_cases hj : j < k
    · rw [List.getElem?_append_left (by rw [hf]; exact hj)] at h
      rw [Nat.div_eq_of_lt hj, Nat.mod_eq_of_lt hj]
      exact ⟨z, rfl, h⟩
    · rw [List.getElem?_append_right (by rw [hf]; omega), hf] at h
      obtain ⟨z', h1, h2⟩ := flat_get hk hf l (j - k) u h
      have e1 : j / k = (j - k) / k + 1 := by
        have : j = (j - k) + k := by omega
        rw [this, Nat.add_div_right _ hk, show j - k + k - k = j - k by omega]
      have e2 : j % k = (j - k) % k := by
        have : j = (j - k) + k := by omega
        rw [this, Nat.add_mod_right, show j - k + k - k = j - k by omega]
      rw [e1, e2]
      exact ⟨z', by simpa using h1, h2⟩
/-- Outlines whose numbers are turned: f tells what becomes of the q-th number of the k-th point. -/
def tpt (f : Nat → Nat → Int → Int) (k : Nat) (p : Pt) : Pt := ⟨f k 0 p.x, f k 1 p.y, p.on⟩
def tac (f : Nat → Nat → Int → Int) (k : Nat) (a : Ac) : Ac := ⟨a.c, f k 0 a.x, f k 1 a.y⟩
def tct (f : Nat → Nat → Int → Int) (k0 : Nat) (c : List Pt) : List Pt := c.mapIdx fun j p => tpt f (k0 + j) p
def tan (f : Nat → Nat → Int → Int) (k0 : Nat) (l : List Ac) : List Ac := l.mapIdx fun j a => tac f (k0 + j) a
def tcs (f : Nat → Nat → Int → Int) : Nat → List (List Pt) → List (List Pt)
  | _, [] => []
  | k0, c :: C => tct f k0 c :: tcs f (k0 + c.length) C
theorem tct_len (f : Nat → Nat → Int → Int) (k0 : Nat) (c : List Pt) : (tct f k0 c).length = c.length := by simp [tct]
theorem tan_len (f : Nat → Nat → Int → Int) (k0 : Nat) (c : List Ac) : (tan f k0 c).length = c.length := by simp [tan]
theorem tcs_len (f : Nat → Nat → Int → Int) : ∀ (C : List (List Pt)) (k0 : Nat), (tcs f k0 C).length = C.length
  | [], _ => rfl
  | c :: C, k0 => by rw [tcs, List.length_cons, tcs_len f C, List.length_cons]
theorem tct_at (f : Nat → Nat → Int → Int) (k0 : Nat) (c : List Pt) (j : Nat) : (tct f k0 c)[j]? = (c[j]?).map (tpt f (k0 + j)) := by simp [tct]
theorem tan_at (f : Nat → Nat → Int → Int) (k0 : Nat) (c : List Ac) (j : Nat) : (tan f k0 c)[j]? = (c[j]?).map (tac f (k0 + j)) := by simp [tan]
theorem tcs_at (f : Nat → Nat → Int → Int) : ∀ (C : List (List Pt)) (k0 i : Nat) (c : List Pt), C[i]? = some c → (tcs f k0 C)[i]? = some (tct f (k0 + OL.pts (C.take i)) c)
  | [], _, _, _, h => by simp at h
  | d :: C, k0, 0, c, h => by
    obtain rfl : d = c := by simpa using h
    simp [tcs, OL.pts]
  | d :: C, k0, i + 1, c, h => by
    have h' : C[i]? = some c := by simpa using h
    have := tcs_at f C (k0 + d.length) i c h'
    rw [tcs, List.getElem?_cons_succ, this]
    simp [OL.pts, Nat.add_assoc]
theorem SrcN.re {k n : Nat} {W0 W : World} {v : Value} {U U' : List Value} (h : SrcN k W0 v n U) (hl : U'.length = n * k) (hc : ∀ g o, (∃ c, v = .slice (some ⟨g, o, none⟩) n c) → 0 < n → g < W.heap.size ∧ ∀ j u, U'[j]? = some u → W.cell? ⟨g, o + j, none⟩ = some u) : SrcN k W v n U' := by
  obtain ⟨ao, c, e, h0, h1⟩ := h
  refine ⟨ao, c, e, hl, ?_⟩
  by_cases hn : n = 0
  · rcases h1 with ⟨h2, h3⟩ | ⟨g, o, e2, h3, h4⟩
    · exact .inl ⟨h2, h3⟩
    · refine .inl ⟨hn, fun e3 => ?_⟩
      rw [e3] at e2
      cases e2
  · rcases h1 with ⟨h2, h3⟩ | ⟨g, o, e2, h3, h4⟩
    · exact absurd h2 hn
    · obtain ⟨h5, h6⟩ := hc g o ⟨c, by rw [e, e2]⟩ (by omega)
      exact .inr ⟨g, o, e2, h5, h6⟩
/-- The numbers of an outline, as they lie. -/
structure Lay (W0 : World) (ms : List (Nat × Nat)) (ga : Nat) (C : List (List Pt)) (A : List Ac) : Prop where
  len : ms.length = C.length
  row : ∀ (i g n : Nat), ms[i]? = some (g, n) → ∃ c : List Pt, C[i]? = some c ∧ c.length = n ∧ ∀ (j : Nat) (p : Pt), c[j]? = some p → W0.cell? ⟨g, j * 3, none⟩ = some (.int .i64 p.x) ∧ W0.cell? ⟨g, j * 3 + 1, none⟩ = some (.int .i64 p.y) ∧ W0.cell? ⟨g, j * 3 + 2, none⟩ = some (.bool p.on)
  anc : ∀ (j : Nat) (a : Ac), A[j]? = some a → W0.cell? ⟨ga, j * 3, none⟩ = some (.int .i64 a.c) ∧ W0.cell? ⟨ga, j * 3 + 1, none⟩ = some (.int .i64 a.x) ∧ W0.cell? ⟨ga, j * 3 + 2, none⟩ = some (.int .i64 a.y)
def inF (ms : List (Nat × Nat)) (ga na : Nat) (g : Nat) : Prop := (∃ i n : Nat, ms[i]? = some (g, n) ∧ 0 < n) ∨ (g = ga ∧ 0 < na)
theorem adr_inF {ms : List (Nat × Nat)} {ga na t : Nat} (ht : t < 2 * (items ms ga na).length) : inF ms ga na (adr (items ms ga na) t).1 := by
  obtain ⟨g, o, h, e⟩ := adr_get ht
  rw [e]
  rcases items_inv h with ⟨i, n, j, a1, a2, a3, a4⟩ | ⟨j, a2, a3, a4, a5⟩
  · exact .inl ⟨i, n, a1, by omega⟩
  · exact .inr ⟨a4, by omega⟩
theorem Lay.offs {W0 : World} {ms : List (Nat × Nat)} {ga : Nat} {C : List (List Pt)} {A : List Ac} (h : Lay W0 ms ga C A) : ∀ i, i ≤ ms.length → offs (ms.take i) = OL.pts (C.take i)
  | 0, _ => by simp [Go.Proofs.Ytanppbdlcinpfaa.offs, OL.pts]
  | i + 1, hi => by
    have ih := h.offs i (by omega)
    obtain ⟨⟨g, n⟩, hg⟩ : ∃ x, ms[i]? = some x := ⟨_, List.getElem?_eq_getElem (by omega)⟩
    obtain ⟨c, hc, hl, -⟩ := h.row i g n hg
    rw [offs_take hg, OL.pts_take hc, ih, hl]
/-- The numbers, one after the other. -/
def nums (C : List (List Pt)) (A : List Ac) : List (Int × Int) := C.flatMap (fun c => c.map fun p => (p.x, p.y)) ++ A.map fun a => (a.x, a.y)
theorem nums_pt {C : List (List Pt)} {A : List Ac} {i j : Nat} {c : List Pt} {p : Pt} (h : C[i]? = some c) (hp : c[j]? = some p) : (nums C A)[OL.pts (C.take i) + j]? = some (p.x, p.y) := by
  have hl : ∀ l : List (List Pt), (l.flatMap fun c => c.map fun p : Pt => (p.x, p.y)).length = OL.pts l := fun l => by
    unfold OL.pts
    rw [List.length_flatMap]
    congr 1
    exact List.map_congr_left fun x _ => by rw [List.length_map]
  obtain ⟨h1, h2⟩ := List.getElem?_eq_some_iff.1 h
  have hj := (List.getElem?_eq_some_iff.1 hp).1
  have hs : C = C.take i ++ c :: C.drop (i + 1) := by rw [← h2, ← List.drop_eq_getElem_cons h1, List.take_append_drop]
  unfold nums
  have hpt := OL.pts_take h
  have h5 : OL.pts C = OL.pts (C.take (i + 1)) + OL.pts (C.drop (i + 1)) := by
    unfold OL.pts
    rw [← List.sum_append, ← List.map_append, List.take_append_drop]
  rw [List.getElem?_append_left (by rw [hl]; omega)]
  have e : (C.flatMap fun c => c.map fun p : Pt => (p.x, p.y)) = ((C.take i).flatMap fun c => c.map fun p : Pt => (p.x, p.y)) ++ ((c.map fun p : Pt => (p.x, p.y)) ++ (C.drop (i + 1)).flatMap fun c => c.map fun p : Pt => (p.x, p.y)) := by
    rw [← List.flatMap_cons (f := fun c : List Pt => c.map fun p : Pt => (p.x, p.y)) (x := c), ← List.flatMap_append, ← hs]
  rw [e, List.getElem?_append_right (by rw [hl]; omega), hl, Nat.add_sub_cancel_left, List.getElem?_append_left (by rw [List.length_map]; exact hj), List.getElem?_map, hp]
  rfl
theorem nums_an {C : List (List Pt)} {A : List Ac} {j : Nat} {a : Ac} (h : A[j]? = some a) : (nums C A)[OL.pts C + j]? = some (a.x, a.y) := by
  have hl : (C.flatMap fun c => c.map fun p : Pt => (p.x, p.y)).length = OL.pts C := by
    unfold OL.pts
    rw [List.length_flatMap]
    congr 1
    exact List.map_congr_left fun x _ => by rw [List.length_map]
  unfold nums
  rw [List.getElem?_append_right (by rw [hl]; omega), hl, Nat.add_sub_cancel_left, List.getElem?_map, h]
  rfl
/-- What is written at last. -/
def nvF (f : Nat → Nat → Int → Int) (N : List (Int × Int)) (t : Nat) : Int := if t % 2 = 0 then f (t / 2) 0 (N.getD (t / 2) (0, 0)).1 else f (t / 2) 1 (N.getD (t / 2) (0, 0)).2
theorem nvF_0 {f : Nat → Nat → Int → Int} {N : List (Int × Int)} {k : Nat} {x y : Int} (h : N[k]? = some (x, y)) : nvF f N (2 * k + 0) = f k 0 x := by
  unfold nvF
  rw [show (2 * k + 0) % 2 = 0 by omega, show (2 * k + 0) / 2 = k by omega, if_pos rfl, List.getD_eq_getElem?_getD, h]
  rfl
theorem nvF_1 {f : Nat → Nat → Int → Int} {N : List (Int × Int)} {k : Nat} {x y : Int} (h : N[k]? = some (x, y)) : nvF f N (2 * k + 1) = f k 1 y := by
  unfold nvF
  rw [show (2 * k + 1) % 2 = 1 by omega, show (2 * k + 1) / 2 = k by omega, if_neg (by decide), List.getD_eq_getElem?_getD, h]
  rfl
theorem Upd.first {F : Nat → Prop} {L : List (Nat × Nat)} {nv : Nat → Int} {W : World} (hf : ∀ g o, F g → W.frozen? ⟨g, o, none⟩ = false) (hl : ∀ g, F g → g < W.heap.size) : Upd F L nv W W 0 :=
  ⟨fun t' h => by omega, fun g o _ _ => rfl, hf, hl⟩
section
variable {W0 W : World} {ms : List (Nat × Nat)} {ga : Nat} {C : List (List Pt)} {A : List Ac} {f : Nat → Nat → Int → Int}
/-- A contour, when all is written. -/
theorem fin_pt (hl : Lay W0 ms ga C A) (hs : SepB ms ga) (h : Upd (inF ms ga A.length) (items ms ga A.length) (nvF f (nums C A)) W0 W (2 * (items ms ga A.length).length)) {i g n : Nat} {c : List Pt} (hg : ms[i]? = some (g, n)) (hc : C[i]? = some c) {j : Nat} {p : Pt} (hp : c[j]? = some p) :
    W.cell? ⟨g, j * 3, none⟩ = some (.int .i64 (f (OL.pts (C.take i) + j) 0 p.x)) ∧ W.cell? ⟨g, j * 3 + 1, none⟩ = some (.int .i64 (f (OL.pts (C.take i) + j) 1 p.y)) ∧ W.cell? ⟨g, j * 3 + 2, none⟩ = some (.bool p.on) := by
  obtain ⟨c', hc', hln, hcl⟩ := hl.row i g n hg
  obtain rfl : c' = c := by rw [hc] at hc'; exact (Option.some.inj hc').symm
  have hjn : j < n := by have := (List.getElem?_eq_some_iff.1 hp).1; omega
  have hio := hl.offs i (by have := (List.getElem?_eq_some_iff.1 hg).1; omega)
  have hit := items_pt (ga := ga) (na := A.length) hg hjn
  have hk := (List.getElem?_eq_some_iff.1 hit).1
  have hn := nums_pt (A := A) hc hp
  rw [hio] at hit hk
  have e0 := h.new (2 * (OL.pts (C.take i) + j) + 0) (by omega)
  have e1 := h.new (2 * (OL.pts (C.take i) + j) + 1) (by omega)
  rw [adr_at hit (by decide), nvF_0 hn] at e0
  rw [adr_at hit (by decide), nvF_1 hn] at e1
  refine ⟨e0, e1, ?_⟩
  rw [h.old g (j * 3 + 2) (.inl ⟨i, n, hg, by omega⟩) (fun t' ht' e => ?_)]
  · exact (hcl j p hp).2.2
  · obtain ⟨g', o', h', e'⟩ := adr_get ht'
    rw [e'] at e
    injection e with e1 e2
    subst e1
    rcases items_inv h' with ⟨i', n', j', b1, b2, b3, b4⟩ | ⟨j', b2, b3, b4, b5⟩
    · omega
    · exact hs.an i g' n hg (by omega) b4
theorem fin_an (hl : Lay W0 ms ga C A) (hs : SepB ms ga) (h : Upd (inF ms ga A.length) (items ms ga A.length) (nvF f (nums C A)) W0 W (2 * (items ms ga A.length).length)) {j : Nat} {a : Ac} (hp : A[j]? = some a) :
    W.cell? ⟨ga, j * 3, none⟩ = some (.int .i64 a.c) ∧ W.cell? ⟨ga, j * 3 + 1, none⟩ = some (.int .i64 (f (OL.pts C + j) 0 a.x)) ∧ W.cell? ⟨ga, j * 3 + 2, none⟩ = some (.int .i64 (f (OL.pts C + j) 1 a.y)) := by
  have hjn : j < A.length := (List.getElem?_eq_some_iff.1 hp).1
  have hio := hl.offs ms.length (Nat.le_refl _)
  rw [List.take_length, hl.len, List.take_length] at hio
  have hit := items_an (ms := ms) (ga := ga) hjn
  have hk := (List.getElem?_eq_some_iff.1 hit).1
  have hn := nums_an (C := C) hp
  rw [hio] at hit hk
  have e0 := h.new (2 * (OL.pts C + j) + 0) (by omega)
  have e1 := h.new (2 * (OL.pts C + j) + 1) (by omega)
  rw [adr_at hit (by decide), nvF_0 hn] at e0
  rw [adr_at hit (by decide), nvF_1 hn] at e1
  refine ⟨?_, e0, e1⟩
  rw [h.old ga (j * 3) (.inr ⟨rfl, by omega⟩) (fun t' ht' e => ?_)]
  · exact (hl.anc j a hp).1
  · obtain ⟨g', o', h', e'⟩ := adr_get ht'
    rw [e'] at e
    injection e with e1 e2
    rcases items_inv h' with ⟨i', n', j', b1, b2, b3, b4⟩ | ⟨j', b2, b3, b4, b5⟩
    · exact hs.an i' g' n' b1 (by omega) e1
    · omega
end
end Go.Proofs.Ytanppbdlcinpfaa
end
/- Rows made anew, ready to be written; what they are when all is written. No conditions. -/
section
namespace Go.Proofs.Ytanppbdlcinpfaa
set_option maxRecDepth 100000
set_option linter.unusedVariables false
open Go.RowKit Go.Deep
theorem own_cases {W : World} {B e k n : Nat} {u : Value} {U : List Value} (h : W.ownsRow B e k u n U) (hn : 0 < n) : ∃ g c, u = .slice (some ⟨g, 0, none⟩) n c ∧ B ≤ g ∧ g < W.heap.size := by
  rcases h.2 with ⟨h1, h2⟩ | ⟨g, cap, cur, h1, hb, h2, -⟩
  · omega
  · exact ⟨g, cap, h1, hb, (Array.getElem?_eq_some_iff.1 h2).1⟩
theorem own_cell3 {α : Type} {f : α → List Value} {W : World} {B e n g c k : Nat} {l : List α} (hf : ∀ x, (f x).length = k) (h : W.ownsRow B e k (.slice (some ⟨g, 0, none⟩) n c) n (l.flatMap f)) {j : Nat} {x : α} (hj : l[j]? = some x) (r : Nat) (u : Value) (hu : (f x)[r]? = some u) : W.cell? ⟨g, j * k + r, none⟩ = some u := by
  have := h.cells (g := g) rfl (j * k + r) u (AX.flat_at hf l j x r u hj hu)
  rw [show ((⟨g, 0, none⟩ : Addr).add (j * k + r)) = ⟨g, j * k + r, none⟩ by cases h0 : j * k + r <;> simp [Addr.add]] at this
  exact this
/-- What stands ready when the rows are made anew. -/
structure Rdy (W : World) (Y : Nat) (v va : Value) (C : List (List Pt)) (A : List Ac) (vs : List Value) (ms : List (Nat × Nat)) (ga : Nat) : Prop where
  lay : Lay W ms ga C A
  sep : SepB ms ga
  vok : VsOk vs ms
  msl : ∀ x ∈ ms, x.2 ≤ 1000
  vas : ∃ aa ac, va = .slice aa A.length ac ∧ (0 < A.length → aa = some ⟨ga, 0, none⟩)
  fro : ∀ g o, inF ms ga A.length g → W.frozen? ⟨g, o, none⟩ = false
  lt : ∀ g, inF ms ga A.length g → g < W.heap.size ∧ Y ≤ g ∧ v.ownBlock ≠ some g
  own : ∀ (i g n : Nat) (u : Value), ms[i]? = some (g, n) → vs[i]? = some u → u.ownBlock = some g → 0 < n → True
  src : SrcN 1 W v C.length vs
  rows : ∀ (i : Nat) (c : List Pt), C[i]? = some c → ∃ u, vs[i]? = some u ∧ SrcN 3 W u c.length (ptc c)
  asrc : SrcN 3 W va A.length (acc A)
  cells : ∀ g, inF ms ga A.length g → ∃ cs T, W.heap[g]? = some (.cells cs T (0, 0))
theorem set_up {W : World} {Y Y2 : Nat} {v va : Value} {C : List (List Pt)} {A : List Ac} {vs : List Value} (hc : CnS W Y v C vs) (ha : W.ownsRow Y2 30 3 va A.length (acc A)) (hY : Y ≤ Y2) (hsep : ∀ (i : Nat) (u : Value) (q : Nat), vs[i]? = some u → u.ownBlock = some q → q < Y2) (hv2 : ∀ q, v.ownBlock = some q → q < Y2) (hok : CsOk C) :
    ∃ ms ga, Rdy W Y v va C A vs ms ga := by
  obtain ⟨ms, hms⟩ : ∃ ms, (C.zip vs).map (fun x => ((x.2.ownBlock).getD 0, x.1.length)) = ms := ⟨_, rfl⟩
  obtain ⟨ga, hga⟩ : ∃ ga, (va.ownBlock).getD W.heap.size = ga := ⟨_, rfl⟩
  have hvl := hc.len
  have hml : ms.length = C.length := by rw [← hms, List.length_map, List.length_zip, hvl, Nat.min_self]
  have hat : ∀ (i g n : Nat), ms[i]? = some (g, n) → ∃ (c : List Pt) (u : Value), C[i]? = some c ∧ vs[i]? = some u ∧ c.length = n ∧ g = (u.ownBlock).getD 0 ∧ W.ownsRow Y 81 3 u n (ptc c) := fun i g n h => by
    rw [← hms, List.getElem?_map] at h
    cases hz : (C.zip vs)[i]? with
    | none => rw [hz] at h; cases h
    | some z =>
      rw [hz] at h
      obtain ⟨h1, h2⟩ := List.getElem?_zip_eq_some.1 hz
      have e := Option.some.inj h
      injection e with e1 e2
      obtain ⟨u, h3, h4⟩ := hc.inn i z.1 h1
      rw [h2] at h3
      have e3 := Option.some.inj h3
      subst e3
      exact ⟨z.1, z.2, h1, h2, e2, e1.symm, by rw [← e2]; exact h4⟩
  have hpos : ∀ (i g n : Nat), ms[i]? = some (g, n) → 0 < n → ∃ (c : List Pt) (k : Nat), C[i]? = some c ∧ vs[i]? = some (Value.slice (some ⟨g, 0, none⟩) n k) ∧ c.length = n ∧ W.ownsRow Y 81 3 (.slice (some ⟨g, 0, none⟩) n k) n (ptc c) := fun i g n h h0 => by
    obtain ⟨c, u, h1, h2, h3, h4, h5⟩ := hat i g n h
    obtain ⟨g', k, e, -, -⟩ := own_cases h5 h0
    subst e
    have : g = g' := h4
    subst this
    exact ⟨c, k, h1, h2, h3, h5⟩
  have hgan : 0 < A.length → ∃ k, va = .slice (some ⟨ga, 0, none⟩) A.length k ∧ Y2 ≤ ga ∧ ga < W.heap.size := fun h0 => by
    obtain ⟨g', k, e, e2, e3⟩ := own_cases ha h0
    have : ga = g' := by rw [← hga, e]; rfl
    subst this
    exact ⟨k, e, e2, e3⟩
  have hge : Y2 ≤ ga ∨ ga = W.heap.size := by
    cases hb : va.ownBlock with
    | none => rw [hb] at hga; exact .inr hga.symm
    | some q =>
      rw [hb] at hga
      have : q = ga := hga
      exact .inl (by rw [← this]; exact (own_lt ha hb).1)
  have hlt : ∀ (i g n : Nat), ms[i]? = some (g, n) → 0 < n → Y ≤ g ∧ g < W.heap.size ∧ g < Y2 ∧ v.ownBlock ≠ some g := fun i g n h h0 => by
    obtain ⟨c, k, h1, h2, h3, h5⟩ := hpos i g n h h0
    have h6 := own_lt h5 (q := g) rfl
    exact ⟨h6.1, h6.2, hsep i _ g h2 rfl, (hc.sep2 i _ g h2 rfl).1⟩
  have hcs : ∀ g, inF ms ga A.length g → ∃ cs T, W.heap[g]? = some (.cells cs T (0, 0)) := fun g hg => by
    have key : ∀ {B e k n : Nat} {u : Value} {U : List Value}, W.ownsRow B e k u n U → u.ownBlock = some g → ∃ cs T, W.heap[g]? = some (.cells cs T (0, 0)) := fun h hq => by
      rcases h.2 with ⟨h1, -⟩ | ⟨g', cap, cur, h1, hb, h2, -⟩
      · rw [h1] at hq; cases hq
      · rw [h1] at hq
        have e : g' = g := Option.some.inj hq
        rw [← e]
        exact ⟨_, _, h2⟩
    rcases hg with ⟨i, n, h1, h2⟩ | ⟨e, h0⟩
    · obtain ⟨c, k, -, h3, h4, h5⟩ := hpos i g n h1 h2
      exact key h5 rfl
    · subst e
      obtain ⟨k, e, -⟩ := hgan h0
      exact key ha (by rw [e]; rfl)
  refine ⟨ms, ga, ⟨⟨hml, fun i g n h => ?_, fun j a hj => ?_⟩, ⟨fun i i' g g' n n' hne h h' h0 h0' e => ?_, fun i g n h h0 e => ?_⟩, fun i g n h => ?_, fun x hx => ?_, ?_, fun g o hg => ?_, fun g hg => ?_, fun _ _ _ _ _ _ _ _ => trivial, own_srcN hc.out, fun i c h => ?_, own_srcN ha, hcs⟩⟩
  · obtain ⟨c, u, h1, h2, h3, h4, h5⟩ := hat i g n h
    refine ⟨c, h1, h3, fun j p hp => ?_⟩
    have h0 : 0 < n := by have := (List.getElem?_eq_some_iff.1 hp).1; omega
    obtain ⟨c', k, h1', h2', h3', h5'⟩ := hpos i g n h h0
    obtain rfl : c' = c := by rw [h1] at h1'; exact (Option.some.inj h1').symm
    exact ⟨own_cell3 ptv_len h5' hp 0 _ rfl, own_cell3 ptv_len h5' hp 1 _ rfl, own_cell3 ptv_len h5' hp 2 _ rfl⟩
  · have h0 : 0 < A.length := by have := (List.getElem?_eq_some_iff.1 hj).1; omega
    obtain ⟨k, e, -⟩ := hgan h0
    rw [e] at ha
    exact ⟨own_cell3 acv_len ha hj 0 _ rfl, own_cell3 acv_len ha hj 1 _ rfl, own_cell3 acv_len ha hj 2 _ rfl⟩
  · subst e
    obtain ⟨c, k, -, h2, -, -⟩ := hpos i g n h h0
    obtain ⟨c', k', -, h2', -, -⟩ := hpos i' g n' h' h0'
    rcases Nat.lt_or_gt_of_ne hne with hlt' | hlt'
    · exact hc.sep i i' _ _ g hlt' h2 h2' rfl rfl
    · exact hc.sep i' i _ _ g hlt' h2' h2 rfl rfl
  · have h1 := hlt i g n h h0
    omega
  · obtain ⟨c, u, h1, h2, h3, h4, h5⟩ := hat i g n h
    obtain ⟨a, k, e⟩ := own_shape h5
    refine ⟨a, k, by rw [h2, e], fun h0 => ?_⟩
    obtain ⟨c', k', -, h2', -, -⟩ := hpos i g n h h0
    rw [h2, e] at h2'
    have e2 := Option.some.inj h2'
    injection e2
  · obtain ⟨i, hi⟩ := List.mem_iff_getElem?.1 hx
    obtain ⟨c, u, h1, h2, h3, h4, h5⟩ := hat i x.1 x.2 hi
    have := hok.m c (List.mem_of_getElem? h1)
    omega
  · obtain ⟨a, k, e⟩ := own_shape ha
    refine ⟨a, k, e, fun h0 => ?_⟩
    obtain ⟨k', e', -⟩ := hgan h0
    rw [e] at e'
    injection e'
  · obtain ⟨cs, T, h⟩ := hcs g hg
    exact nd_froz h o
  · rcases hg with ⟨i, n, h1, h2⟩ | ⟨e, h0⟩
    · have := hlt i g n h1 h2
      exact ⟨this.2.1, this.1, this.2.2.2⟩
    · obtain ⟨k, e', e2, e3⟩ := hgan h0
      rw [e]
      exact ⟨e3, by omega, fun hq => by have := hv2 ga hq; omega⟩
  · obtain ⟨u, h3, h4⟩ := hc.inn i c h
    exact ⟨u, h3, own_srcN h4⟩
/-- When all is written, the outline is what f makes of it. -/
theorem finish {W0 W : World} {Y : Nat} {v va : Value} {C : List (List Pt)} {A : List Ac} {vs : List Value} {ms : List (Nat × Nat)} {ga : Nat} {f : Nat → Nat → Int → Int} (h : Rdy W0 Y v va C A vs ms ga) (hu : Upd (inF ms ga A.length) (items ms ga A.length) (nvF f (nums C A)) W0 W (2 * (items ms ga A.length).length)) (hs : SrcN 1 W v C.length vs) :
    CsAt W v (tcs f 0 C) ∧ AcAt W va (tan f (OL.pts C) A) := by
  constructor
  · refine ⟨vs, by rw [tcs_len]; exact hs, fun i d hd => ?_⟩
    have hi : i < C.length := by have := (List.getElem?_eq_some_iff.1 hd).1; rwa [tcs_len] at this
    obtain ⟨c, hc⟩ : ∃ c, C[i]? = some c := ⟨_, List.getElem?_eq_getElem hi⟩
    have hd2 := tcs_at f C 0 i c hc
    rw [hd, Nat.zero_add] at hd2
    obtain rfl := Option.some.inj hd2
    obtain ⟨⟨g, n⟩, hg⟩ : ∃ x, ms[i]? = some x := ⟨_, List.getElem?_eq_getElem (by rw [h.lay.len]; exact hi)⟩
    obtain ⟨c', hc', hln, -⟩ := h.lay.row i g n hg
    obtain rfl : c' = c := by rw [hc] at hc'; exact (Option.some.inj hc').symm
    obtain ⟨a, k, h1, h2⟩ := h.vok i g n hg
    obtain ⟨u, h3, h4⟩ := h.rows i c' hc
    rw [h1] at h3
    obtain rfl := Option.some.inj h3
    rw [tct_len, hln]
    refine ⟨a, k, h1, ?_⟩
    unfold PtAt
    rw [tct_len, hln]
    rw [hln] at h4
    refine SrcN.re h4 (by rw [ptc_len, tct_len, hln]) fun g' o' ⟨c2, e⟩ h0 => ?_
    injection e with e1 _ _
    rw [h2 h0] at e1
    injection e1 with e1
    injection e1 with e2 e3
    subst e2 e3
    refine ⟨hu.lt g (.inl ⟨i, n, hg, h0⟩), fun x u hx => ?_⟩
    obtain ⟨p', hp', hpu⟩ := flat_get (f := ptv) (k := 3) (by decide) ptv_len _ x u hx
    rw [tct_at] at hp'
    cases hp : c'[x / 3]? with
    | none => rw [hp] at hp'; cases hp'
    | some p =>
      rw [hp] at hp'
      obtain rfl := Option.some.inj hp'
      obtain ⟨q0, q1, q2⟩ := fin_pt h.lay h.sep hu hg hc hp
      rw [Nat.zero_add]
      have hx3 : x % 3 = 0 ∨ x % 3 = 1 ∨ x % 3 = 2 := by omega
      rcases hx3 with e | e | e <;> rw [e] at hpu
      · obtain rfl := Option.some.inj hpu
        rw [show x / 3 * 3 = x by omega] at q0
        exact q0
      · obtain rfl := Option.some.inj hpu
        rw [show x / 3 * 3 + 1 = x by omega] at q1
        exact q1
      · obtain rfl := Option.some.inj hpu
        rw [show x / 3 * 3 + 2 = x by omega] at q2
        exact q2
  · unfold AcAt
    rw [tan_len]
    obtain ⟨aa, ac, e, h2⟩ := h.vas
    refine SrcN.re h.asrc (by rw [acc_len, tan_len]) fun g' o' ⟨c2, e'⟩ h0 => ?_
    rw [e, h2 h0] at e'
    injection e' with e1 _ _
    injection e1 with e1
    injection e1 with e2 e3
    subst e2 e3
    refine ⟨hu.lt ga (.inr ⟨rfl, h0⟩), fun x u hx => ?_⟩
    obtain ⟨p', hp', hpu⟩ := flat_get (f := acv) (k := 3) (by decide) acv_len _ x u hx
    rw [tan_at] at hp'
    cases hp : A[x / 3]? with
    | none => rw [hp] at hp'; cases hp'
    | some p =>
      rw [hp] at hp'
      obtain rfl := Option.some.inj hp'
      obtain ⟨q0, q1, q2⟩ := fin_an h.lay h.sep hu hp
      rw [Nat.zero_add]
      have hx3 : x % 3 = 0 ∨ x % 3 = 1 ∨ x % 3 = 2 := by omega
      rcases hx3 with e | e | e <;> rw [e] at hpu
      · obtain rfl := Option.some.inj hpu
        rw [show x / 3 * 3 = x by omega] at q0
        exact q0
      · obtain rfl := Option.some.inj hpu
        rw [show x / 3 * 3 + 1 = x by omega] at q1
        exact q1
      · obtain rfl := Option.some.inj hpu
        rw [show x / 3 * 3 + 2 = x by omega] at q2
        exact q2
end Go.Proofs.Ytanppbdlcinpfaa
end
