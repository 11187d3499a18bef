/- The contract of the reference's May. -/
import Derived.Test.YtcocnmpnbolpmaaDoorBrkRMay
import Derived.Test.YtcocnmpnbolpmaaDoorCluRBase
import Derived.Maps.AppendAt
import Derived.Deep.Cut
namespace Go.Proofs.YtcocnmpnbolpmaaDoor
set_option linter.unusedVariables false
open Go.RowKit Go.Shelf Go.Deep
theorem own_of_grown {w w' : World} {B e n size : Nat} {v : Value} {xs : List Value} {row : Option Nat} (h : w.ownsRow B e size v n xs) (hg : w.grownBy w' row) (hr : ∀ q, v.ownBlock = some q → row ≠ some q) : w'.ownsRow B e size v n xs :=
  h.kept (row := row) hg (by cases hw : v.ownBlock with | none => exact Or.inl rfl | some q => exact Or.inr (fun e => hr q hw e.symm))
set_option maxRecDepth 100000 in
set_option maxHeartbeats 4000000 in
theorem rmay_any (s : ByteArray) (w : World) (hs : s.size ≤ 1000000000) :
    Calls Tryd.prog 13 #[.string s] w fun e W' => ∃ v', e = .returned v' ∧ Src W' v' ((BP.may s).map (Value.int .i64)) ∧ Below w.heap.size w W' := by
  obtain ⟨i0, hi, hz0, hz1, hz2⟩ := info_parts info_int
  have acc0 : Below w.heap.size w w := Below.refl _ _
  have hmem := CP.sp_mem (CP.sp_split s)
  have hlen : (CP.split s).length ≤ 1000000000 := Nat.le_trans (CP.split_length s) hs
  have HML : Hid (∀ k, k < (BP.heads s (CP.split s)).length → (BP.may s).take (k + 1) = (BP.may s).take k ++ [BP.may1 (BP.heads s (CP.split s)) (BP.ends s (CP.split s)) k]) := Lib.hid fun k hk => by
    unfold BP.may BP.mayL
    rw [List.take_add_one, List.getElem?_map, List.getElem?_range hk]; rfl
  have HHN : Hid (∀ k x, (CP.split s)[k]? = some x → BP.heads s ((CP.split s).take (k + 1)) = BP.heads s ((CP.split s).take k) ++ [BP.hd s x]) := Lib.hid fun k x hx => by
    rw [List.take_add_one, hx]; simp [BP.heads]
  have HEN : Hid (∀ k x, (CP.split s)[k]? = some x → BP.ends s ((CP.split s).take (k + 1)) = BP.ends s ((CP.split s).take k) ++ [CP.ch s (x.2 - 1)]) := Lib.hid fun k x hx => by
    rw [List.take_add_one, hx]; simp [BP.ends, BP.en]
  have hmlen := BP.may_length s
  have hhlen : (BP.heads s (CP.split s)).length = (CP.split s).length := by simp [BP.heads]
  have helen : (BP.ends s (CP.split s)).length = (BP.heads s (CP.split s)).length := by simp [BP.heads, BP.ends]
  obtain ⟨M, hMd⟩ : ∃ M, BP.may s = M := ⟨_, rfl⟩
  rw [hMd] at HML hmlen ⊢
  clear hMd
  go_enter Tryd.func13, Tryd.ntmps13
  go_wp2_with fail
  refine (rsplit_any s _ hs).mono ?_
  rintro e w1 ⟨vs, rfl, os, hb1⟩
  have acc1 := bnext acc0 hb1
  obtain ⟨ao, ac, rfl, hr⟩ := own_srcP os
  generalize CP.split s = l at hmem hlen HEN HHN hmlen hhlen helen hr HML
  have HMM := Lib.hid hmem
  clear os hb1 hmem acc0
  go_wp2_with fail
  go_loopw [4, 5, 7] (fun v4 v5 v7 wr => ∃ k : Nat, v7 = .int .i64 k ∧ k ≤ l.length ∧ wr.ownsRow w1.heap.size 3 1 v4 k ((BP.heads s (l.take k)).map (Value.int .i64)) ∧ wr.ownsRow w1.heap.size 3 1 v5 k ((BP.ends s (l.take k)).map (Value.int .i64)) ∧ Hid (∀ q, v4.ownBlock = some q → v5.ownBlock ≠ some q) ∧ Below w1.heap.size w1 wr) (fun _ _ v _ => l.length - (intOf v).toNat)
  case atStart => exact ⟨0, rfl, Nat.zero_le _, World.ownsRow_nil _ _ _ _, World.ownsRow_nil _ _ _ _, Lib.hid (fun q h => by simp [Value.ownBlock] at h), Below.refl _ _⟩
  case round =>
    obtain ⟨k, rfl, hk, hrow4, hrow5, HD, hb⟩ := hrel
    have hbs := hb.size
    by_cases h1 : k < l.length
    · have h1i : (k : Int) < (l.length : Int) := by omega
      obtain ⟨x, hx⟩ : ∃ x, l[k]? = some x := ⟨l[k], List.getElem?_eq_getElem h1⟩
      have hxm := HMM.out x (List.mem_of_getElem? hx)
      rcases hr with rfl | ⟨g', rfl, hg, hc⟩
      · simp at h1
      · obtain ⟨c0, c1⟩ := hc k x hx
        have HH1 := Lib.hid (HHN.out k x hx)
        have HE1 := Lib.hid (HEN.out k x hx)
        generalize BP.heads s (l.take k) = A at hrow4 HH1
        generalize BP.ends s (l.take k) = B at hrow5 HE1
        obtain ⟨b, hbase, hb0, hb1, _, _⟩ := CP.base_spec hxm.1 hxm.2
        have hhd : BP.hd s x = (s[b].toNat : Int) := by unfold BP.hd; rw [hbase, Int.toNat_natCast, CP.ch_at]
        rw [hhd] at HH1
        obtain ⟨f, u⟩ := x
        simp only at c0 c1 hbase hxm HE1
        obtain ⟨j, hj⟩ : ∃ j, u = j + 1 := ⟨u - 1, by omega⟩
        have huj : (u : Int) - 1 = (j : Int) := by omega
        have hjs : j < s.size := by omega
        have hjsi : (j : Int) < (s.size : Int) := by omega
        have hby : (s[j].toNat : Int) ≤ 255 := by have := s[j].toNat_lt; omega
        rw [show u - 1 = j by omega, CP.ch_at hjs] at HE1
        have RB := Lib.hid (rbase_any s (f : Int) (u : Int) wr hs)
        rw [hbase] at RB
        have hbS : b < s.size := by omega
        have hbSi : (b : Int) < (s.size : Int) := by omega
        have hby2 : (s[b].toNat : Int) ≤ 255 := by have := s[b].toNat_lt; omega
        replace c0 := (hb.cell (p := ⟨g', k * 2, none⟩) hg).trans c0
        replace c1 := (hb.cell (p := ⟨g', k * 2 + 1, none⟩) hg).trans c1
        have HC := Lib.hid hc
        have HX := Lib.hid hx
        clear hc hx hbase hhd hj
        go_wp2_with fail
        refine RB.out.mono ?_
        rintro e w2 ⟨rfl, hb2⟩
        have hrow4' := own_below hrow4 hb2
        have hrow5' := own_below hrow5 hb2
        have hb12 := bnext hb hb2
        have hb12s := hb12.size
        clear RB hrow4 hrow5
        go_upto_region 7 with (at_builtin; refine wpList_append_own_at _ rfl _ _ 22 rfl w1.heap.size 3 i0 (.int .i64 0) 1 8 Tryd.underlying22 hi hz0 hz1 hz2 rfl (by decide) _ _ _ rfl (hrow4'.alloc _) ⟨w2.heap.size, 0, none⟩ 1 1 [.int .i64 (s[b].toNat : Int)] rfl rfl (cell_one_new w2 _ _) (by simp [Value.oneCell']) (by unfold maxLen; omega) (by omega) (by simp; omega) ?_; intro v' w3 hown4 hgrow4 _ hat4; obtain ⟨g3, cap3, rfl⟩ := ownsRow_succ hown4)
        have hb13 : Below w1.heap.size w1 w3 := span_app hrow4' hb12 hgrow4
        have hb13s := hb13.size
        have hrow53 := own_of_grown (hrow5'.alloc _) hgrow4 (fun q h5 h4 => HD.out q h4 h5)
        have HD2 : Hid (∀ q, (Value.slice (some ⟨g3, 0, none⟩) (k + 1) cap3).ownBlock = some q → u5.ownBlock ≠ some q) := Lib.hid fun q h4 h5 => by
          have h5l := (hrow5'.lt q h5).2
          rcases hat4 with e | e
          · exact HD.out q (Eq.trans (Eq.symm e) h4) h5
          · have := Eq.trans (Eq.symm e) h4
            simp only [World.size_alloc, Option.some.injEq] at this
            omega
        have d1 := (hb13.cell (p := ⟨g', k * 2 + 1, none⟩) hg).trans (HC.out k (f, u) HX.out).2
        have HOWN4 := Lib.hid hown4
        clear hrow4' hrow5' hgrow4 hat4 hown4 c0 c1
        go_wp2_with (at_builtin; refine wpList_append_own_at _ rfl _ _ 22 rfl w1.heap.size 3 i0 (.int .i64 0) 1 8 Tryd.underlying22 hi hz0 hz1 hz2 rfl (by decide) _ _ _ rfl (hrow53.alloc _) ⟨w3.heap.size, 0, none⟩ 1 1 [.int .i64 (s[j].toNat : Int)] rfl rfl (cell_one_new w3 _ _) (by simp [Value.oneCell']) (by unfold maxLen; omega) (by omega) (by simp; omega) ?_; intro v' w4 hown5 hgrow5 _ hat5; obtain ⟨g5, cap5, rfl⟩ := ownsRow_succ hown5)
        have h45 := own_of_grown (HOWN4.out.alloc _) hgrow5 (fun q h4 h5 => HD2.out q h4 h5)
        go_roundw
        case rel =>
          refine ⟨k + 1, by go_num, h1, by rw [HH1.out, List.map_append]; exact h45, by rw [HE1.out, List.map_append]; exact hown5, Lib.hid fun q h4 h5 => ?_, span_app hrow53 hb13 hgrow5⟩
          have h4l := (HOWN4.out.lt q h4).2
          rcases hat5 with e | e
          · exact HD2.out q h4 (Eq.trans (Eq.symm e) h5)
          · have := Eq.trans (Eq.symm e) h5
            simp only [World.size_alloc, Option.some.injEq] at this
            omega
        case measure => simp [intOf]; omega
    · obtain rfl : k = l.length := by omega
      rw [List.take_length] at hrow4 hrow5
      generalize BP.heads s l = H at hrow4 hhlen helen HML
      generalize BP.ends s l = E at hrow5 helen HML
      have hsH := own_src hrow4 (by rw [List.length_map]; exact hhlen.symm)
      have hsE := own_src hrow5 (by rw [List.length_map]; omega)
      rename World => w5
      have HB := Lib.hid hb
      have HSH := Lib.hid hsH
      have HSE := Lib.hid hsE
      clear hrow4 hrow5 hsH hsE hb HD hr
      go_wp2_with fail
      go_loopw [6, 8] (fun v6 v8 wr => ∃ k : Nat, v8 = .int .i64 k ∧ k ≤ l.length ∧ wr.ownsRow w5.heap.size 3 1 v6 k ((M.take k).map (Value.int .i64)) ∧ Below w5.heap.size w5 wr) (fun _ v _ => l.length - (intOf v).toNat)
      case atStart => exact ⟨0, rfl, Nat.zero_le _, World.ownsRow_nil _ _ _ _, Below.refl _ _⟩
      case round =>
        obtain ⟨k, rfl, hk2, hrow, hb⟩ := hrel
        have hbs := hb.size
        by_cases h2 : k < l.length
        · have h2i : (k : Int) < (l.length : Int) := by omega
          have hM := Lib.hid (HML.out k (by omega))
          have HC := Lib.hid (rmay1_any _ _ H E k wr (HSH.out.keep hb).row (HSE.out.keep hb).row (by omega) helen (by omega))
          generalize M.take k = P at hrow hM
          generalize BP.may1 H E k = y at HC hM
          go_wp2_with (first | (go_at_call 28; refine HC.out.mono ?_; rintro e _ ⟨rfl, rfl⟩) | (at_builtin; refine wpList_append_own _ rfl _ _ 22 rfl w5.heap.size 3 i0 (.int .i64 0) 1 8 Tryd.underlying22 hi hz0 hz1 hz2 rfl (by decide) _ _ _ rfl (hrow.alloc _) ⟨wr.heap.size, 0, none⟩ 1 1 [.int .i64 y] rfl rfl (cell_one_new wr _ _) (by simp [Value.oneCell']) (by unfold maxLen; omega) (by omega) (by simp; omega) ?_; intro v' w6 hown hgrow _; obtain ⟨g6, cap6, rfl⟩ := ownsRow_succ hown))
          go_roundw
          case rel => exact ⟨k + 1, by go_num, h2, by rw [hM.out, List.map_append]; exact hown, span_app hrow hb hgrow⟩
          case measure => simp [intOf]; omega
        · obtain rfl : k = l.length := by omega
          rw [List.take_of_length_le (Nat.le_of_eq hmlen)] at hrow
          have hsrc := own_src hrow (by rw [List.length_map]; exact hmlen.symm)
          clear hrow
          go_wp2
          go_ret
          exact ⟨_, rfl, hsrc, bnext acc1 (bnext HB.out hb)⟩
end Go.Proofs.YtcocnmpnbolpmaaDoor
