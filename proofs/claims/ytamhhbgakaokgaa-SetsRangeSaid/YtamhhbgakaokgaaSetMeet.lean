/- abugida/sets.Meet$1 keeps: the contract of chosen. -/
import Derived.Test.YtamhhbgakaokgaaSetKeep
namespace Go.Proofs.Ytamhhbgakaokgaa
open Go.RowKit Go.Maps Go.Sort
set_option maxRecDepth 100000 in
set_option maxHeartbeats 4000000 in
theorem chosen_meet (K : Int → Int → Bool) (cap : Array Value) (v1 : Value) (vs : List Value) (R : List (List Int)) (w : World) (hv : RowAt w v1 vs) (hR : Rows2 w vs R) (hw : Wf R) (hl : R.length ≤ 2)
    (hkeep : ∀ (x n : Int) (wr : World), Below w.heap.size w wr → (Lit.int .i64 x).wf = true → Calls Try.prog 34 (#[.int .i64 x, .int .i64 n] ++ cap) wr fun e w' => e = .returned (.bool (K x n)) ∧ w' = wr) :
    Calls Try.prog 32 #[.func (.func 34) #[] cap, v1] w fun e w' => ∃ v', e = .returned v' ∧ w'.ownsRow w.heap.size 3 1 v' (SP.chosen K R).length (iv (SP.chosen K R)) ∧ Below w.heap.size w w' := by
  obtain ⟨i0, hi, hz0, hz1, hz2⟩ := info_parts info_int
  obtain ⟨a, c, rfl, _⟩ := hv.out
  have hvl : vs.length = R.length := hR.1
  rw [hvl] at hv ⊢
  have HV := Lib.hid hv
  have HR := Lib.hid hR
  have HW := Lib.hid hw
  have HK := Lib.hid hkeep
  have HS := Lib.hid (Outer.start w R)
  clear hv hR hw hkeep hvl
  have hmm := @run_makeMap Try.prog
  go_enter Try.func32, Try.ntmps32
  go_wp2
  clear hmm
  go_loopw [18] (fun i wr => Outer w R i wr) (fun i _ => R.length - (intOf i).toNat)
  case atStart => exact HS.out
  case round =>
    clear HS
    obtain ⟨k, n1, n2, f, hk, rfl, h1, h2, h3, h4, h5, hb⟩ := hrel.out
    clear hrel
    by_cases hkl : k < R.length
    · obtain ⟨g, o, rfl, hg, hc⟩ := (HV.out.keep hb).cell (k := k) (by rw [HR.out.1]; exact hkl)
      obtain ⟨ra, rc, hre, hrr⟩ := HR.out.2 k hkl (by rw [HR.out.1]; exact hkl)
      rw [hre] at hc hrr
      clear hre
      have hwk := Lib.hid (HW.out R[k] (List.getElem_mem hkl))
      have hgd : Hid (R.getD k [] = R[k]) := Lib.hid (by simp [List.getD, hkl])
      have HIN := Lib.hid (Outer.inner h1 h2 h3 h4 h5 hb)
      have HDN : Hid (∀ n1 n2 f wi, MapAt wi w.heap.size n1 (SP.cntTo R k R[k].length) → MapAt wi (w.heap.size + 1) n2 f → SP.Last R k R[k].length f → n1 ≤ k * 1000000 + R[k].length → n2 ≤ k * 1000000 + R[k].length → Below w.heap.size w wi → Outer w R (.int .i64 ((k : Int) + 1)) wi) := Lib.hid fun n1 n2 f wi a1 a2 a3 a4 a5 a6 => Inner.done a1 a2 a3 a4 a5 a6 hkl (HW.out R[k] (List.getElem_mem hkl)).1 (by rw [hgd.out])
      obtain ⟨l, hle⟩ : ∃ l, R[k] = l := ⟨_, rfl⟩
      rw [hle] at hc hrr hwk hgd HDN
      have HRR := Lib.hid hrr
      have hll := hwk.out.1
      clear h1 h2 h3 h4 h5 hrr hle
      have hki : (k : Int) < (R.length : Int) := by omega
      go_wp2
      go_loopw [25] (fun i wi => Inner w R k i wi) (fun i _ => l.length - (intOf i).toNat)
      case atStart => exact HIN.out
      case round =>
        clear HIN hb
        obtain ⟨j, n1, n2, f, hj, rfl, h1, h2, h3, h4, h5, hb⟩ := hrel.out
        clear hrel
        rw [hgd.out] at hj
        by_cases hjl : j < l.length
        · obtain ⟨g2, o2, rfl, hg2, hc2⟩ := (HRR.out.keep hb).cell (k := j) (by simpa using hjl)
          simp only [List.getElem_map] at hc2
          have hji : (j : Int) < (l.length : Int) := by omega
          have hwx : (Lit.int .i64 l[j]).wf = true := hwk.out.2 _ (List.getElem_mem hjl)
          have hgj : Hid (∀ h : j < (R.getD k []).length, (R.getD k [])[j] = l[j]) := Lib.hid (fun h => by simp only [hgd.out])
          have hjR : Hid (j < (R.getD k []).length) := Lib.hid (by rw [hgd.out]; exact hjl)
          obtain ⟨x, hx⟩ : ∃ x, l[j] = x := ⟨_, rfl⟩
          rw [hx] at hc2 hwx hgj
          clear hx
          by_cases hfx : f x = (k : Int) + 1
          · have HNX := Lib.hid (Inner.seen h1 h2 h3 h4 h5 hb hjR.out (by rw [hgj.out hjR.out]; exact hfx))
            have H2 := Lib.hid h2
            clear h1 h2 h3 h4 h5
            go_wp2_with (at_lookup; refine wpList_look rfl _ _ rfl (w.heap.size + 1) n2 f x rfl H2.out rfl hwx ?_)
            go_roundw
            case rel => exact HNX.out
            case measure => simp [intOf]; omega
          · have hb0 := SP.cntTo_bd R k j x
            have wfk : Hid ((Lit.int .i64 ((k : Int) + 1)).wf = true) := Lib.hid (WalkArith.wf_i64 (by omega))
            have H1 := Lib.hid h1
            have H2 := Lib.hid h2
            have HNEW : Hid (∀ w1 w2, wr.grownBy w1 (some (w.heap.size + 1)) → MapAt w1 (w.heap.size + 1) (n2 + 1) (upd f x ((k : Int) + 1)) → w1.grownBy w2 (some w.heap.size) → MapAt w2 w.heap.size (n1 + 1) (upd (SP.cntTo R k j) x (SP.cntTo R k j x + 1)) → Inner w R k (.int .i64 ((j : Int) + 1)) w2) := Lib.hid fun w1 w2 g1 m1 g2 m2 =>
              Inner.new h1 h3 h4 h5 hb hjR.out (by rw [hgj.out hjR.out]; exact hfx) g1 (by rw [hgj.out hjR.out]; exact m1) g2 (by rw [hgj.out hjR.out]; exact m2)
            obtain ⟨C, hC⟩ : ∃ C, SP.cntTo R k j = C := ⟨_, rfl⟩
            rw [hC] at H1 HNEW hb0
            have wfc : Hid ((Lit.int .i64 (C x + 1)).wf = true) := Lib.hid (WalkArith.wf_i64 (by omega))
            obtain ⟨cx, hcx⟩ : ∃ cx, C x = cx := ⟨_, rfl⟩
            clear h1 h2 h3 hC
            have HN1 : Hid (n1 < 1000000000) := Lib.hid (by omega)
            have HN2 : Hid (n2 < 1000000000) := Lib.hid (by omega)
            have HK1 : Hid ((k : Int) + 1 ≠ 0) := Lib.hid (by omega)
            have HC1 : Hid (cx + 1 ≠ 0) := Lib.hid (by omega)
            clear h4 h5
            obtain ⟨y, hy⟩ : ∃ y, f x = y := ⟨_, rfl⟩
            rw [hy] at hfx
            have hyk : (y != (k : Int) + 1) = true := by simpa using hfx
            have HY := Lib.hid hy
            clear hy hfx
            go_wp2_with (first
              | (at_lookup; refine wpList_look rfl _ _ rfl (w.heap.size + 1) n2 f x rfl H2.out rfl hwx ?_; rw [HY.out])
              | (at_mapUpdate; refine wpList_put rfl _ _ _ rfl (w.heap.size + 1) n2 f x ((k : Int) + 1) rfl H2.out HN2.out rfl hwx rfl wfk.out HK1.out ?_))
            intro w1 m1 g1
            have M1 := Lib.hid m1
            have G1 := Lib.hid g1
            have K1 := Lib.hid (H1.out.kept g1 (by simp))
            rw [hcx] at wfc hb0
            clear m1 g1
            go_wp2_with (first
              | (at_lookup; refine wpList_look rfl _ _ rfl w.heap.size n1 C x rfl K1.out rfl hwx ?_; rw [hcx])
              | (at_mapUpdate; refine wpList_put rfl _ _ _ rfl w.heap.size n1 C x (cx + 1) rfl K1.out HN1.out rfl hwx rfl wfc.out HC1.out ?_))
            intro w2 m2 g2
            have HNX := Lib.hid (HNEW.out w1 w2 G1.out M1.out g2 (by rw [hcx]; exact m2))
            clear m2 g2 HNEW
            go_wp2
            go_roundw
            case rel => exact HNX.out
            case measure => simp [intOf]; omega
        · obtain rfl : j = l.length := by omega
          have HNX := Lib.hid (HDN.out n1 n2 f _ h1 h2 h3 h4 h5 hb)
          clear h1 h2 h3 h4 h5
          go_wp2
          go_roundw
          case rel => exact HNX.out
          case measure => simp [intOf]; omega
    · obtain rfl : k = R.length := by omega
      rw [List.take_of_length_le (Nat.le_refl _)] at h1
      obtain ⟨D, d1, d2, d3, d4⟩ := h1.out
      have hn1 : n1 ≤ 2000000 := by omega
      clear h1 h2 h3 h4 h5
      obtain ⟨wo, hwo⟩ : ∃ wo : World, wo = wr := ⟨_, rfl⟩
      subst hwo
      go_wp2_with (at_range; refine wpList_range_own _ rfl _ 45 rfl 3 3 law_int Try.underlying45 _ w.heap.size n1 D rfl d1 ?_)
      intro w0 hrg0 hg0 hs0
      have HC0 : Hid (Collected wo n1 w.heap.size D (SP.cnt R) K w (.slice none 0 0) w0) := Lib.hid ⟨_, _, [], hrg0, World.ownsRow_nil _ _ _ _, ⟨List.nodup_nil, fun x => by rw [d4]; by_cases h : SP.cnt R x = 0 <;> simp [h]⟩, by simpa using d1.size_le, by omega, hb.grown hg0 hb.size (fun j hj => by cases hj)⟩
      have HB0 := Lib.hid d1.lt
      have HD3 := Lib.hid d3
      have HD4 := Lib.hid d4
      clear d3 d4
      have HBS := Lib.hid hb.size
      clear hs0 hg0 hrg0 d1 d2
      go_wp2
      go_loopw [11] (fun v wi => Collected wo n1 w.heap.size D (SP.cnt R) K w v wi) (fun _ wi => wi.rangeLeft w.heap.size wo.heap.size)
      case atStart => exact HC0.out
      case round =>
        clear HC0 hb
        obtain ⟨left, cc, L, hrg, hrow, hcl, hln, hlt0, hb⟩ := hrel.out
        clear hrel
        have HROW := Lib.hid hrow
        obtain ⟨va, vc, rfl⟩ := own_shape hrow
        clear hrow
        go_wp2_with (at_next; refine wpList_next_ranges_ii _ rfl _ rfl 3 3 .i64 .i64 law_int Try.underlying3 Try.underlying3 w.heap.size wo.heap.size n1 _ _ _ rfl hrg ?_ ?_)
        · intro _ hl0
          have HE := Lib.hid (SP.Coll.done hcl hl0)
          clear hcl hl0 hrg
          have HB : Hid (Below w.heap.size w wr) := Lib.hid hb
          by_cases hL0 : L = []
          · subst hL0
            have hn0 : va = none ∧ vc = 0 ∨ True := .inr trivial
            have HS2 := Lib.hid (Try.slices_Sort_int_none va vc wr)
            have hem : SP.chosen K R = [] := by rw [← HE.out]; simp
            clear HE
            go_wp2_with (go_at_call 37; refine HS2.out.mono ?_; rintro e w' ⟨rfl, rfl⟩)
            go_ret
            rw [hem]
            exact ⟨_, rfl, own_base HROW.out HBS.out, HB.out⟩
          · rcases HROW.out.2 with ⟨hnil, hz⟩ | ⟨g, cap', cur, hve, hbase, hbg, h1, h2, h3, h4⟩
            · exact absurd (List.eq_nil_of_length_eq_zero hz) hL0
            injection hve with hv1 hv2 hv3
            subst hv1 hv3
            have hH : Holds (Value.int .i64) wr g 0 L.toArray := holds_of_blockI hbg (by simpa using h4)
            have hgl : g < wr.heap.size := (Array.getElem?_eq_some_iff.1 hbg).1
            have HS2 := Lib.hid (Try.slices_Sort_int g 0 vc L wr hH hgl (by omega))
            have HOUT : Hid (∀ nn os, Go.World.ownsRow (grow (putRow (Value.int .i64) (Sort.ahead wr nn) g 0 (L.mergeSort fun x y => decide (x ≤ y)).toArray) os) w.heap.size 3 1 (.slice (some ⟨g, 0, none⟩) L.length vc) (SP.chosen K R).length (iv (SP.chosen K R)) ∧ Below w.heap.size w (grow (putRow (Value.int .i64) (Sort.ahead wr nn) g 0 (L.mergeSort fun x y => decide (x ≤ y)).toArray) os)) := Lib.hid fun nn os => by
              have r := ownsRow_sortedI (w := wr) (n := nn) (os := os) (base := wo.heap.size) (ts := L.mergeSort fun x y => decide (x ≤ y)) (by simp) hbase hbg h1 h2 h3
              refine ⟨?_, HB.out.grown (grownBy_sortedI _) HB.out.size (fun j hj => by cases hj; exact Nat.le_trans HBS.out hbase)⟩
              rw [HE.out] at r
              have := own_iv (own_base r HBS.out) (SP.chosen K R) rfl
              rw [HE.out]
              exact this
            clear HE hH hbg h1 h2 h3 h4 hbase hgl HROW
            go_wp2_with (go_at_call 37; refine HS2.out.mono ?_; rintro e w' ⟨rfl, nn, os, rfl⟩)
            go_ret
            exact ⟨_, rfl, (HOUT.out nn os).1, (HOUT.out nn os).2⟩
        · intro x c w1 cnt1 hwx hwc hlx hat hrg1 hlt hg1 hs1 hen
          obtain rfl : SP.cnt R x = c := lit_inj ((HD3.out x).symm.trans (hat _))
          have hne : SP.cnt R x ≠ 0 := by have := HD4.out x; rw [has_true_of_atKey hat] at this; simpa using this.symm
          have hb1 : Below w.heap.size w w1 := hb.grown hg1 hb.size (fun j hj => by cases hj; exact HBS.out)
          have hrow2 := HROW.out.kept hg1 (Or.inr (row_ne_iter HROW.out hrg).symm)
          have HC := Lib.hid (HK.out x (SP.cnt R x) w1 hb1 hwx)
          have HMEAS : Hid (∀ w2 : World, (∃ left c, w2.ranges Try.prog 3 (plainElem Try.prog 3) w.heap.size wo.heap.size n1 D left c ∧ c = cnt1) → w2.rangeLeft w.heap.size wo.heap.size < wr.rangeLeft w.heap.size wo.heap.size) := Lib.hid fun w2 ⟨left2, c2, h, hc⟩ => by rw [h.left_eq, hrg.left_eq, hc]; exact hlt
          have hsz1 : wo.heap.size < w1.heap.size := by rw [hs1]; exact hlt0
          have hwo1 := HBS.out
          have hcc : cc ≤ n1 := by omega
          have HLT := Lib.hid hlt
          clear hs1 hlt hlt0 hg1 hb hrg
          cases hK : K x (SP.cnt R x) with
          | true =>
            have HY := Lib.hid (SP.Coll.yes hcl hlx hne hK)
            have HRG := Lib.hid hrg1
            have HRW := Lib.hid hrow2
            rw [hK] at HC
            clear hcl hlx hat hne hK hrg1 hrow2
            generalize SP.cnt R x = cx at *
            go_wp2_with (first
              | (go_at_call 34; refine HC.out.mono ?_; rintro e w9 ⟨rfl, rfl⟩)
              | (at_builtin; refine wpList_app _ rfl _ _ 22 rfl wo.heap.size 3 i0 (.int .i64 0) 8 Try.underlying22 hi hz0 hz1 hz2 rfl _ _ _ rfl (HRW.out.alloc _) _ [.int .i64 x] rfl (Src.one (World.cell?_alloc_at _ _ _ _ rfl)) (by simp [Value.oneCell']) ?ca ?cb ?cc ?_))
            try case ca => unfold maxLen; first | omega | (simp <;> omega)
            try case cb => first | omega | (simp <;> omega)
            try case cc => first | omega | (simp <;> omega)
            intro v' w3 hown' hg3 _
            have hrg3 := (HRG.out.alloc _).kept hg3 (row_ne_low HRW.out HB0.out) (row_ne_iter HRW.out HRG.out)
            have hB3 : Below w.heap.size w w3 := (balloc hb1 _).grown hg3 (by simp; omega) (fun j hj => by have := (HRW.out.lt j hj).1; omega)
            have hs3 : wo.heap.size < w3.heap.size := by have := hg3.size; simp at this; omega
            replace hown' := own_iv hown' (L ++ [x]) (by simp)
            obtain ⟨a4, c4, rfl⟩ := own_shape hown'
            have HN : Hid (Collected wo n1 w.heap.size D (SP.cnt R) K w (.slice a4 (L ++ [x]).length c4) w3) := Lib.hid ⟨_, cnt1, L ++ [x], hrg3, hown', HY.out, by have := HLT.out; simp; omega, hs3, hB3⟩
            have HM := Lib.hid (HMEAS.out w3 ⟨_, _, hrg3, rfl⟩)
            clear hrg3 hown' hg3 HRG HRW HMEAS hs3
            go_wp2
            go_roundw
            case rel => exact HN.out
            case measure => exact HM.out
          | false =>
            have HN : Hid (Collected wo n1 w.heap.size D (SP.cnt R) K w (.slice va L.length vc) w1) := Lib.hid ⟨_, cnt1, L, hrg1, hrow2, SP.Coll.no hcl hlx hK, by have := HLT.out; omega, hsz1, hb1⟩
            have HM := Lib.hid (HMEAS.out w1 ⟨_, _, hrg1, rfl⟩)
            rw [hK] at HC
            clear hcl hlx hat hne hK hrg1 hrow2 HMEAS
            generalize SP.cnt R x = cx at *
            go_wp2_with (go_at_call 34; refine HC.out.mono ?_; rintro e w9 ⟨rfl, rfl⟩)
            go_roundw
            case rel => exact HN.out
            case measure => exact HM.out
end Go.Proofs.Ytamhhbgakaokgaa
