/- The runs of the reference. No conditions. -/
import Derived.Test.YtbgmbcngkmlfeaaDoorOrd16
import Derived.Test.YtbgmbcngkmlfeaaDoorOrd11
namespace Go.Proofs.YtbgmbcngkmlfeaaDoor.OP
theorem rnc_len : ∀ (l : List Rn), (rnc l).length = l.length * 3
  | [] => rfl
  | r :: l => by
    have := rnc_len l
    unfold rnc at this ⊢
    rw [List.flatMap_cons, List.length_append, this, List.length_cons]
    simp [rnv]
    omega
theorem rnc_last (o : List Rn) (f e : Nat) (z : Int) : (rnc (o ++ [(f, e, z)]))[o.length * 3 + 1]? = some (.int .i64 (e : Int)) := by
  rw [rnc_app, rnc_one, List.getElem?_append_right (by rw [rnc_len]; omega), rnc_len]
  simp [rnv]
theorem rnc_set (o : List Rn) (f e u : Nat) (z : Int) : (rnc (o ++ [(f, e, z)])).set (o.length * 3 + 1) (.int .i64 (u : Int)) = rnc (o ++ [(f, u, z)]) := by
  rw [rnc_app, rnc_app, rnc_one, rnc_one, List.set_append_right _ _ (by rw [rnc_len]; omega), rnc_len]
  simp [rnv]
end Go.Proofs.YtbgmbcngkmlfeaaDoor.OP
namespace Go.Proofs.YtbgmbcngkmlfeaaDoor
set_option maxRecDepth 100000
set_option linter.unusedVariables false
open Go.RowKit Go.Shelf Go.Deep
set_option maxHeartbeats 8000000 in
theorem rruns7_any (s : ByteArray) (w : World) (hs : s.size ≤ 1000000000) :
    Calls Tryd.prog 18 #[.string s] w fun e W' => ∃ v', e = .returned v' ∧ W'.ownsRow w.heap.size 44 3 v' (OP.runs (OP.levels s)).length (OP.rnc (OP.runs (OP.levels s))) ∧ Below w.heap.size w W' := by
  obtain ⟨i0, hi0, hz0, hz1, hz2⟩ := info_parts info_run
  have HLV := Lib.hid (rlevels7_any s w hs)
  have HLN := Lib.hid (OP.levels_len s)
  obtain ⟨L, hL⟩ : ∃ L, OP.levels s = L := ⟨_, rfl⟩
  rw [hL] at HLV HLN ⊢
  obtain ⟨n, hn⟩ : ∃ n, s.size = n := ⟨_, rfl⟩
  rw [hn] at HLV HLN hs
  clear hL hn
  go_enter Tryd.func18, Tryd.ntmps18
  go_wp2_with fail
  refine HLV.out.mono ?_
  rintro e w1 ⟨vl, rfl, hol, hb1⟩
  obtain ⟨la, lc, rfl⟩ := own_shape hol
  have HOL := Lib.hid hol
  have HB1 := Lib.hid hb1
  clear hol hb1 HLV
  go_wp2_with fail
  go_loopw [3, 5] (fun v3 v5 wr => ∃ i : Nat, v5 = .int .i64 (i : Int) ∧ i ≤ n ∧ wr.ownsRow w1.heap.size 44 3 v3 (OP.runs (L.take i)).length (OP.rnc (OP.runs (L.take i))) ∧ Below w1.heap.size w1 wr) (fun _ v _ => n - (intOf v).toNat)
  case atStart => exact ⟨0, rfl, Nat.zero_le _, World.ownsRow_nil _ _ _ _, Below.refl _ _⟩
  case round =>
    obtain ⟨i, rfl, hi, hrow, hbw⟩ := hrel
    by_cases hin : i < n
    · have hii : (i : Int) < (n : Int) := by omega
      have hi00 : (0 : Int) ≤ (i : Int) := by omega
      have hlr := own_below HOL.out hbw
      obtain ⟨lg, lcap, e, -, -, -⟩ := own_at hlr (by omega)
      injection e with e _ e2
      subst e e2
      obtain ⟨y, hy⟩ : ∃ y, L[i]? = some y := ⟨L[i]'(by rw [HLN.out]; exact hin), List.getElem?_eq_getElem _⟩
      have c1 := own_at? hlr hin hy
      have ht : L.take (i + 1) = L.take i ++ [y] := by rw [List.take_add_one, hy]; rfl
      have htl : (L.take i).length = i := by rw [List.length_take, HLN.out]; omega
      have hrs := OP.runs_snoc (L.take i) y
      rw [← ht, htl] at hrs
      have hrn := OP.runs_len (L.take i)
      rw [htl] at hrn
      have hwsz := hbw.size
      by_cases h0 : 0 < i
      · have h0i : (0 : Int) < (i : Int) := by omega
        have hdec : decide ((0 : Int) < (i : Int)) = true := decide_eq_true h0i
        have hwr1 : IntKind.i64.wrap ((i : Int) - 1) = (i : Int) - 1 := by rw [IntKind.wrap_i64]; omega
        obtain ⟨i1, hi1⟩ : ∃ i1 : Nat, (i : Int) - 1 = (i1 : Int) := ⟨i - 1, by omega⟩
        have hi1n : (i1 : Int) < (n : Int) := by omega
        have hi10 : (0 : Int) ≤ (i1 : Int) := by omega
        obtain ⟨z, hz⟩ : ∃ z, L[i1]? = some z := ⟨L[i1]'(by rw [HLN.out]; omega), List.getElem?_eq_getElem _⟩
        have c2 := own_at? hlr (by omega) hz
        have hlast : (L.take i).getLast? = some z := by
          rw [List.getLast?_eq_getElem?, htl, List.getElem?_take_of_lt (by omega), show i - 1 = i1 by omega, hz]
        obtain ⟨f, hf⟩ := OP.runs_last hlast
        rw [htl] at hf
        by_cases hzy : z = y
        · have hzyb : (z == y) = true := by simp [hzy]
          obtain ⟨o, ho⟩ : ∃ o, OP.runs (L.take i) = o ++ [(f, i, z)] := by
            rcases List.eq_nil_or_concat (OP.runs (L.take i)) with h | ⟨o, r, h⟩
            · rw [h] at hf; simp at hf
            · rw [List.concat_eq_append] at h
              rw [h] at hf
              simp at hf
              exact ⟨o, by rw [h, hf]⟩
          rw [ho, hzy, OP.rst_same] at hrs
          rw [ho, hzy] at hrow
          rw [ho] at hrn
          obtain ⟨q, hq⟩ : ∃ q, o.length = q := ⟨_, rfl⟩
          have hlen : (o ++ [(f, i, y)]).length = q + 1 := by rw [List.length_append, hq]; rfl
          have hlen1 : (o ++ [(f, i + 1, y)]).length = q + 1 := by rw [List.length_append, hq]; rfl
          have hla := OP.rnc_last o f i y
          have hse := OP.rnc_set o f i (i + 1) y
          rw [hq] at hla hse
          rw [hlen] at hrow
          have hqn : q + 1 ≤ n := by simp [hq] at hrn; omega
          obtain ⟨g, cap, rfl⟩ := ownsRow_succ hrow
          have c3 := hrow.cellAt (q * 3 + 1) (by omega)
          rw [hla] at c3
          have f3 := hrow.frozenAt (q * 3 + 1)
          have hbg := (hrow.lt g rfl).1
          have HROW := Lib.hid hrow
          have HSE := Lib.hid hse
          have HBW := Lib.hid hbw
          have HRS := Lib.hid hrs
          have HL1 := Lib.hid hlen1
          have hq0 : (0 : Int) ≤ (q : Int) := by omega
          have hqq : (q : Int) < ((q + 1 : Nat) : Int) := by omega
          clear hla hse hrs hrow hbw hlr hy hz ht htl hrn hlast hf hzy ho hq hlen hlen1
          go_upto_region 6 with fail
          go_quiet (fail)
          go_wp2_with fail
          have hbd : Below w1.heap.size w1 (wr.drewN nq) := below_drewN HBW.out nq
          have hrow2 := own_below HROW.out (below_drewN (Below.refl _ wr) nq)
          obtain ⟨hst, hgr⟩ := hrow2.stored (q * 3 + 1) (.int .i64 ((i + 1 : Nat) : Int))
          rw [HSE.out] at hst
          have hb2 := hbd.setCell (p := ⟨g, q * 3 + 1, none⟩) hbg (.int .i64 ((i + 1 : Nat) : Int))
          have HS := Lib.hid hst
          have HB2 := Lib.hid hb2
          clear hst hgr hrow2 hb2 hbd
          go_roundw
          case rel => exact ⟨i + 1, by go_num, hin, by rw [HRS.out, HL1.out]; exact HS.out, HB2.out⟩
          case measure => simp [intOf]; omega
        · have hzyb : (z == y) = false := by simp [hzy]
          rw [OP.rst_new (fun r hr => by rw [hf] at hr; cases hr; exact hzy)] at hrs
          obtain ⟨R, hR⟩ : ∃ R, OP.runs (L.take i) = R := ⟨_, rfl⟩
          rw [hR] at hrs hrow hrn
          obtain ⟨va, vc, rfl⟩ := own_shape hrow
          have HRS := Lib.hid hrs
          have HROW := Lib.hid hrow
          have HBW := Lib.hid hbw
          clear hrs hrow hbw hlr hy hz ht htl hlast hf hzy hR
          go_upto_region 6 with fail
          go_quiet (fail)
          have hbd : Below w1.heap.size w1 (wr.drewN nq) := below_drewN HBW.out nq
          have hrow2 := own_below HROW.out (below_drewN (Below.refl _ wr) nq)
          go_wp2_with (at_builtin; refine wpList_append_own_at _ rfl _ _ 29 rfl w1.heap.size 44 i0 (.agg #[.int .i64 0, .int .i64 0, .int .i64 0]) 3 24 Tryd.underlying29 hi0 hz0 hz1 hz2 rfl (by decide) _ _ _ rfl (hrow2.alloc _) ⟨(wr.drewN nq).heap.size, 0, none⟩ 1 1 [.int .i64 (i : Int), .int .i64 ((i : Int) + 1), .int .i64 y] rfl rfl (three_src (World.alloc_heap_new _ _)) (by simp [Value.oneCell']) (by unfold maxLen; omega) (by omega) (by have := hbd.size; simp at this ⊢; omega) ?_; intro v' w6 hown hgrow _ _; obtain ⟨g5, cap5, rfl⟩ := ownsRow_succ hown)
          have hfin := span_app hrow2 hbd hgrow
          have he : [.int .i64 (i : Int), .int .i64 ((i : Int) + 1), .int .i64 y] = OP.rnv (i, i + 1, y) := by simp [OP.rnv]
          rw [he] at hown
          have HO := Lib.hid hown
          have HB2 := Lib.hid hfin
          clear hown hfin hgrow hrow2 hbd he
          go_roundw
          case rel => exact ⟨i + 1, by go_num, hin, by rw [HRS.out, List.length_append, OP.rnc_app, OP.rnc_one]; exact HO.out, HB2.out⟩
          case measure => simp [intOf]; omega
      · have h0i : ¬ (0 : Int) < (i : Int) := by omega
        have hdec : decide ((0 : Int) < (i : Int)) = false := decide_eq_false h0i
        have hiz : i = 0 := by omega
        rw [OP.rst_new (fun r hr => by rw [hiz] at hr; simp [OP.runs_nil] at hr)] at hrs
        clear hiz
        obtain ⟨R, hR⟩ : ∃ R, OP.runs (L.take i) = R := ⟨_, rfl⟩
        rw [hR] at hrs hrow hrn
        obtain ⟨va, vc, rfl⟩ := own_shape hrow
        have HRS := Lib.hid hrs
        have HROW := Lib.hid hrow
        have HBW := Lib.hid hbw
        clear hrs hrow hbw hlr hy ht htl hR
        go_upto_region 6 with fail
        go_quiet (fail)
        have hbd : Below w1.heap.size w1 (wr.drewN nq) := below_drewN HBW.out nq
        have hrow2 := own_below HROW.out (below_drewN (Below.refl _ wr) nq)
        go_wp2_with (at_builtin; refine wpList_append_own_at _ rfl _ _ 29 rfl w1.heap.size 44 i0 (.agg #[.int .i64 0, .int .i64 0, .int .i64 0]) 3 24 Tryd.underlying29 hi0 hz0 hz1 hz2 rfl (by decide) _ _ _ rfl (hrow2.alloc _) ⟨(wr.drewN nq).heap.size, 0, none⟩ 1 1 [.int .i64 (i : Int), .int .i64 ((i : Int) + 1), .int .i64 y] rfl rfl (three_src (World.alloc_heap_new _ _)) (by simp [Value.oneCell']) (by unfold maxLen; omega) (by omega) (by have := hbd.size; simp at this ⊢; omega) ?_; intro v' w6 hown hgrow _ _; obtain ⟨g5, cap5, rfl⟩ := ownsRow_succ hown)
        have hfin := span_app hrow2 hbd hgrow
        have he : [.int .i64 (i : Int), .int .i64 ((i : Int) + 1), .int .i64 y] = OP.rnv (i, i + 1, y) := by simp [OP.rnv]
        rw [he] at hown
        have HO := Lib.hid hown
        have HB2 := Lib.hid hfin
        clear hown hfin hgrow hrow2 hbd he
        go_roundw
        case rel => exact ⟨i + 1, by go_num, hin, by rw [HRS.out, List.length_append, OP.rnc_app, OP.rnc_one]; exact HO.out, HB2.out⟩
        case measure => simp [intOf]; omega
    · obtain rfl : n = i := by omega
      rw [List.take_of_length_le (Nat.le_of_eq HLN.out)] at hrow
      obtain ⟨va, vc, rfl⟩ := own_shape hrow
      have HROW := Lib.hid hrow
      clear hrow
      go_wp2
      go_ret
      exact ⟨_, rfl, own_base HROW.out HB1.out.size, bnext HB1.out hbw⟩
end Go.Proofs.YtbgmbcngkmlfeaaDoor
