/- The reference's First and Made. No conditions. -/
import Derived.Test.YtmiennkldkcnfaaDoorPn21
namespace Go.Proofs.YtmiennkldkcnfaaDoor
set_option maxRecDepth 100000
set_option linter.unusedVariables false
open Go.ChangeShapes Go.WideShapes Go.ChangeAt Go.RowKit Go.Joins Go.Deep
/-- The first pixels of rows. -/
def fst' (R : List Nat) (w : Nat) : List Nat := R.map fun r => PN.cutb r 0 w
theorem fst_len (R : List Nat) (w : Nat) : (fst' R w).length = R.length := by simp [fst']
theorem fst_lt {R : List Nat} {w : Nat} : ∀ x ∈ fst' R w, x < 2 ^ w := fun x hx => by
  obtain ⟨r, -, rfl⟩ := List.mem_map.1 hx
  exact PN.cut_lt _ _ _
theorem fst_take {R : List Nat} {w k r : Nat} (h : R[k]? = some r) : ((fst' R w).take (k + 1)).map U6 = ((fst' R w).take k).map U6 ++ [U6 (PN.cutb r 0 w)] := by
  have h1 : (fst' R w)[k]? = some (PN.cutb r 0 w) := by simp [fst', h]
  rw [List.take_add_one, h1, List.map_append]
  rfl
set_option maxHeartbeats 4000000 in
theorem first_any (W : World) (R : List Nat) (v : Value) (pw : Nat) (hp : pw ≤ 64) (hv : UA W v R) (hl : R.length ≤ 1000000) (hr : ∀ x ∈ R, x < 18446744073709551616) :
    Calls Tryd.prog 55 #[v, .int .i64 (pw : Int)] W fun e w' => ∃ v', e = .returned v' ∧ w'.ownsRow W.heap.size 63 1 v' R.length ((fst' R pw).map U6) ∧ Below W.heap.size W w' := by
  obtain ⟨i0, hi0, hz0, hz1, hz2⟩ := info_parts info_u64
  obtain ⟨va, vc, rfl⟩ := hv.shape
  obtain ⟨N, hN⟩ : ∃ N, R.length = N := ⟨_, rfl⟩
  rw [hN] at hv hl ⊢
  have HN := Lib.hid hN
  have HR := Lib.hid hr
  have HV : Hid (∀ U, Below W.heap.size W U → UA U (.slice va N vc) R) := Lib.hid fun U hU => hv.keep hU
  clear hv hN hr
  go_enter Tryd.func55, Tryd.ntmps55
  go_upto_region 3 with fail
  go_loopw [5, 6] (fun v5 v6 wr => ∃ k : Nat, v6 = .int .i64 (k : Int) ∧ k ≤ N ∧ Hid (wr.ownsRow W.heap.size 63 1 v5 k (((fst' R pw).take k).map U6)) ∧ Hid (Below W.heap.size W wr)) (fun _ v _ => N - (intOf v).toNat)
  case atStart => exact ⟨0, rfl, by omega, Lib.hid (World.ownsRow_nil _ _ _ _), Lib.hid (Below.refl _ W)⟩
  case round =>
    obtain ⟨k, rfl, hk, HOW, HBW⟩ := hrel
    obtain ⟨wo, hwo⟩ : ∃ wo, wo = wr := ⟨_, rfl⟩
    subst hwo
    obtain ⟨oa, oc, rfl⟩ := own_shape HOW.out
    by_cases hkc : k < N
    · have hkz : (k : Int) < (N : Int) := by omega
      have hk0 : (0 : Int) ≤ (k : Int) := by omega
      obtain ⟨r, hr⟩ : ∃ r, R[k]? = some r := ⟨_, List.getElem?_eq_getElem (by rw [HN.out]; omega)⟩
      have hrl := HR.out r (List.mem_of_getElem? hr)
      have HRL := Lib.hid hrl
      obtain ⟨g, o, hva, -, hcr⟩ := (HV.out _ HBW.out).cell hr
      subst hva
      have HSU := Lib.hid (fst_take (w := pw) hr)
      clear hr hrl hkc
      go_upto_region 7 with fail
      go_loopw [7, 8] (fun v7 v8 wr => ∃ i : Nat, v8 = .int .i64 (i : Int) ∧ v7 = U6 (PN.cutb r 0 i) ∧ i ≤ pw ∧ wr = wo) (fun _ v _ => pw - (intOf v).toNat)
      case atStart => exact ⟨0, rfl, by rw [PN.cut_none]; rfl, by omega, by trivial⟩
      case round =>
        obtain ⟨i, rfl, rfl, hi, he⟩ := hrel
        have he' := he.symm
        subst he'
        by_cases hip : i < pw
        · have hii : (i : Int) < (pw : Int) := by omega
          have hc64 : PN.cutb r 0 i < 18446744073709551616 := Nat.lt_of_lt_of_le (PN.cut_lt r 0 i) (Nat.pow_le_pow_right (n := 2) (by decide) (by omega : i ≤ 64))
          have HBI := Lib.hid (bit_any wo r i HRL.out (by omega))
          have HWI := Lib.hid (with_any wo (PN.cutb r 0 i) i (r.testBit i) hc64 (by omega))
          have hst := PN.cut_step r 0 i (by omega)
          rw [Nat.zero_add] at hst
          rw [hst] at HWI
          obtain ⟨B, hB⟩ : ∃ B, r.testBit i = B := ⟨_, rfl⟩
          rw [hB] at HBI HWI
          obtain ⟨cur, hcur⟩ : ∃ cur, PN.cutb r 0 i = cur := ⟨_, rfl⟩
          rw [hcur] at HWI
          rw [hcur]
          obtain ⟨nxt, hnxt⟩ : ∃ nxt, PN.cutb r 0 (i + 1) = nxt := ⟨_, rfl⟩
          rw [hnxt] at HWI
          have HNX := Lib.hid hnxt
          clear hst hB hcur hnxt hip hc64
          go_upto_region 9 with fail
          go_wp2_with fail
          go_at_call 50
          refine HBI.out.mono ?_
          rintro e wx ⟨rfl, he⟩
          have he' := he.symm
          subst he'
          go_wp2_with fail
          go_at_call 49
          refine HWI.out.mono ?_
          rintro e wx ⟨rfl, he⟩
          have he' := he.symm
          subst he'
          go_wp2
          go_roundw
          case rel => exact ⟨i + 1, by go_num, by rw [HNX.out], by omega, by trivial⟩
          case measure => simp [intOf]; omega
        · have hii : ¬ (i : Int) < (pw : Int) := by omega
          obtain rfl : i = pw := by omega
          clear hip
          obtain ⟨q, hq⟩ : ∃ q, PN.cutb r 0 i = q := ⟨_, rfl⟩
          rw [hq] at HSU
          rw [hq]
          clear hq
          go_wp2_with (at_builtin; refine wpList_appN _ rfl _ _ 32 rfl W.heap.size 63 i0 _ 1 8 Tryd.underlying32 hi0 hz0 hz1 hz2 rfl (by decide) (.slice oa k oc) k _ (by rfl) (own_below HOW.out (balloc (Below.refl _ _) _)) _ 1 [U6 q] (by rfl) (srcN_new _ [U6 q] 63 1 1 1 rfl) (u64_cells [q]) (by unfold maxLen; omega) (by omega) (by have := HBW.out.size; simp; omega) ?_; intro v' w9 hown9 hgrow hat; obtain ⟨va9, vc9, rfl⟩ := own_shape hown9)
          have hb9 := (balloc HBW.out (.cells #[U6 q] 63)).grown hgrow (by have := HBW.out.size; simp; omega) (fun b e => (HOW.out.lt b e).1)
          have HB9 := Lib.hid hb9
          have HO9 : Hid (w9.ownsRow W.heap.size 63 1 (.slice va9 (k + 1) vc9) (k + 1) (((fst' R i).take (k + 1)).map U6)) := Lib.hid (by rw [HSU.out]; exact hown9)
          clear hown9 hgrow hat hb9
          go_wp2
          go_roundw
          case rel => exact ⟨k + 1, by go_num, by omega, HO9, HB9⟩
          case measure => simp [intOf]; omega
    · have hkz : ¬ (k : Int) < (N : Int) := by omega
      obtain rfl : k = N := by omega
      clear hkc
      go_wp2
      go_ret
      have ho := HOW.out
      rw [List.take_of_length_le (by rw [fst_len, HN.out]; exact Nat.le_refl _)] at ho
      exact ⟨_, rfl, ho, HBW.out⟩
/-- The rows that numbers make. -/
def mkRow (L : List Nat) (w h : Nat) : List Nat := fst' ((List.range h).map fun k => L.getD k 0) w
theorem mkRow_len (L : List Nat) (w h : Nat) : (mkRow L w h).length = h := by simp [mkRow, fst_len]
theorem mkRow_lt {L : List Nat} {w h : Nat} : ∀ x ∈ mkRow L w h, x < 2 ^ w := fst_lt
theorem mk_set (L : List Nat) (h k : Nat) (hk : k < L.length) : ((List.range h).map fun j => if j < k then L.getD j 0 else 0).set k (L.getD k 0) = (List.range h).map fun j => if j < k + 1 then L.getD j 0 else 0 := by
  refine List.ext_getElem? fun j => ?_
  rw [List.getElem?_set]
  simp only [List.getElem?_map, List.length_map, List.length_range]
  by_cases e : k = j
  · subst e
    rw [if_pos rfl]
    by_cases h1 : k < h
    · rw [if_pos h1, List.getElem?_range h1]
      simp
    · rw [if_neg h1, List.getElem?_eq_none (by simp; omega)]
      rfl
  · rw [if_neg e]
    by_cases h1 : j < h
    · rw [List.getElem?_range h1]
      simp only [Option.map_some]
      by_cases h2 : j < k
      · rw [if_pos h2, if_pos (by omega)]
      · rw [if_neg h2, if_neg (by omega)]
    · rw [List.getElem?_eq_none (by simp; omega)]
      rfl
theorem ownsRow_base {w : World} {B B' e k n : Nat} {v : Value} {xs : List Value} (h : w.ownsRow B e k v n xs) (hb : B' ≤ B) : w.ownsRow B' e k v n xs := by
  refine ⟨h.1, ?_⟩
  rcases h.2 with h1 | ⟨g, cap, cur, h1, h2, h3⟩
  · exact .inl h1
  · exact .inr ⟨g, cap, cur, h1, Nat.le_trans hb h2, h3⟩
theorem mk_full {L : List Nat} {h k : Nat} (hk : h ≤ k ∨ L.length ≤ k) : ((List.range h).map fun j => if j < k then L.getD j 0 else 0) = (List.range h).map fun j => L.getD j 0 := by
  refine List.map_congr_left fun j hj => ?_
  have hj' := List.mem_range.1 hj
  by_cases h1 : j < k
  · rw [if_pos h1]
  · rw [if_neg h1, List.getD_eq_getElem?_getD, List.getElem?_eq_none (by omega)]
    rfl
set_option maxHeartbeats 4000000 in
theorem made_any (W : World) (R : List Nat) (v : Value) (pw h : Nat) (hp : pw ≤ 64) (hh : h ≤ 1000) (hv : UA W v R) (hl : R.length ≤ maxLen) (hr : ∀ x ∈ R, x < 18446744073709551616) :
    Calls Tryd.prog 34 #[v, .int .i64 (pw : Int), .int .i64 (h : Int)] W fun e w' => ∃ v', e = .returned v' ∧ w'.ownsRow W.heap.size 63 1 v' h ((mkRow R pw h).map U6) ∧ Below W.heap.size W w' := by
  obtain ⟨va, vc, rfl⟩ := hv.shape
  obtain ⟨N, hN⟩ : ∃ N, R.length = N := ⟨_, rfl⟩
  have hmk := make_u64 W h (by omega)
  have hown0 : (W.alloc (.cells ((List.replicate h (0 : Nat)).map U6).toArray 63)).ownsRow W.heap.size 63 1 (.slice (some ⟨W.heap.size, 0, none⟩) h h) h ((List.replicate h (0 : Nat)).map U6) := own_blk (heap_alloc_new W _) (Nat.le_refl _) (by simp) (by omega)
  have hbn := balloc (Below.refl _ W) (.cells ((List.replicate h (0 : Nat)).map U6).toArray 63)
  have e0 : List.replicate h (0 : Nat) = (List.range h).map fun j => if j < 0 then R.getD j 0 else 0 := by
    refine List.ext_getElem? fun j => ?_
    rw [List.getElem?_replicate, List.getElem?_map]
    by_cases h1 : j < h
    · rw [if_pos h1, List.getElem?_range h1]
      rfl
    · rw [if_neg h1, List.getElem?_eq_none (by simp; omega)]
      rfl
  obtain ⟨OB, hOB⟩ : ∃ OB : Obj, (.cells ((List.replicate h (0 : Nat)).map U6).toArray 63 : Obj) = OB := ⟨_, rfl⟩
  rw [hOB] at hmk hown0 hbn
  rw [e0] at hown0
  obtain ⟨w1, hw1⟩ : ∃ w1, W.alloc OB = w1 := ⟨_, rfl⟩
  obtain ⟨g, hg⟩ : ∃ g, W.heap.size = g := ⟨_, rfl⟩
  have HG := Lib.hid hg
  rw [hw1] at hmk hown0 hbn
  rw [hg] at hmk hown0
  rw [hN] at hv
  have HLN : Hid (N ≤ maxLen) := Lib.hid (by rw [← hN]; exact hl)
  have HO0 : Hid (w1.ownsRow W.heap.size 63 1 (.slice (some ⟨g, 0, none⟩) h h) h (((List.range h).map fun j => if j < 0 then R.getD j 0 else 0).map U6)) := Lib.hid (by rw [HG.out]; exact hown0)
  have HB0 := Lib.hid hbn
  have HN := Lib.hid hN
  have HR := Lib.hid hr
  have HV : Hid (∀ U, Below W.heap.size W U → UA U (.slice va N vc) R) := Lib.hid fun U hU => hv.keep hU
  rw [hN]
  clear hv hN hr hown0 hbn e0 hOB hw1 hl
  go_enter Tryd.func34, Tryd.ntmps34
  go_upto_region 3 with fail
  have HFIN : ∀ k, (h ≤ k ∨ N ≤ k) → ((List.range h).map fun j => if j < k then R.getD j 0 else 0) = (List.range h).map fun j => R.getD j 0 := fun k hk => mk_full (by rw [HN.out]; exact hk)
  go_loopw [8] (fun v8 wr => ∃ k : Nat, v8 = .int .i64 (k : Int) ∧ k ≤ h ∧ Hid (wr.ownsRow W.heap.size 63 1 (.slice (some ⟨g, 0, none⟩) h h) h (((List.range h).map fun j => if j < k then R.getD j 0 else 0).map U6)) ∧ Hid (Below W.heap.size W wr)) (fun v _ => h - (intOf v).toNat)
  case atStart => exact ⟨0, rfl, by omega, HO0, HB0⟩
  case round =>
    obtain ⟨k, rfl, hk, HOW, HBW⟩ := hrel
    by_cases hkh : k < h
    · have hkz : (k : Int) < (h : Int) := by omega
      have hk0 : (0 : Int) ≤ (k : Int) := by omega
      by_cases hkN : k < N
      · have hkw : (k : Int) < (N : Int) := by omega
        obtain ⟨r, hr⟩ : ∃ r, R[k]? = some r := ⟨_, List.getElem?_eq_getElem (by rw [HN.out]; omega)⟩
        obtain ⟨g2, o2, hva, -, hcr⟩ := (HV.out _ HBW.out).cell hr
        subst hva
        have hst := (HOW.out.stored k (U6 r)).1
        have hgr := (HOW.out.stored k (U6 r)).2
        have hset := mk_set R h k (by rw [HN.out]; exact hkN)
        rw [List.getD_eq_getElem?_getD, hr] at hset
        have hset2 : (((List.range h).map fun j => if j < k then R.getD j 0 else 0).map U6).set k (U6 r) = ((List.range h).map fun j => if j < k + 1 then R.getD j 0 else 0).map U6 := by
          rw [← hset, List.map_set]
          rfl
        rw [hset2] at hst
        have hcg : wr.cell? ⟨g, k, none⟩ = some (U6 0) := by
          rw [HOW.out.cellAt k (by omega), List.getElem?_map, List.getElem?_map, List.getElem?_range hkh]
          simp
        have hfg := HOW.out.frozenAt k
        have HW9 := Lib.hid (Below.grown HBW.out hgr HBW.out.size (fun b e => by have : g = b := Option.some.inj e; have := HG.out; omega))
        have HO9 := Lib.hid hst
        clear hr hst hgr hset hset2 hkh hkN
        go_upto_region 4 with fail
        clear hcr hcg hfg
        go_wp2
        go_roundw
        case rel => exact ⟨k + 1, by go_num, by omega, HO9, HW9⟩
        case measure => simp [intOf]; omega
      · have hkw : ¬ (k : Int) < (N : Int) := by omega
        skip
        have hf := HFIN k (by omega)
        have HFA := Lib.hid (first_any wr _ (.slice (some ⟨g, 0, none⟩) h h) pw hp (own_ua HOW.out) (by simp; omega) (fun x hx => by
          obtain ⟨j, -, hj⟩ := List.mem_map.1 hx
          have hq : R.getD j 0 < 18446744073709551616 := by
            rw [List.getD_eq_getElem?_getD]
            cases he : R[j]? with
            | none => simp
            | some y => exact HR.out y (List.mem_of_getElem? he)
          rw [← hj]
          split
          · exact hq
          · omega))
        rw [hf] at HFA
        go_wp2_with fail
        go_at_call 55
        refine HFA.out.mono ?_
        rintro e w9 ⟨v9, rfl, ko, kb⟩
        have ko2 : w9.ownsRow W.heap.size 63 1 v9 h ((mkRow R pw h).map U6) := by
          have h9 := ownsRow_base ko (show W.heap.size ≤ wr.heap.size from HBW.out.size)
          rw [List.length_map, List.length_range] at h9
          exact h9
        have HK9 := Lib.hid ko2
        have HB9 := Lib.hid (bnext HBW.out kb)
        clear ko ko2 kb HFA hf
        go_wp2
        go_ret
        exact ⟨_, rfl, HK9.out, HB9.out⟩
    · have hkz : ¬ (k : Int) < (h : Int) := by omega
      skip
      have hf := HFIN k (by omega)
      have HFA := Lib.hid (first_any wr _ (.slice (some ⟨g, 0, none⟩) h h) pw hp (own_ua HOW.out) (by simp; omega) (fun x hx => by
        obtain ⟨j, -, hj⟩ := List.mem_map.1 hx
        have hq : R.getD j 0 < 18446744073709551616 := by
          rw [List.getD_eq_getElem?_getD]
          cases he : R[j]? with
          | none => simp
          | some y => exact HR.out y (List.mem_of_getElem? he)
        rw [← hj]
        split
        · exact hq
        · omega))
      rw [hf] at HFA
      go_wp2_with fail
      go_at_call 55
      refine HFA.out.mono ?_
      rintro e w9 ⟨v9, rfl, ko, kb⟩
      have ko2 : w9.ownsRow W.heap.size 63 1 v9 h ((mkRow R pw h).map U6) := by
        have h9 := ownsRow_base ko (show W.heap.size ≤ wr.heap.size from HBW.out.size)
        rw [List.length_map, List.length_range] at h9
        exact h9
      have HK9 := Lib.hid ko2
      have HB9 := Lib.hid (bnext HBW.out kb)
      clear ko ko2 kb HFA hf
      go_wp2
      go_ret
      exact ⟨_, rfl, HK9.out, HB9.out⟩
end Go.Proofs.YtmiennkldkcnfaaDoor
