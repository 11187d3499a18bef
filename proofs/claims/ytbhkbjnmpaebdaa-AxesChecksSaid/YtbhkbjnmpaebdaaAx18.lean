/- The reference: Touches. No conditions. -/
import Derived.Test.YtbhkbjnmpaebdaaAx17
import Derived.Test.YtbhkbjnmpaebdaaAx11
import Derived.Test.YtbhkbjnmpaebdaaAx13
namespace Go.Proofs.Ytbhkbjnmpaebdaa
set_option maxRecDepth 100000
set_option linter.unusedVariables false
open Go.RowKit Go.Deep
/-- What a call's struct holds in a field, read in the way. -/
theorem put_eq {K : Act → World → Prop} {a : Act} {d : Option Tmp} {v v' : Value} {w : World} (h : v = v') (hk : K (a.put d v') w) : K (a.put d v) w := h ▸ hk
set_option maxHeartbeats 8000000 in
theorem rtouches_any (r : List AX.Tn) (l : List AX.Pr) (va v : Value) (w : World) (hal : r.length ≤ 1000000000000) (hl : l.length ≤ 1000000000000) (ha : TnAt w va r) (hv : PrAt w v l) :
    Calls Try.prog 37 #[.agg #[va], v] w fun e w' => e = .returned (.bool (AX.touches r l)) ∧ Below w.heap.size w w' := by
  have HV : Hid (∀ V, Below w.heap.size w V → PrAt V v l) := Lib.hid fun V hV => hv.keep hV
  have HA : Hid (∀ V, Below w.heap.size w V → TnAt V va r) := Lib.hid fun V hV => ha.keep hV
  obtain ⟨a, c, rfl, -⟩ := hv
  obtain ⟨aa, ac, rfl, -⟩ := ha
  obtain ⟨m, hm⟩ : ∃ m, l.length = m := ⟨_, rfl⟩
  obtain ⟨k, hk⟩ : ∃ k, r.length = k := ⟨_, rfl⟩
  have HM := Lib.hid hm
  have HK := Lib.hid hk
  rw [hm] at hl HV ⊢
  rw [hk] at hal HA ⊢
  obtain ⟨r1, hr1⟩ : ∃ b, AX.ranges l (m : Int) = b := ⟨_, rfl⟩
  obtain ⟨r2, hr2⟩ : ∃ b, AX.right r (m : Int) = b := ⟨_, rfl⟩
  have CR : Hid (∀ V, Below w.heap.size w V → Calls Try.prog 33 #[.slice a m c, .int .i64 (m : Int)] V fun e w' => e = .returned (.bool r1) ∧ Below V.heap.size V w') := Lib.hid fun V hV => rranges_c hr1 _ _ (by rw [HM.out]; exact hl) (HV.out V hV)
  have CC : Hid (∀ V, Below w.heap.size w V → Calls Try.prog 24 #[.agg #[.slice aa k ac], .int .i64 (m : Int)] V fun e w' => e = .returned (.bool r2) ∧ Below V.heap.size V w') := Lib.hid fun V hV => rright_c hr2 _ _ (by rw [HK.out]; exact hal) (HA.out V hV)
  have HR1 := Lib.hid hr1
  have HR2 := Lib.hid hr2
  clear hm hk hr1 hr2
  go_enter Try.func37, Try.ntmps37
  go_wp2_with fail
  obtain ⟨W0, hW0⟩ : ∃ W0, w.alloc (.cells #[.slice aa k ac] 42) = W0 := ⟨_, rfl⟩
  obtain ⟨B, hB⟩ : ∃ B, w.heap.size = B := ⟨_, rfl⟩
  have hv0 : W0.heap[B]? = some (.cells #[.slice aa k ac] 42 (0, 0)) := by rw [← hW0, ← hB]; exact heap_alloc_new w _
  have hb0 : Below w.heap.size w W0 := by rw [← hW0]; exact balloc (Below.refl _ _) _
  (try rw [hW0])
  (try rw [hB])
  have HB := Lib.hid hB
  clear hW0 hB
  refine (CR.out _ hb0).mono ?_
  rintro e w1 ⟨rfl, k1⟩
  have hv1 := (k1.block B (Array.getElem?_eq_some_iff.1 hv0).1).trans hv0
  have y0 : w1.cell? ⟨B, 0, none⟩ = some (.slice aa k ac) := by simp [World.cell?, hv1]
  go_wp2_with fail
  refine (CC.out _ (bnext hb0 k1)).mono ?_
  rintro e w2 ⟨rfl, k2⟩
  have hv2 := (k2.block B (Array.getElem?_eq_some_iff.1 hv1).1).trans hv1
  have HBW := Lib.hid (bnext (bnext hb0 k1) k2)
  have HV2 := Lib.hid hv2
  clear y0 hv0 hv1 hv2 hb0 k1 k2
  by_cases hyn : r1 = true ∧ r2 = true
  · obtain ⟨rfl, rfl⟩ := hyn
    have hkm : k = m := by
      have := ((AX.right_iff _ _).1 HR2.out).1.2.2
      rw [HK.out] at this
      omega
    have HKM := Lib.hid hkm
    have HZL : Hid ((r.zip l).length = m) := Lib.hid (by rw [List.length_zip, HK.out, HM.out, hkm, Nat.min_self])
    clear hkm
    go_wp2_with fail
    go_loopw [7] (fun v wr => ∃ i : Nat, v = .int .i64 (i : Int) ∧ i ≤ m ∧ Hid (∀ (j : Nat) (z : AX.Tn × AX.Pr), j < i → (r.zip l)[j]? = some z → AX.touch z = true) ∧ Below w2.heap.size w2 wr) (fun v _ => m - (intOf v).toNat)
    case atStart => exact ⟨0, rfl, Nat.zero_le _, Lib.hid (fun j z hj => absurd hj (Nat.not_lt_zero _)), Below.refl _ _⟩
    case round =>
      obtain ⟨i, rfl, hi, hyes, hb⟩ := hrel
      obtain ⟨wo, hwo⟩ : ∃ wo, wo = wr := ⟨_, rfl⟩
      subst hwo
      have HBO := Lib.hid hb
      have HBWO := Lib.hid (bnext HBW.out hb)
      by_cases hin : i < m
      · have hii : (i : Int) < (m : Int) := by omega
        have hi0 : (0 : Int) ≤ (i : Int) := by omega
        have hik : (i : Int) < (k : Int) := by have := HKM.out; omega
        obtain ⟨x, hx⟩ : ∃ x, (r.zip l)[i]? = some x := ⟨(r.zip l)[i]'(by rw [HZL.out]; exact hin), List.getElem?_eq_getElem _⟩
        have hx2 := List.getElem?_zip_eq_some.1 hx
        obtain ⟨⟨xf, xp, xq⟩, x1, x2⟩ := x
        have htn : AX.tent (xf, xp, xq) = true := ((AX.right_iff _ _).1 HR2.out).2 _ (List.mem_of_getElem? hx2.1)
        obtain ⟨u1, u2, u3⟩ := (AX.rng_iff _).1 (((AX.ranges_iff _ _).1 HR1.out).2 _ (List.mem_of_getElem? hx2.2))
        simp only at u1 u2 u3
        obtain ⟨aw, cw, e1, hc⟩ := HA.out wo HBWO.out
        obtain ⟨aw', cw', e1', hc'⟩ := HV.out wo HBWO.out
        rw [HK.out] at e1
        rw [HM.out] at e1'
        injection e1 with e1 e2 e3
        injection e1' with e1' e2' e3'
        subst e1 e3 e1' e3'
        rcases hc with h | ⟨g, o, rfl, hg, hcl⟩
        · rw [h] at hx2
          simp at hx2
        rcases hc' with h | ⟨g', o', rfl, hg', hcl'⟩
        · rw [h] at hx2
          simp at hx2
        obtain ⟨d0, d1, d2⟩ := hcl i _ hx2.1
        obtain ⟨f0, f1⟩ := hcl' i _ hx2.2
        simp only at d0 d1 d2 f0 f1
        have hvo := (hb.block B (Array.getElem?_eq_some_iff.1 HV2.out).1).trans HV2.out
        have v0 : wo.cell? ⟨B, 0, none⟩ = some (.slice (some ⟨g, o, none⟩) k ac) := by simp [World.cell?, hvo]
        have HKS : Hid (∀ V, Below wo.heap.size wo V → V.cell? ⟨B, 0, none⟩ = some (.slice (some ⟨g, o, none⟩) k ac) ∧ V.cell? ⟨g, o + i * 3, none⟩ = some (.int .i64 xf) ∧ V.cell? ⟨g, o + i * 3 + 1, none⟩ = some (.int .i64 xp) ∧ V.cell? ⟨g, o + i * 3 + 2, none⟩ = some (.int .i64 xq) ∧ V.cell? ⟨g', o' + i * 2 + 1, none⟩ = some (.int .i64 x2)) := Lib.hid fun V hV => ⟨(hV.cell (World.block_lt_of_cell? wo _ v0)).trans v0, (hV.cell (World.block_lt_of_cell? wo _ d0)).trans d0, (hV.cell (World.block_lt_of_cell? wo _ d1)).trans d1, (hV.cell (World.block_lt_of_cell? wo _ d2)).trans d2, (hV.cell (World.block_lt_of_cell? wo _ f1)).trans f1⟩
        have HX := Lib.hid hx
        have HTN := Lib.hid htn
        clear hx hx2 htn hcl hcl' hb e2 e2' d0 d1 d2 f1 v0 hvo
        go_wp2_with fail
        go_loopw [8, 9] (fun v8 v9 wr => ∃ (y : Int) (b : Bool), v9 = .int .i64 y ∧ x1 ≤ y ∧ y ≤ x2 + 1 ∧ v8 = .bool b ∧ Hid (b = true ↔ ∃ n, x1 ≤ n ∧ n < y ∧ 0 < (AX.strength (xf, xp, xq) n).1) ∧ Below wo.heap.size wo wr) (fun _ v9 _ => (x2 + 1 - intOf v9).toNat)
        case atStart => exact ⟨x1, false, rfl, Int.le_refl _, by omega, rfl, Lib.hid (by simp; intro n h1 h2; omega), Below.refl _ _⟩
        case round =>
          obtain ⟨y, b, rfl, hy1, hy2, rfl, HFB, hbi⟩ := hrel
          obtain ⟨v0, d0, d1, d2, f1⟩ := HKS.out wr hbi
          have HBI := Lib.hid hbi
          by_cases hyx : y ≤ x2
          · have hco : AX.coord y = true := (AX.coord_iff y).2 (by omega)
            have hwy : IntKind.i64.wrap (y + 1) = y + 1 := by rw [IntKind.wrap_i64]; omega
            cases b with
            | true =>
              have HF2 : Hid (true = true ↔ ∃ n, x1 ≤ n ∧ n < y + 1 ∧ 0 < (AX.strength (xf, xp, xq) n).1) := Lib.hid ⟨fun h => by obtain ⟨n, h1, h2, h3⟩ := HFB.out.1 h; exact ⟨n, h1, by omega, h3⟩, fun _ => rfl⟩
              clear hco
              go_wp2
              go_roundw
              case rel => exact ⟨y + 1, true, rfl, by omega, by omega, rfl, HF2, HBI.out⟩
              case measure => simp [intOf]; omega
            | false =>
              obtain ⟨⟨s1, s2⟩, hs⟩ : ∃ s, AX.strength (xf, xp, xq) y = s := ⟨_, rfl⟩
              have CS := Lib.hid (rstr_c hs wr HTN.out hco)
              have HF2 : Hid (decide (0 < s1) = true ↔ ∃ n, x1 ≤ n ∧ n < y + 1 ∧ 0 < (AX.strength (xf, xp, xq) n).1) := Lib.hid (by
                rw [decide_eq_true_iff]
                constructor
                · intro h
                  exact ⟨y, by omega, by omega, by rw [hs]; exact h⟩
                · rintro ⟨n, h1, h2, h3⟩
                  by_cases e : n = y
                  · rw [e, hs] at h3
                    exact h3
                  · exfalso
                    have := HFB.out.2 ⟨n, h1, by omega, h3⟩
                    cases this)
              clear hs hco hbi
              go_wp2_with fail
              refine CS.out.mono ?_
              rintro e w5 ⟨rfl, hb5⟩
              have HB5 := Lib.hid (bnext HBI.out hb5)
              clear hb5
              by_cases hs0 : 0 < s1
              · have HF3 : Hid (true = true ↔ ∃ n, x1 ≤ n ∧ n < y + 1 ∧ 0 < (AX.strength (xf, xp, xq) n).1) := Lib.hid (by have := HF2.out; rwa [decide_eq_true hs0] at this)
                go_wp2
                refine put_eq (v' := .int .i64 s1) rfl ?_
                go_wp2
                go_roundw
                case rel => exact ⟨y + 1, true, rfl, by omega, by omega, by first | rfl | (rw [decide_eq_true hs0]), Lib.hid (by have := HF3.out; simpa using this), HB5.out⟩
                case measure => simp [intOf]; omega
              · have HF3 : Hid (false = true ↔ ∃ n, x1 ≤ n ∧ n < y + 1 ∧ 0 < (AX.strength (xf, xp, xq) n).1) := Lib.hid (by have := HF2.out; rwa [decide_eq_false hs0] at this)
                go_wp2
                refine put_eq (v' := .int .i64 s1) rfl ?_
                go_wp2
                go_roundw
                case rel => exact ⟨y + 1, false, rfl, by omega, by omega, by first | rfl | (rw [decide_eq_false (by omega)]), Lib.hid (by have := HF3.out; simpa using this), HB5.out⟩
                case measure => simp [intOf]; omega
          · have hyE : y = x2 + 1 := by omega
            have HEX : Hid (b = true ↔ AX.touch ((xf, xp, xq), (x1, x2)) = true) := Lib.hid (by
              rw [AX.touch_iff HTN.out u3, HFB.out]
              constructor
              · rintro ⟨n, h1, h2, h3⟩; exact ⟨n, h1, by show n ≤ x2; omega, h3⟩
              · rintro ⟨n, h1, h2, h3⟩; exact ⟨n, h1, by have : n ≤ x2 := h2; omega, h3⟩)
            clear hyE hbi
            cases b with
            | true =>
              have HYES : Hid (∀ (j : Nat) (z : AX.Tn × AX.Pr), j < i + 1 → (r.zip l)[j]? = some z → AX.touch z = true) := Lib.hid (fun j z hj hz => by
                by_cases hji : j = i
                · subst hji
                  rw [HX.out] at hz
                  rw [← Option.some.inj hz]
                  exact HEX.out.1 rfl
                · exact hyes.out j z (by omega) hz)
              have HB9 := Lib.hid (bnext HBO.out HBI.out)
              go_wp2
              go_roundw
              case rel => exact ⟨i + 1, by go_num, hin, HYES, HB9.out⟩
              case measure => simp [intOf]; omega
            | false =>
              have hno : AX.touches r l = false := AX.touches_out HX.out (Bool.eq_false_iff.2 (fun h => by have := HEX.out.2 h; cases this))
              have HNO := Lib.hid hno
              have HB9 := Lib.hid (bnext HBW.out (bnext HBO.out HBI.out))
              clear hno
              go_wp2
              go_ret
              exact ⟨by rw [HNO.out]; rfl, HB9.out⟩
      · obtain rfl : i = m := by omega
        have HT : Hid (AX.touches r l = true) := Lib.hid (AX.touches_yes (by rw [HM.out, HR1.out]) (by rw [HM.out, HR2.out]) (all_upto HZL.out hyes.out))
        clear hb
        go_wp2
        go_ret
        exact ⟨by rw [HT.out]; rfl, HBWO.out⟩
  · have hno : AX.touches r l = false := by
      cases r1 with
      | false => exact AX.touches_no (by rw [HM.out, HR1.out])
      | true =>
        cases r2 with
        | false => exact AX.touches_no2 (by rw [HM.out, HR2.out])
        | true => exact absurd ⟨rfl, rfl⟩ hyn
    have HNO := Lib.hid hno
    clear hno
    cases r1 with
    | false =>
      go_wp2
      go_ret
      exact ⟨by rw [HNO.out]; rfl, HBW.out⟩
    | true =>
      cases r2 with
      | false =>
        go_wp2
        go_ret
        exact ⟨by rw [HNO.out]; rfl, HBW.out⟩
      | true => exact absurd ⟨rfl, rfl⟩ hyn
end Go.Proofs.Ytbhkbjnmpaebdaa
