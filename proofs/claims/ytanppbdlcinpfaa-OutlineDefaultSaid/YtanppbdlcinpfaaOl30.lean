/- Texts merged: Ol27, Ol29, Ol30. No conditions. -/
import Derived.Test.YtanppbdlcinpfaaOl26
set_option linter.unusedSimpArgs false
set_option linter.unusedVariables false
/- Rows of anchors compared by the reference. No conditions. -/
section
namespace Go.Proofs.Ytanppbdlcinpfaa
set_option maxRecDepth 100000
set_option linter.unusedVariables false
open Go.RowKit Go.Deep
set_option maxHeartbeats 2000000 in
theorem eqs_rac (W : World) (va vb : Value) (A B : List Ac) (ha : AcAt W va A) (hb : AcAt W vb B) (hla : A.length ≤ 1000000) (hlb : B.length ≤ 1000000) :
    Calls Try.prog 43 #[va, vb] W fun e w' => e = .returned (.bool (decide (A = B))) ∧ Below W.heap.size W w' := by
  obtain ⟨aa, ak, rfl⟩ := ha.shape
  obtain ⟨ba, bk, rfl⟩ := hb.shape
  obtain ⟨n, hn⟩ : ∃ n, A.length = n := ⟨_, rfl⟩
  obtain ⟨nb, hnb⟩ : ∃ n, B.length = n := ⟨_, rfl⟩
  have HN := Lib.hid (And.intro hn hnb)
  rw [hn] at ha hla ⊢
  rw [hnb] at hb hlb ⊢
  have HA := Lib.hid ha
  have HBB := Lib.hid hb
  clear ha hb hn hnb
  go_enter Try.func43, Try.ntmps43
  by_cases hd : n = nb
  · have hne : ((n : Int) != (nb : Int)) = false := by simp [hd]
    have HD := Lib.hid hd
    clear hd
    go_upto_region 4 with fail
    clear hne
    go_loopw [5] (fun v5 wr => ∃ i : Nat, v5 = .int .i64 (i : Int) ∧ i ≤ n ∧ Hid (∀ j, j < i → A[j]? = B[j]?) ∧ Hid (Below W.heap.size W wr)) (fun v5 _ => n - (intOf v5).toNat)
    case atStart => exact ⟨0, rfl, Nat.zero_le _, Lib.hid (fun j h => absurd h (Nat.not_lt_zero j)), Lib.hid (Below.refl _ _)⟩
    case round =>
      obtain ⟨i, rfl, hi, HE, HB⟩ := hrel
      by_cases hin : i < n
      · have hii : (i : Int) < (n : Int) := by omega
        have hii2 : (i : Int) < (nb : Int) := by have := HD.out; omega
        have hi0 : (0 : Int) ≤ (i : Int) := by omega
        obtain ⟨x, hx⟩ : ∃ x, A[i]? = some x := ⟨_, List.getElem?_eq_getElem (by rw [HN.out.1]; exact hin)⟩
        obtain ⟨y, hy⟩ : ∃ y, B[i]? = some y := ⟨_, List.getElem?_eq_getElem (by rw [HN.out.2, ← HD.out]; exact hin)⟩
        obtain ⟨g, o, rfl, hgl, ca0, ca1, ca2⟩ := (HA.out.keep HB.out).cell hx
        obtain ⟨g', o', rfl, hgl', cb0, cb1, cb2⟩ := (HBB.out.keep HB.out).cell hy
        have HXY := Lib.hid (And.intro hx hy)
        clear hx hy hgl hgl'
        by_cases hxy : x = y
        · have hq : ∀ w : World, (binOp .neq 30 (.agg #[.int .i64 x.c, .int .i64 x.x, .int .i64 x.y]) (.agg #[.int .i64 y.c, .int .i64 y.x, .int .i64 y.y])).run Try.prog w = .ok (.bool false) w := fun w => by rw [neq_ac w x y]; simp [hxy]
          have HE2 : Hid (∀ j, j < i + 1 → A[j]? = B[j]?) := Lib.hid fun j hj => by
            by_cases e : j < i
            · exact HE.out j e
            · obtain rfl : j = i := by omega
              rw [HXY.out.1, HXY.out.2, hxy]
          have HB2 : Hid (Below W.heap.size W wr) := HB
          clear hxy
          go_upto_region 6 with fail
          go_quiet (fail)
          go_wp2
          go_roundw
          case rel => exact ⟨i + 1, by go_num, by omega, HE2, Lib.hid (by first | exact below_drewN HB2.out _ | exact HB2.out)⟩
          case measure => simp [intOf]; omega
        · have hq : ∀ w : World, (binOp .neq 30 (.agg #[.int .i64 x.c, .int .i64 x.x, .int .i64 x.y]) (.agg #[.int .i64 y.c, .int .i64 y.x, .int .i64 y.y])).run Try.prog w = .ok (.bool true) w := fun w => by rw [neq_ac w x y]; simp [hxy]
          have HF : Hid (decide (A = B) = false) := Lib.hid (decide_eq_false fun e => hxy (by
            have h1 := HXY.out.1
            rw [e, HXY.out.2] at h1
            exact (Option.some.inj h1).symm))
          have HB2 : Hid (Below W.heap.size W wr) := HB
          clear hxy
          go_upto_region 6 with fail
          go_quiet (fail)
          go_wp2
          go_ret
          exact ⟨by rw [HF.out]; rfl, by first | exact below_drewN HB2.out _ | exact HB2.out⟩
      · have hii : ¬ (i : Int) < (n : Int) := by omega
        have HF : Hid (decide (A = B) = true) := Lib.hid (decide_eq_true (List.ext_getElem? fun j => by
          by_cases e : j < i
          · exact HE.out j e
          · rw [List.getElem?_eq_none (by have := HN.out.1; omega), List.getElem?_eq_none (by have := HN.out.2; have := HD.out; omega)]))
        have HB2 : Hid (Below W.heap.size W wr) := HB
        clear hin
        go_wp2
        go_ret
        exact ⟨by rw [HF.out]; rfl, HB2.out⟩
  · have hne : ((n : Int) != (nb : Int)) = true := by simp; omega
    have HF : Hid (decide (A = B) = false) := Lib.hid (decide_eq_false fun e => hd (by rw [← HN.out.1, ← HN.out.2, e]))
    clear hd
    go_wp2
    go_ret
    exact ⟨by rw [HF.out]; rfl, Below.refl _ _⟩
end Go.Proofs.Ytanppbdlcinpfaa
end
/- Contours compared by the reference. No conditions. -/
section
namespace Go.Proofs.Ytanppbdlcinpfaa
set_option maxRecDepth 100000
set_option linter.unusedVariables false
open Go.RowKit Go.Deep
set_option maxHeartbeats 4000000 in
theorem rsamec_any (W : World) (va vb : Value) (A B : List (List Pt)) (ha : CsAt W va A) (hb : CsAt W vb B) (hla : A.length ≤ 1000000) (hlb : B.length ≤ 1000000) (hxa : ∀ x ∈ A, x.length ≤ 1000000) (hxb : ∀ x ∈ B, x.length ≤ 1000000) :
    Calls Try.prog 42 #[va, vb] W fun e w' => e = .returned (.bool (decide (A = B))) ∧ Below W.heap.size W w' := by
  obtain ⟨aa, ak, rfl⟩ := ha.shape
  obtain ⟨ba, bk, rfl⟩ := hb.shape
  obtain ⟨n, hn⟩ : ∃ n, A.length = n := ⟨_, rfl⟩
  obtain ⟨nb, hnb⟩ : ∃ n, B.length = n := ⟨_, rfl⟩
  have HN := Lib.hid (And.intro hn hnb)
  rw [hn] at ha hla ⊢
  rw [hnb] at hb hlb ⊢
  have HA := Lib.hid ha
  have HBB := Lib.hid hb
  have HXX := Lib.hid (And.intro hxa hxb)
  clear ha hb hn hnb hxa hxb
  go_enter Try.func42, Try.ntmps42
  by_cases hd : n = nb
  · have hne : ((n : Int) != (nb : Int)) = false := by simp [hd]
    have HD := Lib.hid hd
    clear hd
    go_upto_region 4 with fail
    clear hne
    go_loopw [5] (fun v5 wr => ∃ i : Nat, v5 = .int .i64 (i : Int) ∧ i ≤ n ∧ Hid (∀ j, j < i → A[j]? = B[j]?) ∧ Hid (Below W.heap.size W wr)) (fun v5 _ => n - (intOf v5).toNat)
    case atStart => exact ⟨0, rfl, Nat.zero_le _, Lib.hid (fun j h => absurd h (Nat.not_lt_zero j)), Lib.hid (Below.refl _ _)⟩
    case round =>
      obtain ⟨i, rfl, hi, HE, HB⟩ := hrel
      by_cases hin : i < n
      · have hii : (i : Int) < (n : Int) := by omega
        have hii2 : (i : Int) < (nb : Int) := by have := HD.out; omega
        have hi0 : (0 : Int) ≤ (i : Int) := by omega
        obtain ⟨x, hx⟩ : ∃ x, A[i]? = some x := ⟨_, List.getElem?_eq_getElem (by rw [HN.out.1]; exact hin)⟩
        obtain ⟨y, hy⟩ : ∃ y, B[i]? = some y := ⟨_, List.getElem?_eq_getElem (by rw [HN.out.2, ← HD.out]; exact hin)⟩
        obtain ⟨g, o, pa, pk, rfl, hgl, ca, hpa⟩ := (HA.out.keep HB.out).cell hx
        obtain ⟨g', o', qa, qk, rfl, hgl', cb, hpb⟩ := (HBB.out.keep HB.out).cell hy
        have HXY := Lib.hid (And.intro hx hy)
        obtain ⟨m, hm⟩ : ∃ m, x.length = m := ⟨_, rfl⟩
        obtain ⟨k, hk⟩ : ∃ m, y.length = m := ⟨_, rfl⟩
        have hm9 : m ≤ 1000000 := by rw [← hm]; exact HXX.out.1 x (List.mem_of_getElem? hx)
        have hk9 : k ≤ 1000000 := by rw [← hk]; exact HXX.out.2 y (List.mem_of_getElem? hy)
        rw [hm] at ca hpa
        rw [hk] at cb hpb
        have HMK := Lib.hid (And.intro hm hk)
        obtain ⟨wo, rfl⟩ : ∃ wo, wo = wr := ⟨_, rfl⟩
        have HCX : Hid (∀ U, Below wo.heap.size wo U → U.cell? ⟨g, o + i, none⟩ = some (.slice pa m pk) ∧ U.cell? ⟨g', o' + i, none⟩ = some (.slice qa k qk) ∧ PtAt U (.slice pa m pk) x ∧ PtAt U (.slice qa k qk) y) := Lib.hid fun U hU => ⟨(hU.cell (p := ⟨g, o + i, none⟩) hgl).trans ca, (hU.cell (p := ⟨g', o' + i, none⟩) hgl').trans cb, hpa.keep hU, hpb.keep hU⟩
        clear hx hy hgl hgl' hpa hpb hm hk
        by_cases hmk : m = k
        · have hne : ((m : Int) != (k : Int)) = false := by simp [hmk]
          have HK := Lib.hid hmk
          clear hmk
          go_upto_region 6 with fail
          go_quiet (fail)
          clear ca cb hne
          go_upto_region 9 with fail
          go_loopw [6] (fun v6 wi => ∃ j : Nat, v6 = .int .i64 (j : Int) ∧ j ≤ m ∧ Hid (∀ l, l < j → x[l]? = y[l]?) ∧ Hid (Below wo.heap.size wo wi)) (fun v6 _ => m - (intOf v6).toNat)
          case atStart => exact ⟨0, rfl, Nat.zero_le _, Lib.hid (fun j h => absurd h (Nat.not_lt_zero j)), Lib.hid (by first | exact below_drewN (Below.refl _ _) _ | exact Below.refl _ _)⟩
          case round =>
            obtain ⟨j, rfl, hj, HE2, HBI⟩ := hrel
            obtain ⟨ca, cb, hpa, hpb⟩ := HCX.out wr HBI.out
            by_cases hjm : j < m
            · have hjj : (j : Int) < (m : Int) := by omega
              have hjj2 : (j : Int) < (k : Int) := by have := HK.out; omega
              have hj0 : (0 : Int) ≤ (j : Int) := by omega
              obtain ⟨p, hp⟩ : ∃ p, x[j]? = some p := ⟨_, List.getElem?_eq_getElem (by rw [HMK.out.1]; exact hjm)⟩
              obtain ⟨q, hq⟩ : ∃ q, y[j]? = some q := ⟨_, List.getElem?_eq_getElem (by rw [HMK.out.2, ← HK.out]; exact hjm)⟩
              obtain ⟨h, u, rfl, hgl, c0, c1, c2⟩ := hpa.cell hp
              obtain ⟨h', u', rfl, hgl', d0, d1, d2⟩ := hpb.cell hq
              have HPQ := Lib.hid (And.intro hp hq)
              clear hp hq hgl hgl' hpa hpb
              by_cases hpq : p = q
              · have hqe : ∀ w : World, (binOp .neq 81 (.agg #[.int .i64 p.x, .int .i64 p.y, .bool p.on]) (.agg #[.int .i64 q.x, .int .i64 q.y, .bool q.on])).run Try.prog w = .ok (.bool false) w := fun w => by rw [neq_pt w p q]; simp [hpq]
                have HE3 : Hid (∀ l, l < j + 1 → x[l]? = y[l]?) := Lib.hid fun l hl => by
                  by_cases e : l < j
                  · exact HE2.out l e
                  · obtain rfl : l = j := by omega
                    rw [HPQ.out.1, HPQ.out.2, hpq]
                clear hpq
                go_upto_region 11 with fail
                go_quiet (fail)
                go_wp2
                go_roundw
                case rel => exact ⟨j + 1, by go_num, by omega, HE3, Lib.hid (by first | exact below_drewN HBI.out _ | exact HBI.out)⟩
                case measure => simp [intOf]; omega
              · have hqe : ∀ w : World, (binOp .neq 81 (.agg #[.int .i64 p.x, .int .i64 p.y, .bool p.on]) (.agg #[.int .i64 q.x, .int .i64 q.y, .bool q.on])).run Try.prog w = .ok (.bool true) w := fun w => by rw [neq_pt w p q]; simp [hpq]
                have HF : Hid (decide (A = B) = false) := Lib.hid (decide_eq_false fun e => hpq (by
                  have h1 := HXY.out.1
                  rw [e, HXY.out.2] at h1
                  have h2 := Option.some.inj h1
                  have h3 := HPQ.out.1
                  rw [← h2, HPQ.out.2] at h3
                  exact (Option.some.inj h3).symm))
                clear hpq
                go_upto_region 11 with fail
                go_quiet (fail)
                go_wp2
                go_ret
                exact ⟨by rw [HF.out]; rfl, bnext HB.out (by first | exact below_drewN HBI.out _ | exact HBI.out)⟩
            · have hjj : ¬ (j : Int) < (m : Int) := by omega
              have HE3 : Hid (∀ j, j < i + 1 → A[j]? = B[j]?) := Lib.hid fun l hl => by
                by_cases e : l < i
                · exact HE.out l e
                · obtain rfl : l = i := by omega
                  rw [HXY.out.1, HXY.out.2]
                  congr 1
                  refine List.ext_getElem? fun z => ?_
                  by_cases e2 : z < j
                  · exact HE2.out z e2
                  · rw [List.getElem?_eq_none (by have := HMK.out.1; omega), List.getElem?_eq_none (by have := HMK.out.2; have := HK.out; omega)]
              clear hjm hpa hpb
              go_wp2
              go_roundw
              case rel => exact ⟨i + 1, by go_num, by omega, HE3, Lib.hid (bnext HB.out HBI.out)⟩
              case measure => simp [intOf]; omega
        · have hne : ((m : Int) != (k : Int)) = true := by simp; omega
          have HF : Hid (decide (A = B) = false) := Lib.hid (decide_eq_false fun e => hmk (by
            have h1 := HXY.out.1
            rw [e, HXY.out.2] at h1
            rw [← HMK.out.1, ← HMK.out.2, Option.some.inj h1]))
          clear hmk
          go_upto_region 6 with fail
          go_quiet (fail)
          go_wp2
          go_ret
          exact ⟨by rw [HF.out]; rfl, by first | exact below_drewN HB.out _ | exact HB.out⟩
      · have hii : ¬ (i : Int) < (n : Int) := by omega
        have HF : Hid (decide (A = B) = true) := Lib.hid (decide_eq_true (List.ext_getElem? fun j => by
          by_cases e : j < i
          · exact HE.out j e
          · rw [List.getElem?_eq_none (by have := HN.out.1; omega), List.getElem?_eq_none (by have := HN.out.2; have := HD.out; omega)]))
        clear hin
        go_wp2
        go_ret
        exact ⟨by rw [HF.out]; rfl, HB.out⟩
  · have hne : ((n : Int) != (nb : Int)) = true := by simp; omega
    have HF : Hid (decide (A = B) = false) := Lib.hid (decide_eq_false fun e => hd (by rw [← HN.out.1, ← HN.out.2, e]))
    clear hd
    go_wp2
    go_ret
    exact ⟨by rw [HF.out]; rfl, Below.refl _ _⟩
end Go.Proofs.Ytanppbdlcinpfaa
end
/- Drawn outlines compared by the reference. No conditions. -/
section
namespace Go.Proofs.Ytanppbdlcinpfaa
set_option maxRecDepth 100000
set_option linter.unusedVariables false
open Go.RowKit Go.Deep
set_option maxHeartbeats 4000000 in
theorem rsamedr_any (W : World) (v v' : Value) (d d' : Dr) (hv : DrAt W v d) (hv' : DrAt W v' d') (hok : CsOk d.cs) (hok' : CsOk d'.cs) (han : d.an.length ≤ 1000) (han' : d'.an.length ≤ 1000) :
    Calls Try.prog 15 #[v, v'] W fun e w' => e = .returned (.bool (decide (d = d'))) ∧ Below W.heap.size W w' := by
  obtain ⟨vc, va, rfl, h1, h2⟩ := hv
  obtain ⟨vc', va', rfl, k1, k2⟩ := hv'
  obtain ⟨C, A, ⟨hc, hx, hy⟩, ad⟩ := d
  obtain ⟨C', A', ⟨hc', hx', hy'⟩, ad'⟩ := d'
  dsimp only at h1 h2 k1 k2 hok hok' han han' ⊢
  obtain ⟨ca, ck, rfl⟩ := h1.shape
  obtain ⟨aa, ak, rfl⟩ := h2.shape
  obtain ⟨ca', ck', rfl⟩ := k1.shape
  obtain ⟨aa', ak', rfl⟩ := k2.shape
  have hd : decide ((⟨C, A, ⟨hc, hx, hy⟩, ad⟩ : Dr) = ⟨C', A', ⟨hc', hx', hy'⟩, ad'⟩) = (decide (C = C') && (decide (A = A') && (decide ((⟨hc, hx, hy⟩ : Ac) = ⟨hc', hx', hy'⟩) && decide (ad = ad')))) := by
    rw [Bool.eq_iff_iff]
    simp
  obtain ⟨D0, hD0⟩ : ∃ q, decide ((⟨C, A, ⟨hc, hx, hy⟩, ad⟩ : Dr) = ⟨C', A', ⟨hc', hx', hy'⟩, ad'⟩) = q := ⟨_, rfl⟩
  rw [hD0] at hd ⊢
  have HV := Lib.hid hd
  obtain ⟨B, hB⟩ : ∃ B, W.heap.size = B := ⟨_, rfl⟩
  have HH := Lib.hid (And.intro h1 (And.intro h2 (And.intro k1 k2)))
  have HO := Lib.hid (And.intro hok (And.intro hok' (And.intro han han')))
  obtain ⟨cn, hcn⟩ : ∃ n, C.length = n := ⟨_, rfl⟩
  obtain ⟨an, hann⟩ : ∃ n, A.length = n := ⟨_, rfl⟩
  obtain ⟨cn', hcn'⟩ : ∃ n, C'.length = n := ⟨_, rfl⟩
  obtain ⟨an', hann'⟩ : ∃ n, A'.length = n := ⟨_, rfl⟩
  rw [hcn, hann, hcn', hann'] at HH
  rw [hcn, hann, hcn', hann']
  clear h1 h2 k1 k2 hok hok' han han' hd hD0 hcn hann hcn' hann'
  have x0 := heap_alloc_new W (.cells #[.slice ca cn ck, .slice aa an ak, .int .i64 hc, .int .i64 hx, .int .i64 hy, .int .i64 ad] 41)
  have x1 := heap_alloc_new (W.alloc (.cells #[.slice ca cn ck, .slice aa an ak, .int .i64 hc, .int .i64 hx, .int .i64 hy, .int .i64 ad] 41)) (.cells #[.slice ca' cn' ck', .slice aa' an' ak', .int .i64 hc', .int .i64 hx', .int .i64 hy', .int .i64 ad'] 41)
  have bb := balloc (Below.refl _ (W.alloc (.cells #[.slice ca cn ck, .slice aa an ak, .int .i64 hc, .int .i64 hx, .int .i64 hy, .int .i64 ad] 41))) (.cells #[.slice ca' cn' ck', .slice aa' an' ak', .int .i64 hc', .int .i64 hx', .int .i64 hy', .int .i64 ad'] 41)
  have hb1 := balloc (balloc (Below.refl _ W) (.cells #[.slice ca cn ck, .slice aa an ak, .int .i64 hc, .int .i64 hx, .int .i64 hy, .int .i64 ad] 41)) (.cells #[.slice ca' cn' ck', .slice aa' an' ak', .int .i64 hc', .int .i64 hx', .int .i64 hy', .int .i64 ad'] 41)
  simp only [World.size_alloc] at x1 bb
  obtain ⟨W1, hW1⟩ : ∃ W1, (W.alloc (.cells #[.slice ca cn ck, .slice aa an ak, .int .i64 hc, .int .i64 hx, .int .i64 hy, .int .i64 ad] 41)).alloc (.cells #[.slice ca' cn' ck', .slice aa' an' ak', .int .i64 hc', .int .i64 hx', .int .i64 hy', .int .i64 ad'] 41) = W1 := ⟨_, rfl⟩
  rw [hW1] at x1 bb hb1
  rw [hB] at x0 x1 bb
  have HB1 := Lib.hid hb1
  have x0' := (bb.block B (by omega)).trans x0
  have HGA : Hid (∀ U, Below W1.heap.size W1 U → U.heap[B]? = some (.cells #[.slice ca cn ck, .slice aa an ak, .int .i64 hc, .int .i64 hx, .int .i64 hy, .int .i64 ad] 41) ∧ U.heap[B + 1]? = some (.cells #[.slice ca' cn' ck', .slice aa' an' ak', .int .i64 hc', .int .i64 hx', .int .i64 hy', .int .i64 ad'] 41)) := Lib.hid fun U hU => ⟨(hU.block _ (Array.getElem?_eq_some_iff.1 x0').1).trans x0', (hU.block _ (Array.getElem?_eq_some_iff.1 x1).1).trans x1⟩
  have HC0 := Lib.hid (rsamec_any W1 _ _ C C' (HH.out.1.keep HB1.out) (HH.out.2.2.1.keep HB1.out) (by have := HO.out.1.n; omega) (by have := HO.out.2.1.n; omega) (fun x hx => by have := HO.out.1.m x hx; omega) (fun x hx => by have := HO.out.2.1.m x hx; omega))
  have HC1 : Hid (∀ U, Below W1.heap.size W1 U → Calls Try.prog 43 #[.slice aa an ak, .slice aa' an' ak'] U fun e w' => e = .returned (.bool (decide (A = A'))) ∧ Below U.heap.size U w') := Lib.hid fun U hU => eqs_rac U _ _ A A' (HH.out.2.1.keep (bnext HB1.out hU)) (HH.out.2.2.2.keep (bnext HB1.out hU)) (by have := HO.out.2.2.1; omega) (by have := HO.out.2.2.2; omega)
  clear x0 x1 bb hb1 x0'
  have a0 : W1.cell? ⟨B, 0, none⟩ = some (.slice ca cn ck) := nd_cell (HGA.out W1 (Below.refl _ _)).1 rfl
  have b0 : W1.cell? ⟨B + 1, 0, none⟩ = some (.slice ca' cn' ck') := nd_cell (HGA.out W1 (Below.refl _ _)).2 rfl
  go_enter Try.func15, Try.ntmps15
  go_upto_region 1 with fail
  try rw [show W.heap.size + 1 = B + 1 by rw [hB]]
  try rw [hB]
  try rw [hW1]
  clear hW1 hB
  go_wp2_with fail
  go_at_call 42
  refine HC0.out.mono ?_
  rintro e w1 ⟨rfl, hb1⟩
  have HW1 := Lib.hid hb1
  clear hb1 HC0 a0 b0
  obtain ⟨q1, hq1⟩ : ∃ q, decide (C = C') = q := ⟨_, rfl⟩
  rw [hq1] at HV ⊢
  clear hq1
  cases q1 with
  | false =>
    have HV' : Hid (D0 = false) := Lib.hid (by rw [HV.out]; rfl)
    go_wp2
    go_ret
    exact ⟨by rw [HV'.out]; rfl, bnext HB1.out HW1.out⟩
  | true =>
    simp only [Bool.true_and] at HV
    have a1 : w1.cell? ⟨B, 1, none⟩ = some (.slice aa an ak) := nd_cell (HGA.out w1 HW1.out).1 rfl
    have b1 : w1.cell? ⟨B + 1, 1, none⟩ = some (.slice aa' an' ak') := nd_cell (HGA.out w1 HW1.out).2 rfl
    go_wp2_with fail
    go_at_call 43
    refine (HC1.out w1 HW1.out).mono ?_
    rintro e w2 ⟨rfl, hb2⟩
    have HW2 := Lib.hid (bnext HW1.out hb2)
    clear hb2 HC1 a1 b1
    obtain ⟨q2, hq2⟩ : ∃ q, decide (A = A') = q := ⟨_, rfl⟩
    rw [hq2] at HV ⊢
    clear hq2
    cases q2 with
    | false =>
      have HV' : Hid (D0 = false) := Lib.hid (by rw [HV.out]; rfl)
      go_wp2
      go_ret
      exact ⟨by rw [HV'.out]; rfl, bnext HB1.out HW2.out⟩
    | true =>
      simp only [Bool.true_and] at HV
      have a2 : w2.cell? ⟨B, 2, none⟩ = some (.int .i64 hc) := nd_cell (HGA.out w2 HW2.out).1 rfl
      have b2 : w2.cell? ⟨B + 1, 2, none⟩ = some (.int .i64 hc') := nd_cell (HGA.out w2 HW2.out).2 rfl
      have a3 : w2.cell? ⟨B, 3, none⟩ = some (.int .i64 hx) := nd_cell (HGA.out w2 HW2.out).1 rfl
      have b3 : w2.cell? ⟨B + 1, 3, none⟩ = some (.int .i64 hx') := nd_cell (HGA.out w2 HW2.out).2 rfl
      have a4 : w2.cell? ⟨B, 4, none⟩ = some (.int .i64 hy) := nd_cell (HGA.out w2 HW2.out).1 rfl
      have b4 : w2.cell? ⟨B + 1, 4, none⟩ = some (.int .i64 hy') := nd_cell (HGA.out w2 HW2.out).2 rfl
      have a5 : w2.cell? ⟨B, 5, none⟩ = some (.int .i64 ad) := nd_cell (HGA.out w2 HW2.out).1 rfl
      have b5 : w2.cell? ⟨B + 1, 5, none⟩ = some (.int .i64 ad') := nd_cell (HGA.out w2 HW2.out).2 rfl
      by_cases e1 : (⟨hc, hx, hy⟩ : Ac) = ⟨hc', hx', hy'⟩
      · have hq : ∀ w : World, (binOp .eql 30 (.agg #[.int .i64 hc, .int .i64 hx, .int .i64 hy]) (.agg #[.int .i64 hc', .int .i64 hx', .int .i64 hy'])).run Try.prog w = .ok (.bool true) w := fun w => by rw [eq_ac w ⟨hc, hx, hy⟩ ⟨hc', hx', hy'⟩, decide_eq_true e1]
        rw [decide_eq_true e1, Bool.true_and] at HV
        clear e1
        by_cases e2 : ad = ad'
        · have hp : (ad == ad') = true := by simp [e2]
          have HV' : Hid (D0 = true) := Lib.hid (by rw [HV.out, decide_eq_true e2])
          clear e2
          go_wp2
          go_ret
          exact ⟨by rw [HV'.out]; rfl, bnext HB1.out HW2.out⟩
        · have hp : (ad == ad') = false := by simp [e2]
          have HV' : Hid (D0 = false) := Lib.hid (by rw [HV.out, decide_eq_false e2])
          clear e2
          go_wp2
          go_ret
          exact ⟨by rw [HV'.out]; rfl, bnext HB1.out HW2.out⟩
      · have hq : ∀ w : World, (binOp .eql 30 (.agg #[.int .i64 hc, .int .i64 hx, .int .i64 hy]) (.agg #[.int .i64 hc', .int .i64 hx', .int .i64 hy'])).run Try.prog w = .ok (.bool false) w := fun w => by rw [eq_ac w ⟨hc, hx, hy⟩ ⟨hc', hx', hy'⟩, decide_eq_false e1]
        have HV' : Hid (D0 = false) := Lib.hid (by rw [HV.out, decide_eq_false e1]; rfl)
        clear e1
        go_wp2
        go_ret
        exact ⟨by rw [HV'.out]; rfl, bnext HB1.out HW2.out⟩
end Go.Proofs.Ytanppbdlcinpfaa
end
