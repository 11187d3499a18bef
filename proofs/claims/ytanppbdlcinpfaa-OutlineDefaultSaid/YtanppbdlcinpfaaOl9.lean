/- Texts merged: Ol6, Ol7, Ol8, Ol9. No conditions. -/
import Derived.Test.YtanppbdlcinpfaaOl5
set_option linter.unusedSimpArgs false
set_option linter.unusedVariables false
/- The reference: whether numbers are right, how many points there are, and whether contours are right. No conditions. -/
section
namespace Go.Proofs.Ytanppbdlcinpfaa
set_option maxRecDepth 100000
set_option linter.unusedVariables false
open Go.RowKit Go.Deep
theorem rco_any (W : World) (x : Int) : Calls Try.prog 99 #[.int .i64 x, .int .i64 128] W fun e w' => e = .returned (.bool (OL.co x)) ∧ w' = W := by
  unfold OL.co
  by_cases h1 : -128 ≤ x
  · by_cases h2 : x ≤ 128
    · rw [decide_eq_true h1, decide_eq_true h2]
      go_enter Try.func99, Try.ntmps99
      go_wp2
      go_ret
      exact ⟨by first | rfl | simp_all, rfl⟩
    · rw [decide_eq_true h1, decide_eq_false h2]
      go_enter Try.func99, Try.ntmps99
      go_wp2
      go_ret
      exact ⟨by first | rfl | simp_all, rfl⟩
  · rw [decide_eq_false h1]
    go_enter Try.func99, Try.ntmps99
    go_wp2
    go_ret
    exact ⟨by first | rfl | simp_all, rfl⟩
theorem rmo_any (W : World) (x : Int) : Calls Try.prog 99 #[.int .i64 x, .int .i64 64] W fun e w' => e = .returned (.bool (OL.mo x)) ∧ w' = W := by
  unfold OL.mo
  by_cases h1 : -64 ≤ x
  · by_cases h2 : x ≤ 64
    · rw [decide_eq_true h1, decide_eq_true h2]
      go_enter Try.func99, Try.ntmps99
      go_wp2
      go_ret
      exact ⟨by first | rfl | simp_all, rfl⟩
    · rw [decide_eq_true h1, decide_eq_false h2]
      go_enter Try.func99, Try.ntmps99
      go_wp2
      go_ret
      exact ⟨by first | rfl | simp_all, rfl⟩
  · rw [decide_eq_false h1]
    go_enter Try.func99, Try.ntmps99
    go_wp2
    go_ret
    exact ⟨by first | rfl | simp_all, rfl⟩
theorem rplaced_any (W : World) (x y : Int) : Calls Try.prog 98 #[.int .i64 x, .int .i64 y] W fun e w' => e = .returned (.bool (OL.co x && OL.co y)) ∧ w' = W := by
  have HX := Lib.hid (rco_any W x)
  have HY := Lib.hid (rco_any W y)
  obtain ⟨p, hp⟩ : ∃ p, OL.co x = p := ⟨_, rfl⟩
  obtain ⟨q, hq⟩ : ∃ q, OL.co y = q := ⟨_, rfl⟩
  rw [hp] at HX ⊢
  rw [hq] at HY ⊢
  clear hp hq
  go_enter Try.func98, Try.ntmps98
  go_wp2_with fail
  go_at_call 99
  refine HX.out.mono ?_
  rintro e w2 ⟨rfl, he⟩
  have he' := he.symm
  subst he'
  cases p with
  | false =>
    go_wp2
    go_ret
    exact ⟨rfl, rfl⟩
  | true =>
    go_wp2_with fail
    go_at_call 99
    refine HY.out.mono ?_
    rintro e w2 ⟨rfl, he⟩
    have he' := he.symm
    subst he'
    go_wp2
    go_ret
    exact ⟨by first | rfl | simp, rfl⟩
set_option maxHeartbeats 4000000 in
theorem rpoints_any (W : World) (v : Value) (G : Gl) (hv : GlAt W v G) (hok : GlOk G) :
    Calls Try.prog 24 #[v] W fun e w' => e = .returned (.int .i64 (OL.points G : Int)) ∧ Below W.heap.size W w' := by
  obtain ⟨C, A, ⟨hc, hx, hy⟩, ad, D, P⟩ := G
  obtain ⟨vc, va, vd, vp, rfl, h1, h2, h3, h4⟩ := hv
  dsimp only at h1 h2 h3 h4 ⊢
  obtain ⟨ca, ck, rfl⟩ := h1.shape
  obtain ⟨aa, ak, rfl⟩ := h2.shape
  obtain ⟨da, dk, rfl⟩ := h3.shape
  obtain ⟨cn, hcn⟩ : ∃ cn, C.length = cn := ⟨_, rfl⟩
  obtain ⟨an, han⟩ : ∃ an, A.length = an := ⟨_, rfl⟩
  obtain ⟨dn, hdn⟩ : ∃ dn, D.length = dn := ⟨_, rfl⟩
  rw [hcn] at h1 ⊢
  rw [han] at h2 ⊢
  rw [hdn] at h3 ⊢
  have HCS := Lib.hid h1
  have HAN := Lib.hid h2
  have HDS := Lib.hid h3
  have HLN : Hid (C.length = cn ∧ A.length = an ∧ D.length = dn) := Lib.hid ⟨hcn, han, hdn⟩
  have HBD : Hid ((cn ≤ 1000 ∧ an ≤ 1000 ∧ dn ≤ 1000) ∧ CsOk C ∧ ∀ d ∈ D, d.m.length ≤ 1000) := Lib.hid ⟨⟨by have := hok.cs.n; dsimp only at this; omega, by have := hok.an; dsimp only at this; omega, by have := hok.ds; dsimp only at this; omega⟩, hok.cs, hok.mv⟩
  clear h1 h2 h3 h4 hok hcn han hdn
  obtain ⟨B, hB⟩ : ∃ B, W.heap.size = B := ⟨_, rfl⟩
  have hx1 := heap_alloc_new W (.cells #[.slice ca cn ck, .slice aa an ak, .int .i64 hc, .int .i64 hx, .int .i64 hy, .int .i64 ad, .slice da dn dk, vp] 34)
  have hb1 := balloc (Below.refl _ W) (.cells #[.slice ca cn ck, .slice aa an ak, .int .i64 hc, .int .i64 hx, .int .i64 hy, .int .i64 ad, .slice da dn dk, vp] 34)
  obtain ⟨w1, hw1⟩ : ∃ w1, W.alloc (.cells #[.slice ca cn ck, .slice aa an ak, .int .i64 hc, .int .i64 hx, .int .i64 hy, .int .i64 ad, .slice da dn dk, vp] 34) = w1 := ⟨_, rfl⟩
  rw [hw1, hB] at hx1
  rw [hw1] at hb1
  have HB1 := Lib.hid hb1
  have HX1 := Lib.hid hx1
  have HKX : Hid (∀ U, Below w1.heap.size w1 U → U.cell? ⟨B, 0, none⟩ = some (.slice ca cn ck) ∧ U.cell? ⟨B, 1, none⟩ = some (.slice aa an ak) ∧ U.cell? ⟨B, 2, none⟩ = some (.int .i64 hc) ∧ U.cell? ⟨B, 3, none⟩ = some (.int .i64 hx) ∧ U.cell? ⟨B, 4, none⟩ = some (.int .i64 hy) ∧ U.cell? ⟨B, 5, none⟩ = some (.int .i64 ad) ∧ U.cell? ⟨B, 6, none⟩ = some (.slice da dn dk) ∧ U.cell? ⟨B, 7, none⟩ = some (vp)) := Lib.hid fun U hU => by
    have h1 := (hU.block B (Array.getElem?_eq_some_iff.1 HX1.out).1).trans HX1.out
    exact ⟨nd_cell h1 rfl, nd_cell h1 rfl, nd_cell h1 rfl, nd_cell h1 rfl, nd_cell h1 rfl, nd_cell h1 rfl, nd_cell h1 rfl, nd_cell h1 rfl⟩
  obtain ⟨x0, x1, x2, x3, x4, x5, x6, x7⟩ := HKX.out w1 (Below.refl _ _)
  clear hx1 hb1
  unfold OL.points
  dsimp only
  rw [HLN.out.2.1]
  have q1 : IntKind.i64.wrap ((an : Int) + 1) = (an : Int) + 1 := IntWalk.i64_in _ (by have := HBD.out.1; omega)
  go_enter Try.func24, Try.ntmps24
  go_upto_region 1 with fail
  try rw [hw1]
  try rw [hB]
  clear hw1 hB
  go_upto_region 3 with fail
  clear q1
  go_loopw [3, 4] (fun v3 v4 wr => ∃ (i s : Nat), v4 = .int .i64 (i : Int) ∧ v3 = .int .i64 (s : Int) ∧ i ≤ cn ∧ s ≤ 2000 + 1000 * i ∧ Hid (s = an + 1 + OL.pts (C.take i)) ∧ wr = w1) (fun v3 v4 _ => cn - (intOf v4).toNat)
  case atStart => exact ⟨0, an + 1, rfl, by simp, Nat.zero_le _, by have := HBD.out.1; omega, Lib.hid (by simp [OL.pts]), rfl⟩
  case round =>
    obtain ⟨i, s, rfl, rfl, hi, hs9, HS, rfl⟩ := hrel
    by_cases hin : i < cn
    · have hii : (i : Int) < (cn : Int) := by omega
      have hi0 : (0 : Int) ≤ (i : Int) := by omega
      have hi9 : i < 1000 := by have := HBD.out.1; omega
      obtain ⟨c, hc'⟩ : ∃ c, C[i]? = some c := ⟨_, List.getElem?_eq_getElem (by rw [HLN.out.1]; exact hin)⟩
      obtain ⟨g, o, pa, pk, rfl, hg, hcell, hpt⟩ := (HCS.out.keep HB1.out).cell hc'
      have hcm := HBD.out.2.1.m c (List.mem_of_getElem? hc')
      have hpt := OL.pts_take hc'
      obtain ⟨m, hm⟩ : ∃ m, c.length = m := ⟨_, rfl⟩
      rw [hm] at hcell hcm hpt
      obtain ⟨t, ht⟩ : ∃ t, s + m = t := ⟨_, rfl⟩
      have HT : Hid (t = an + 1 + OL.pts (C.take (i + 1)) ∧ t ≤ 2000 + 1000 * (i + 1)) := Lib.hid (by have := HS.out; omega)
      have q1 : (s : Int) + (m : Int) = (t : Int) := by omega
      have q2 : IntKind.i64.wrap (t : Int) = (t : Int) := IntWalk.i64_in _ (by omega)
      clear hm ht hpt hcm hc' hg hs9
      go_upto_region 4 with fail
      clear q1 q2 hcell
      go_wp2
      go_roundw
      case rel => exact ⟨i + 1, t, by go_num, rfl, by omega, HT.out.2, Lib.hid HT.out.1, by first | rfl | trivial⟩
      case measure => simp [intOf]; omega
    · have hii : ¬ (i : Int) < (cn : Int) := by omega
      have HE : Hid (s = an + 1 + OL.pts C) := Lib.hid (by
        have h := HS.out
        rw [List.take_of_length_le (by rw [HLN.out.1]; omega)] at h
        exact h)
      clear hin
      go_wp2
      go_ret
      refine ⟨?_, HB1.out⟩
      show Ending.returned (Value.int .i64 (s : Int)) = _
      rw [HE.out]
      try first | rfl | simp
set_option maxHeartbeats 4000000 in
theorem rcontours_any (W : World) (v : Value) (G : Gl) (hv : GlAt W v G) (hok : GlOk G) :
    Calls Try.prog 77 #[v] W fun e w' => e = .returned (.bool (OL.contours G.cs)) ∧ Below W.heap.size W w' := by
  obtain ⟨C, A, ⟨hc, hx, hy⟩, ad, D, P⟩ := G
  obtain ⟨vc, va, vd, vp, rfl, h1, h2, h3, h4⟩ := hv
  dsimp only at h1 h2 h3 h4 ⊢
  obtain ⟨ca, ck, rfl⟩ := h1.shape
  obtain ⟨aa, ak, rfl⟩ := h2.shape
  obtain ⟨da, dk, rfl⟩ := h3.shape
  obtain ⟨cn, hcn⟩ : ∃ cn, C.length = cn := ⟨_, rfl⟩
  obtain ⟨an, han⟩ : ∃ an, A.length = an := ⟨_, rfl⟩
  obtain ⟨dn, hdn⟩ : ∃ dn, D.length = dn := ⟨_, rfl⟩
  rw [hcn] at h1 ⊢
  rw [han] at h2 ⊢
  rw [hdn] at h3 ⊢
  have HCS := Lib.hid h1
  have HAN := Lib.hid h2
  have HDS := Lib.hid h3
  have HLN : Hid (C.length = cn ∧ A.length = an ∧ D.length = dn) := Lib.hid ⟨hcn, han, hdn⟩
  have HBD : Hid ((cn ≤ 1000 ∧ an ≤ 1000 ∧ dn ≤ 1000) ∧ CsOk C ∧ ∀ d ∈ D, d.m.length ≤ 1000) := Lib.hid ⟨⟨by have := hok.cs.n; dsimp only at this; omega, by have := hok.an; dsimp only at this; omega, by have := hok.ds; dsimp only at this; omega⟩, hok.cs, hok.mv⟩
  clear h1 h2 h3 h4 hok hcn han hdn
  obtain ⟨B, hB⟩ : ∃ B, W.heap.size = B := ⟨_, rfl⟩
  have hx1 := heap_alloc_new W (.cells #[.slice ca cn ck, .slice aa an ak, .int .i64 hc, .int .i64 hx, .int .i64 hy, .int .i64 ad, .slice da dn dk, vp] 34)
  have hb1 := balloc (Below.refl _ W) (.cells #[.slice ca cn ck, .slice aa an ak, .int .i64 hc, .int .i64 hx, .int .i64 hy, .int .i64 ad, .slice da dn dk, vp] 34)
  obtain ⟨w1, hw1⟩ : ∃ w1, W.alloc (.cells #[.slice ca cn ck, .slice aa an ak, .int .i64 hc, .int .i64 hx, .int .i64 hy, .int .i64 ad, .slice da dn dk, vp] 34) = w1 := ⟨_, rfl⟩
  rw [hw1, hB] at hx1
  rw [hw1] at hb1
  have HB1 := Lib.hid hb1
  have HX1 := Lib.hid hx1
  have HKX : Hid (∀ U, Below w1.heap.size w1 U → U.cell? ⟨B, 0, none⟩ = some (.slice ca cn ck) ∧ U.cell? ⟨B, 1, none⟩ = some (.slice aa an ak) ∧ U.cell? ⟨B, 2, none⟩ = some (.int .i64 hc) ∧ U.cell? ⟨B, 3, none⟩ = some (.int .i64 hx) ∧ U.cell? ⟨B, 4, none⟩ = some (.int .i64 hy) ∧ U.cell? ⟨B, 5, none⟩ = some (.int .i64 ad) ∧ U.cell? ⟨B, 6, none⟩ = some (.slice da dn dk) ∧ U.cell? ⟨B, 7, none⟩ = some (vp)) := Lib.hid fun U hU => by
    have h1 := (hU.block B (Array.getElem?_eq_some_iff.1 HX1.out).1).trans HX1.out
    exact ⟨nd_cell h1 rfl, nd_cell h1 rfl, nd_cell h1 rfl, nd_cell h1 rfl, nd_cell h1 rfl, nd_cell h1 rfl, nd_cell h1 rfl, nd_cell h1 rfl⟩
  obtain ⟨x0, x1, x2, x3, x4, x5, x6, x7⟩ := HKX.out w1 (Below.refl _ _)
  clear hx1 hb1
  go_enter Try.func77, Try.ntmps77
  go_upto_region 1 with fail
  try rw [hw1]
  try rw [hB]
  clear hw1 hB
  go_upto_region 2 with fail
  go_loopw [3] (fun v wr => ∃ i : Nat, v = .int .i64 (i : Int) ∧ i ≤ cn ∧ Hid (∀ (j : Nat) (c : List Pt), j < i → C[j]? = some c → OL.ctr c = true) ∧ Hid (Below w1.heap.size w1 wr)) (fun v _ => cn - (intOf v).toNat)
  case atStart => exact ⟨0, rfl, Nat.zero_le _, Lib.hid (fun j x hj => absurd hj (Nat.not_lt_zero _)), Lib.hid (Below.refl _ _)⟩
  case round =>
    clear x0 x1 x2 x3 x4 x5 x6 x7
    obtain ⟨i, rfl, hi, HY, HB⟩ := hrel
    obtain ⟨x0, x1, x2, x3, x4, x5, x6, x7⟩ := HKX.out wr HB.out
    by_cases hin : i < cn
    · have hii : (i : Int) < (cn : Int) := by omega
      have hi0 : (0 : Int) ≤ (i : Int) := by omega
      have hi9 : i < 1000 := by have := HBD.out.1; omega
      obtain ⟨c, hc'⟩ : ∃ c, C[i]? = some c := ⟨_, List.getElem?_eq_getElem (by rw [HLN.out.1]; exact hin)⟩
      obtain ⟨g, o, pa, pk, rfl, hg, hcell, hpt⟩ := (HCS.out.keep (bnext HB1.out HB.out)).cell hc'
      have hcm := HBD.out.2.1.m c (List.mem_of_getElem? hc')
      obtain ⟨m, hm⟩ : ∃ m, c.length = m := ⟨_, rfl⟩
      have HM := Lib.hid hm
      rw [hm] at hcell hpt hcm
      have HPT := Lib.hid hpt
      have HCI := Lib.hid hc'
      clear hc' hg hm hpt
      by_cases h3 : 3 ≤ m
      · have h3' : ¬ (m : Int) < 3 := by omega
        have HM3 := Lib.hid h3
        clear h3
        go_upto_region 8 with fail
        obtain ⟨wo, hwo⟩ : ∃ wo, wo = wr := ⟨_, rfl⟩
        subst hwo
        clear hcell h3' x0 x1 x2 x3 x4 x5 x6 x7
        go_loopw [5] (fun v wr => ∃ j : Nat, v = .int .i64 (j : Int) ∧ j ≤ m ∧ Hid (∀ (q : Nat) (p : Pt), q < j → c[q]? = some p → (OL.co p.x && OL.co p.y) = true) ∧ Hid (Below wo.heap.size wo wr)) (fun v _ => m - (intOf v).toNat)
        case atStart => exact ⟨0, rfl, Nat.zero_le _, Lib.hid (fun j x hj => absurd hj (Nat.not_lt_zero _)), Lib.hid (Below.refl _ _)⟩
        case round =>
          obtain ⟨j, rfl, hj, HYI, HBI⟩ := hrel
          by_cases hjm : j < m
          · have hjj : (j : Int) < (m : Int) := by omega
            have hj0 : (0 : Int) ≤ (j : Int) := by omega
            obtain ⟨p, hp⟩ : ∃ p, c[j]? = some p := ⟨_, List.getElem?_eq_getElem (by rw [HM.out]; exact hjm)⟩
            obtain ⟨wd, hwd⟩ : ∃ wd, wr.drew = wd := ⟨_, rfl⟩
            have HWD := Lib.hid hwd
            have hbd : Below wr.heap.size wr wd := by rw [← hwd]; exact Below.drew (Below.refl _ wr)
            have HBI2 := Lib.hid (bnext HBI.out hbd)
            obtain ⟨g2, o2, rfl, hg2, k0, k1, k2⟩ := (HPT.out.keep HBI2.out).cell hp
            have HKS := Lib.hid (And.intro k0 k1)
            have HPJ := Lib.hid hp
            clear hp hg2 hwd hbd k0 k1 k2
            have hct := fun U => rplaced_any U p.x p.y
            obtain ⟨r, hr⟩ : ∃ r, (OL.co p.x && OL.co p.y) = r := ⟨_, rfl⟩
            simp only [hr] at hct
            have HR := Lib.hid hr
            have HC := Lib.hid hct
            clear hr hct
            go_upto_region 10 with fail
            refine wp_region_held_drew (S := (fun U => U.cell? ⟨g2, o2 + j * 3, none⟩ = some (.int .i64 p.x) ∧ U.cell? ⟨g2, o2 + j * 3 + 1, none⟩ = some (.int .i64 p.y))) (by kernel_rfl) ?_ (fun hHeld => ?_)
            · (rw [HWD.out]; exact HKS.out)
            rw [HWD.out] at hHeld ⊢
            refine wpAnyH_take (i := 0) (oi := { dst := some 27, op := Op.move (Operand.tmp 4), type := 53, pos := "ref.go:33", after := #[], guard := none }) (v := ?_) rfl (by kernel_rfl) (by kernel_rfl) (by kernel_rfl) (fun _ _ _ h => h) (Or.inl ⟨by rfl, ?_⟩) (by assumption) ?_
            rotate_left
            · ((intro w hSw; (try dsimp only at hSw); go_simp; (try rw [if_neg (by omega)])); try with_reducible rfl)
            (try simp only [Act.put, List.setIfInBounds_toArray, List.set_cons_zero, List.set_cons_succ])
            refine wpAnyH_take (i := 1) (oi := { dst := some 28, op := Op.move (Operand.tmp 5), type := 3, pos := "ref.go:33", after := #[], guard := none }) (v := ?_) rfl (by kernel_rfl) (by kernel_rfl) (by kernel_rfl) (fun _ _ _ h => h) (Or.inl ⟨by rfl, ?_⟩) (by assumption) ?_
            rotate_left
            · ((intro w hSw; (try dsimp only at hSw); go_simp; (try rw [if_neg (by omega)])); try with_reducible rfl)
            (try simp only [Act.put, List.setIfInBounds_toArray, List.set_cons_zero, List.set_cons_succ])
            refine wpAnyH_take (i := 2) (oi := { dst := some 29, op := Op.indexAddr 53 (Operand.tmp 27) (Operand.tmp 28), type := 0, pos := "ref.go:33", after := #[{ on := 0, ground := Ground.data }, { on := 1, ground := Ground.data }], guard := none }) (v := ?_) rfl (by kernel_rfl) (by kernel_rfl) (by kernel_rfl) (fun _ _ _ h => h) (Or.inl ⟨by rfl, ?_⟩) (by assumption) ?_
            rotate_left
            · ((intro w hSw; (try dsimp only at hSw); go_simp; (try rw [if_neg (by omega)])); try with_reducible rfl)
            (try simp only [Act.put, List.setIfInBounds_toArray, List.set_cons_zero, List.set_cons_succ])
            refine wpAnyH_take (i := 3) (oi := { dst := some 30, op := Op.fieldAddr 81 (Operand.tmp 29) 0, type := 0, pos := "ref.go:33", after := #[{ on := 2, ground := Ground.data }], guard := none }) (v := ?_) rfl (by kernel_rfl) (by kernel_rfl) (by kernel_rfl) (fun _ _ _ h => h) (Or.inl ⟨by rfl, ?_⟩) (by assumption) ?_
            rotate_left
            · ((intro w hSw; (try dsimp only at hSw); go_simp; (try rw [if_neg (by omega)])); try with_reducible rfl)
            (try simp only [Act.put, List.setIfInBounds_toArray, List.set_cons_zero, List.set_cons_succ])
            refine wpAnyH_take (i := 4) (oi := { dst := some 31, op := Op.load 3 (Operand.tmp 30), type := 3, pos := "ref.go:33", after := #[{ on := 3, ground := Ground.data }], guard := none }) (v := ?_) rfl (by kernel_rfl) (by kernel_rfl) (by kernel_rfl) (fun _ _ _ h => h) (Or.inl ⟨by rfl, ?_⟩) (by assumption) ?_
            rotate_left
            · ((intro w hSw; (try dsimp only at hSw); go_simp; (try rw [if_neg (by omega)])); try with_reducible rfl)
            (try simp only [Act.put, List.setIfInBounds_toArray, List.set_cons_zero, List.set_cons_succ])
            refine wpAnyH_take (i := 5) (oi := { dst := some 32, op := Op.move (Operand.tmp 4), type := 53, pos := "ref.go:33", after := #[], guard := none }) (v := ?_) rfl (by kernel_rfl) (by kernel_rfl) (by kernel_rfl) (fun _ _ _ h => h) (Or.inl ⟨by rfl, ?_⟩) (by assumption) ?_
            rotate_left
            · ((intro w hSw; (try dsimp only at hSw); go_simp; (try rw [if_neg (by omega)])); try with_reducible rfl)
            (try simp only [Act.put, List.setIfInBounds_toArray, List.set_cons_zero, List.set_cons_succ])
            refine wpAnyH_take (i := 6) (oi := { dst := some 33, op := Op.move (Operand.tmp 5), type := 3, pos := "ref.go:33", after := #[], guard := none }) (v := ?_) rfl (by kernel_rfl) (by kernel_rfl) (by kernel_rfl) (fun _ _ _ h => h) (Or.inl ⟨by rfl, ?_⟩) (by assumption) ?_
            rotate_left
            · ((intro w hSw; (try dsimp only at hSw); go_simp; (try rw [if_neg (by omega)])); try with_reducible rfl)
            (try simp only [Act.put, List.setIfInBounds_toArray, List.set_cons_zero, List.set_cons_succ])
            refine wpAnyH_take (i := 7) (oi := { dst := some 34, op := Op.indexAddr 53 (Operand.tmp 32) (Operand.tmp 33), type := 0, pos := "ref.go:33", after := #[{ on := 5, ground := Ground.data }, { on := 6, ground := Ground.data }], guard := none }) (v := ?_) rfl (by kernel_rfl) (by kernel_rfl) (by kernel_rfl) (fun _ _ _ h => h) (Or.inl ⟨by rfl, ?_⟩) (by assumption) ?_
            rotate_left
            · ((intro w hSw; (try dsimp only at hSw); go_simp; (try rw [if_neg (by omega)])); try with_reducible rfl)
            (try simp only [Act.put, List.setIfInBounds_toArray, List.set_cons_zero, List.set_cons_succ])
            refine wpAnyH_take (i := 8) (oi := { dst := some 35, op := Op.fieldAddr 81 (Operand.tmp 34) 1, type := 0, pos := "ref.go:33", after := #[{ on := 7, ground := Ground.data }], guard := none }) (v := ?_) rfl (by kernel_rfl) (by kernel_rfl) (by kernel_rfl) (fun _ _ _ h => h) (Or.inl ⟨by rfl, ?_⟩) (by assumption) ?_
            rotate_left
            · ((intro w hSw; (try dsimp only at hSw); go_simp; (try rw [if_neg (by omega)])); try with_reducible rfl)
            (try simp only [Act.put, List.setIfInBounds_toArray, List.set_cons_zero, List.set_cons_succ])
            refine wpAnyH_take (i := 9) (oi := { dst := some 36, op := Op.load 3 (Operand.tmp 35), type := 3, pos := "ref.go:33", after := #[{ on := 8, ground := Ground.data }], guard := none }) (v := ?_) rfl (by kernel_rfl) (by kernel_rfl) (by kernel_rfl) (fun _ _ _ h => h) (Or.inl ⟨by rfl, ?_⟩) (by assumption) ?_
            rotate_left
            · ((intro w hSw; (try dsimp only at hSw); go_simp; (try rw [if_neg (by omega)])); try with_reducible rfl)
            (try simp only [Act.put, List.setIfInBounds_toArray, List.set_cons_zero, List.set_cons_succ])
            refine wpAnyH_ready (rs := [10]) (by kernel_rfl) (by simp) ?_
            refine AllReadyH.cons (o := { dst := some 37, op := Op.call { callee := Callee.value (Operand.func 98), args := #[Operand.tmp 31, Operand.tmp 36], argTypes := #[3, 3] }, type := 4, pos := "ref.go:33", after := #[{ on := 4, ground := Ground.data }, { on := 9, ground := Ground.data }], guard := none }) rfl (fun K hK => ?_) ?_
            · (go_simp; go_at_call 98; refine (HC.out _).mono ?_; rintro u wz ⟨rfl, he⟩; have he' := he.symm; subst he'; dsimp only)
              refine hK.out _ _ ?_ (fun hHeld => ?_)
              · exact HKS.out
              clear hK K
              (try simp only [Act.put, List.setIfInBounds_toArray, List.set_cons_zero, List.set_cons_succ])
              refine wpAnyH_take (i := 11) (oi := { dst := some 38, op := Op.unOp UnOp.not 4 (Operand.tmp 37), type := 4, pos := "ref.go:33", after := #[{ on := 10, ground := Ground.data }], guard := none }) (v := ?_) rfl (by kernel_rfl) (by kernel_rfl) (by kernel_rfl) (fun _ _ _ h => h) (Or.inl ⟨by rfl, ?_⟩) (by assumption) ?_
              rotate_left
              · ((intro w hSw; (try dsimp only at hSw); go_simp; (try rw [if_neg (by omega)])); try with_reducible rfl)
              (try simp only [Act.put, List.setIfInBounds_toArray, List.set_cons_zero, List.set_cons_succ])
              refine wpAnyH_done (by kernel_rfl) ?_ _
              clear hHeld
              go_simp
              cases r with
              | false =>
                have HNO : Hid (OL.contours C = false) := Lib.hid (OL.all_bad (List.mem_of_getElem? HCI.out) (OL.ctr_bad (List.mem_of_getElem? HPJ.out) HR.out))
                go_wp2
                go_ret
                exact ⟨by rw [HNO.out]; rfl, bnext HB1.out (bnext HB.out HBI2.out)⟩
              | true =>
                go_wp2
                go_roundw
                case rel => exact ⟨j + 1, by go_num, by omega, Lib.hid (OL.upto_next (f := fun p => OL.co p.x && OL.co p.y) HYI.out HPJ.out HR.out), HBI2⟩
                case measure => simp [intOf]; omega
            exact AllReadyH.nil
          · have hjj : ¬ (j : Int) < (m : Int) := by omega
            have HGD : Hid (OL.ctr c = true) := Lib.hid (OL.ctr_good (by rw [HM.out]; exact HM3.out) (fun q p hq hp => HYI.out q p (by have := HM.out; omega) hp))
            clear hjm
            go_wp2
            go_roundw
            case rel => exact ⟨i + 1, by go_num, by omega, Lib.hid (OL.upto_next HY.out HCI.out HGD.out), Lib.hid (bnext HB.out HBI.out)⟩
            case measure => simp [intOf]; omega
      · have h3' : (m : Int) < 3 := by omega
        have HNO : Hid (OL.contours C = false) := Lib.hid (OL.all_bad (List.mem_of_getElem? HCI.out) (OL.ctr_short (by rw [HM.out]; exact h3)))
        clear h3
        go_wp2
        go_ret
        exact ⟨by rw [HNO.out]; rfl, bnext HB1.out HB.out⟩
    · have hii : ¬ (i : Int) < (cn : Int) := by omega
      have HNO : Hid (OL.contours C = true) := Lib.hid (OL.all_good (fun j c hj hc => HY.out j c (by have := HLN.out.1; omega) hc))
      clear hin
      go_wp2
      go_ret
      exact ⟨by rw [HNO.out]; rfl, bnext HB1.out HB.out⟩
end Go.Proofs.Ytanppbdlcinpfaa
end
/- The reference: whether anchors are right. No conditions. -/
section
namespace Go.Proofs.Ytanppbdlcinpfaa
set_option maxRecDepth 100000
set_option linter.unusedVariables false
open Go.RowKit Go.Deep
set_option maxHeartbeats 4000000 in
theorem ranchors_any (W : World) (v : Value) (G : Gl) (hv : GlAt W v G) (hok : GlOk G) :
    Calls Try.prog 78 #[v] W fun e w' => e = .returned (.bool (OL.anchors G.an G.hg)) ∧ Below W.heap.size W w' := by
  obtain ⟨C, A, ⟨hc, hx, hy⟩, ad, D, P⟩ := G
  obtain ⟨vc, va, vd, vp, rfl, h1, h2, h3, h4⟩ := hv
  dsimp only at h1 h2 h3 h4 ⊢
  obtain ⟨ca, ck, rfl⟩ := h1.shape
  obtain ⟨aa, ak, rfl⟩ := h2.shape
  obtain ⟨da, dk, rfl⟩ := h3.shape
  obtain ⟨cn, hcn⟩ : ∃ cn, C.length = cn := ⟨_, rfl⟩
  obtain ⟨an, han⟩ : ∃ an, A.length = an := ⟨_, rfl⟩
  obtain ⟨dn, hdn⟩ : ∃ dn, D.length = dn := ⟨_, rfl⟩
  rw [hcn] at h1 ⊢
  rw [han] at h2 ⊢
  rw [hdn] at h3 ⊢
  have HCS := Lib.hid h1
  have HAN := Lib.hid h2
  have HDS := Lib.hid h3
  have HLN : Hid (C.length = cn ∧ A.length = an ∧ D.length = dn) := Lib.hid ⟨hcn, han, hdn⟩
  have HBD : Hid ((cn ≤ 1000 ∧ an ≤ 1000 ∧ dn ≤ 1000) ∧ CsOk C ∧ ∀ d ∈ D, d.m.length ≤ 1000) := Lib.hid ⟨⟨by have := hok.cs.n; dsimp only at this; omega, by have := hok.an; dsimp only at this; omega, by have := hok.ds; dsimp only at this; omega⟩, hok.cs, hok.mv⟩
  clear h1 h2 h3 h4 hok hcn han hdn
  obtain ⟨B, hB⟩ : ∃ B, W.heap.size = B := ⟨_, rfl⟩
  have hx1 := heap_alloc_new W (.cells #[.slice ca cn ck, .slice aa an ak, .int .i64 hc, .int .i64 hx, .int .i64 hy, .int .i64 ad, .slice da dn dk, vp] 34)
  have hb1 := balloc (Below.refl _ W) (.cells #[.slice ca cn ck, .slice aa an ak, .int .i64 hc, .int .i64 hx, .int .i64 hy, .int .i64 ad, .slice da dn dk, vp] 34)
  obtain ⟨w1, hw1⟩ : ∃ w1, W.alloc (.cells #[.slice ca cn ck, .slice aa an ak, .int .i64 hc, .int .i64 hx, .int .i64 hy, .int .i64 ad, .slice da dn dk, vp] 34) = w1 := ⟨_, rfl⟩
  rw [hw1, hB] at hx1
  rw [hw1] at hb1
  have HB1 := Lib.hid hb1
  have HX1 := Lib.hid hx1
  have HKX : Hid (∀ U, Below w1.heap.size w1 U → U.cell? ⟨B, 0, none⟩ = some (.slice ca cn ck) ∧ U.cell? ⟨B, 1, none⟩ = some (.slice aa an ak) ∧ U.cell? ⟨B, 2, none⟩ = some (.int .i64 hc) ∧ U.cell? ⟨B, 3, none⟩ = some (.int .i64 hx) ∧ U.cell? ⟨B, 4, none⟩ = some (.int .i64 hy) ∧ U.cell? ⟨B, 5, none⟩ = some (.int .i64 ad) ∧ U.cell? ⟨B, 6, none⟩ = some (.slice da dn dk) ∧ U.cell? ⟨B, 7, none⟩ = some (vp)) := Lib.hid fun U hU => by
    have h1 := (hU.block B (Array.getElem?_eq_some_iff.1 HX1.out).1).trans HX1.out
    exact ⟨nd_cell h1 rfl, nd_cell h1 rfl, nd_cell h1 rfl, nd_cell h1 rfl, nd_cell h1 rfl, nd_cell h1 rfl, nd_cell h1 rfl, nd_cell h1 rfl⟩
  obtain ⟨x0, x1, x2, x3, x4, x5, x6, x7⟩ := HKX.out w1 (Below.refl _ _)
  clear hx1 hb1
  go_enter Try.func78, Try.ntmps78
  go_upto_region 1 with fail
  try rw [hw1]
  try rw [hB]
  clear hw1 hB
  go_upto_region 3 with fail
  go_loopw [3, 4] (fun v3 v4 wr => ∃ (i : Nat) (la : Int), v4 = .int .i64 (i : Int) ∧ v3 = .int .i64 la ∧ i ≤ an ∧ Hid (OL.anGo 0 A = OL.anGo la (A.drop i)) ∧ Hid (Below w1.heap.size w1 wr)) (fun v3 v4 _ => an - (intOf v4).toNat)
  case atStart => exact ⟨0, 0, rfl, rfl, Nat.zero_le _, Lib.hid rfl, Lib.hid (Below.refl _ _)⟩
  case round =>
    clear x0 x1 x2 x3 x4 x5 x6 x7
    obtain ⟨i, la, rfl, rfl, hi, HG, HB⟩ := hrel
    obtain ⟨x0, x1, x2, x3, x4, x5, x6, x7⟩ := HKX.out wr HB.out
    by_cases hin : i < an
    · have hii : (i : Int) < (an : Int) := by omega
      have hi0 : (0 : Int) ≤ (i : Int) := by omega
      have hi9 : i < 1000 := by have := HBD.out.1; omega
      obtain ⟨p, hp⟩ : ∃ p, A[i]? = some p := ⟨_, List.getElem?_eq_getElem (by rw [HLN.out.2.1]; exact hin)⟩
      obtain ⟨g, o, rfl, hg, c0, c1, c2⟩ := (HAN.out.keep (bnext HB1.out HB.out)).cell hp
      have hgo := anGo_drop hp la
      rw [← HG.out] at hgo
      have HGO := Lib.hid hgo
      clear hp hg hgo
      have hxn := heap_alloc_new wr (.cells #[.int .i64 0, .int .i64 0, .int .i64 0] 30)
      have hbn := balloc (Below.refl _ wr) (.cells #[.int .i64 0, .int .i64 0, .int .i64 0] 30)
      obtain ⟨X, hX⟩ : ∃ X, wr.heap.size = X := ⟨_, rfl⟩
      obtain ⟨wa, hwa⟩ : ∃ wa, wr.alloc (.cells #[.int .i64 0, .int .i64 0, .int .i64 0] 30) = wa := ⟨_, rfl⟩
      have HXo : Hid (X = wr.heap.size) := Lib.hid hX.symm
      rw [hX, hwa] at hxn
      rw [hwa] at hbn
      have bc0 : wa.cell? ⟨X, 0, none⟩ = some (.int .i64 0) := nd_cell hxn rfl
      have bc1 : wa.cell? ⟨X, 1, none⟩ = some (.int .i64 0) := nd_cell hxn rfl
      have bc2 : wa.cell? ⟨X, 2, none⟩ = some (.int .i64 0) := nd_cell hxn rfl
      have bf0 := nd_froz hxn 0
      have bf1 := nd_froz hxn 1
      have bf2 := nd_froz hxn 2
      obtain ⟨wx, hwx, hxx, hfx⟩ := sto3 hxn (.int .i64 p.c) (.int .i64 p.x) (.int .i64 p.y)
      have HXX := Lib.hid hxx
      have HBX := Lib.hid (hfx.below wr hbn (fun b hb => by rw [hb, HXo.out]; exact Nat.le_refl _))
      clear hxx hfx hbn hxn
      go_upto_region 6 with fail
      try rw [hwx]
      clear bc0 bf0 bc1 bf1 bc2 bf2 hwx hX hwa
      clear c0 c1 c2 x0 x1 x2 x3 x4 x5 x6 x7
      have c0 : wx.cell? ⟨X, 0, none⟩ = some (.int .i64 p.c) := nd_cell HXX.out rfl
      have c1 : wx.cell? ⟨X, 1, none⟩ = some (.int .i64 p.x) := nd_cell HXX.out rfl
      have c2 : wx.cell? ⟨X, 2, none⟩ = some (.int .i64 p.y) := nd_cell HXX.out rfl
      have HBW := Lib.hid (bnext HB1.out (bnext HB.out HBX.out))
      by_cases h1 : p.c ≤ la
      · have HNO : Hid (OL.anchors A ⟨hc, hx, hy⟩ = false) := Lib.hid (by unfold OL.anchors; rw [HGO.out, decide_eq_false (show ¬ la < p.c by omega)]; rfl)
        go_wp2
        go_ret
        exact ⟨by rw [HNO.out]; first | rfl | simp, HBW.out⟩
      · by_cases h2 : 9 < p.c
        · have HNO : Hid (OL.anchors A ⟨hc, hx, hy⟩ = false) := Lib.hid (by unfold OL.anchors; rw [HGO.out, decide_eq_false (show ¬ p.c ≤ 9 by omega)]; simp)
          go_wp2
          go_ret
          exact ⟨by rw [HNO.out]; first | rfl | simp, HBW.out⟩
        · have HC := Lib.hid (rplaced_any wx p.x p.y)
          obtain ⟨r, hr⟩ : ∃ r, (OL.co p.x && OL.co p.y) = r := ⟨_, rfl⟩
          rw [hr] at HC
          have HR := Lib.hid hr
          clear hr
          go_wp2_with fail
          go_at_call 98
          refine HC.out.mono ?_
          rintro e w5 ⟨rfl, he⟩
          have he' := he.symm
          subst he'
          clear HC
          have HGN := Lib.hid (show OL.anGo 0 A = (r && OL.anGo p.c (A.drop (i + 1))) from by
            rw [HGO.out, HR.out, decide_eq_true (show la < p.c by omega), decide_eq_true (show p.c ≤ 9 by omega)]
            simp)
          cases r with
          | false =>
            have HNO : Hid (OL.anchors A ⟨hc, hx, hy⟩ = false) := Lib.hid (by unfold OL.anchors; rw [HGN.out]; rfl)
            go_wp2
            go_ret
            exact ⟨by rw [HNO.out]; first | rfl | simp, HBW.out⟩
          | true =>
            go_wp2
            go_roundw
            case rel => exact ⟨i + 1, p.c, by go_num, rfl, by omega, Lib.hid (by rw [HGN.out]; rfl), Lib.hid (bnext HB.out HBX.out)⟩
            case measure => simp [intOf]; omega
    · have hii : ¬ (i : Int) < (an : Int) := by omega
      have HE : Hid (OL.anchors A ⟨hc, hx, hy⟩ = OL.hang ⟨hc, hx, hy⟩) := Lib.hid (by
        unfold OL.anchors
        rw [HG.out, List.drop_of_length_le (by rw [HLN.out.2.1]; omega)]
        exact Bool.true_and _)
      clear hin
      have hxn := heap_alloc_new wr (.cells #[.int .i64 0, .int .i64 0, .int .i64 0] 30)
      have hbn := balloc (Below.refl _ wr) (.cells #[.int .i64 0, .int .i64 0, .int .i64 0] 30)
      obtain ⟨X, hX⟩ : ∃ X, wr.heap.size = X := ⟨_, rfl⟩
      obtain ⟨wa, hwa⟩ : ∃ wa, wr.alloc (.cells #[.int .i64 0, .int .i64 0, .int .i64 0] 30) = wa := ⟨_, rfl⟩
      have HXo : Hid (X = wr.heap.size) := Lib.hid hX.symm
      rw [hX, hwa] at hxn
      rw [hwa] at hbn
      have bc0 : wa.cell? ⟨X, 0, none⟩ = some (.int .i64 0) := nd_cell hxn rfl
      have bc1 : wa.cell? ⟨X, 1, none⟩ = some (.int .i64 0) := nd_cell hxn rfl
      have bc2 : wa.cell? ⟨X, 2, none⟩ = some (.int .i64 0) := nd_cell hxn rfl
      have bf0 := nd_froz hxn 0
      have bf1 := nd_froz hxn 1
      have bf2 := nd_froz hxn 2
      obtain ⟨wx, hwx, hxx, hfx⟩ := sto3 hxn (.int .i64 hc) (.int .i64 hx) (.int .i64 hy)
      have HXX := Lib.hid hxx
      have HBX := Lib.hid (hfx.below wr hbn (fun b hb => by rw [hb, HXo.out]; exact Nat.le_refl _))
      clear hxx hfx hbn hxn
      go_upto_region 10 with fail
      try rw [hwx]
      clear bc0 bf0 bc1 bf1 bc2 bf2 hwx hX hwa
      clear x0 x1 x2 x3 x4 x5 x6 x7
      have c0 : wx.cell? ⟨X, 0, none⟩ = some (.int .i64 hc) := nd_cell HXX.out rfl
      have c1 : wx.cell? ⟨X, 1, none⟩ = some (.int .i64 hx) := nd_cell HXX.out rfl
      have c2 : wx.cell? ⟨X, 2, none⟩ = some (.int .i64 hy) := nd_cell HXX.out rfl
      have HBW := Lib.hid (bnext HB1.out (bnext HB.out HBX.out))
      have hco0 : OL.co 0 = true := by decide
      by_cases h0 : 0 ≤ hc
      · by_cases h9 : hc ≤ 9
        · have HC := Lib.hid (rplaced_any wx hx hy)
          obtain ⟨r, hr⟩ : ∃ r, (OL.co hx && OL.co hy) = r := ⟨_, rfl⟩
          rw [hr] at HC
          have HR := Lib.hid hr
          clear hr
          go_wp2_with fail
          go_at_call 98
          refine HC.out.mono ?_
          rintro e w5 ⟨rfl, he⟩
          have he' := he.symm
          subst he'
          clear HC
          by_cases hz : hc = 0
          · have hz' : ¬ 0 < hc := by omega
            have hzp : ¬ (0 : Int) < 0 := by omega
            have HH : Hid (OL.anchors A ⟨hc, hx, hy⟩ = decide (hx = 0 ∧ hy = 0)) := Lib.hid (by
              rw [HE.out]
              unfold OL.hang
              rw [if_pos (show (Ac.mk hc hx hy).c = 0 from hz)]
              rw [decide_eq_decide]
              constructor
              · intro h; injection h with _ h2 h3; exact ⟨h2, h3⟩
              · rintro ⟨rfl, rfl⟩; rw [hz])
            clear hz hzp
            by_cases q1 : hx = 0
            · by_cases q2 : hy = 0
              · have HT : Hid (OL.anchors A ⟨hc, hx, hy⟩ = true) := Lib.hid (by rw [HH.out]; exact decide_eq_true ⟨q1, q2⟩)
                have hr1 : r = true := by rw [← HR.out, q1, q2]; decide
                subst hr1
                have q1' : (hx == 0) = true := by rw [beq_iff_eq]; exact q1
                have q2' : (hy == 0) = true := by rw [beq_iff_eq]; exact q2
                clear q1 q2
                go_wp2
                go_ret
                exact ⟨by rw [HT.out]; first | rfl | (simp [q1', q2']; done) | (simp [q1', q2']; omega), HBW.out⟩
              · have HT : Hid (OL.anchors A ⟨hc, hx, hy⟩ = false) := Lib.hid (by rw [HH.out]; exact decide_eq_false (fun h => q2 h.2))
                have q1' : (hx == 0) = true := by rw [beq_iff_eq]; exact q1
                have q2' : (hy == 0) = false := by rw [beq_eq_false_iff_ne]; exact q2
                clear q1 q2
                cases r
                all_goals
                  go_wp2
                  go_ret
                  exact ⟨by rw [HT.out]; first | rfl | (simp [q1', q2']; done) | (simp [q1', q2']; omega), HBW.out⟩
            · have HT : Hid (OL.anchors A ⟨hc, hx, hy⟩ = false) := Lib.hid (by rw [HH.out]; exact decide_eq_false (fun h => q1 h.1))
              have q1' : (hx == 0) = false := by rw [beq_eq_false_iff_ne]; exact q1
              clear q1
              cases r
              all_goals
                go_wp2
                go_ret
                exact ⟨by rw [HT.out]; first | rfl | (simp [q1']; done) | (simp [q1']; omega), HBW.out⟩
          · have hz' : 0 < hc := by omega
            have HT : Hid (OL.anchors A ⟨hc, hx, hy⟩ = r) := Lib.hid (by
              rw [HE.out]
              unfold OL.hang
              rw [if_neg (show ¬ (Ac.mk hc hx hy).c = 0 from hz)]
              dsimp only
              rw [HR.out, decide_eq_true hz', decide_eq_true h9]
              rfl)
            clear hz
            cases r
            all_goals
              go_wp2
              go_ret
              exact ⟨by rw [HT.out]; first | rfl | simp, HBW.out⟩
        · have HNO : Hid (OL.anchors A ⟨hc, hx, hy⟩ = false) := Lib.hid (by
            rw [HE.out]
            unfold OL.hang
            rw [if_neg (show ¬ (Ac.mk hc hx hy).c = 0 from by dsimp only; omega)]
            dsimp only
            rw [decide_eq_false h9]
            simp)
          go_wp2
          go_ret
          exact ⟨by rw [HNO.out]; first | rfl | simp, HBW.out⟩
      · have HNO : Hid (OL.anchors A ⟨hc, hx, hy⟩ = false) := Lib.hid (by
          rw [HE.out]
          unfold OL.hang
          rw [if_neg (show ¬ (Ac.mk hc hx hy).c = 0 from by dsimp only; omega)]
          dsimp only
          rw [decide_eq_false (show ¬ 0 < hc by omega)]
          rfl)
        go_wp2
        go_ret
        exact ⟨by rw [HNO.out]; first | rfl | simp, HBW.out⟩
end Go.Proofs.Ytanppbdlcinpfaa
end
/- The reference: whether deltas are right. No conditions. -/
section
namespace Go.Proofs.Ytanppbdlcinpfaa
set_option maxRecDepth 100000
set_option linter.unusedVariables false
open Go.RowKit Go.Deep
set_option maxHeartbeats 4000000 in
theorem rdeltas_any (W : World) (v : Value) (G : Gl) (reg : Int) (hv : GlAt W v G) (hok : GlOk G) :
    Calls Try.prog 79 #[v, .int .i64 reg] W fun e w' => e = .returned (.bool (OL.dsGo reg (OL.points G) G.hg.c (-1) G.ds)) ∧ Below W.heap.size W w' := by
  obtain ⟨C, A, ⟨hc, hx, hy⟩, ad, D, P⟩ := G
  obtain ⟨vc, va, vd, vp, rfl, h1, h2, h3, h4⟩ := hv
  dsimp only at h1 h2 h3 h4 ⊢
  obtain ⟨ca, ck, rfl⟩ := h1.shape
  obtain ⟨aa, ak, rfl⟩ := h2.shape
  obtain ⟨da, dk, rfl⟩ := h3.shape
  obtain ⟨cn, hcn⟩ : ∃ cn, C.length = cn := ⟨_, rfl⟩
  obtain ⟨an, han⟩ : ∃ an, A.length = an := ⟨_, rfl⟩
  obtain ⟨dn, hdn⟩ : ∃ dn, D.length = dn := ⟨_, rfl⟩
  rw [hcn] at h1 ⊢
  rw [han] at h2 ⊢
  rw [hdn] at h3 ⊢
  have h1' := h1
  have h2' := h2
  have h3' := h3
  have HCS := Lib.hid h1
  have HAN := Lib.hid h2
  have HDS := Lib.hid h3
  have HLN : Hid (C.length = cn ∧ A.length = an ∧ D.length = dn) := Lib.hid ⟨hcn, han, hdn⟩
  have HBD : Hid ((cn ≤ 1000 ∧ an ≤ 1000 ∧ dn ≤ 1000) ∧ CsOk C ∧ ∀ d ∈ D, d.m.length ≤ 1000) := Lib.hid ⟨⟨by have := hok.cs.n; dsimp only at this; omega, by have := hok.an; dsimp only at this; omega, by have := hok.ds; dsimp only at this; omega⟩, hok.cs, hok.mv⟩
  have HGL : Hid (∀ U, Below W.heap.size W U → Calls Try.prog 24 #[.agg #[.slice ca cn ck, .slice aa an ak, .int .i64 hc, .int .i64 hx, .int .i64 hy, .int .i64 ad, .slice da dn dk, vp]] U fun e w' => e = .returned (.int .i64 (OL.points ⟨C, A, ⟨hc, hx, hy⟩, ad, D, P⟩ : Int)) ∧ Below U.heap.size U w') := Lib.hid (fun U hU => rpoints_any U _ ⟨C, A, ⟨hc, hx, hy⟩, ad, D, P⟩ ⟨_, _, _, _, rfl, h1'.keep hU, h2'.keep hU, h3'.keep hU, h4.keep hU⟩ hok)
  obtain ⟨np, hnp⟩ : ∃ np, OL.points ⟨C, A, ⟨hc, hx, hy⟩, ad, D, P⟩ = np := ⟨_, rfl⟩
  have HNB : Hid (1 ≤ np ∧ np ≤ 10000000) := Lib.hid (by
    have hpb := OL.pts_bd hok.cs C.length
    rw [List.take_length] at hpb
    have h5 := hok.cs.n
    have h6 := hok.an
    dsimp only at h5 h6 hpb
    rw [← hnp]
    unfold OL.points
    dsimp only
    omega)
  rw [hnp] at HGL ⊢
  clear hnp h1' h2' h3'
  clear h1 h2 h3 h4 hok hcn han hdn
  obtain ⟨B, hB⟩ : ∃ B, W.heap.size = B := ⟨_, rfl⟩
  have hx1 := heap_alloc_new W (.cells #[.slice ca cn ck, .slice aa an ak, .int .i64 hc, .int .i64 hx, .int .i64 hy, .int .i64 ad, .slice da dn dk, vp] 34)
  have hb1 := balloc (Below.refl _ W) (.cells #[.slice ca cn ck, .slice aa an ak, .int .i64 hc, .int .i64 hx, .int .i64 hy, .int .i64 ad, .slice da dn dk, vp] 34)
  obtain ⟨w1, hw1⟩ : ∃ w1, W.alloc (.cells #[.slice ca cn ck, .slice aa an ak, .int .i64 hc, .int .i64 hx, .int .i64 hy, .int .i64 ad, .slice da dn dk, vp] 34) = w1 := ⟨_, rfl⟩
  rw [hw1, hB] at hx1
  rw [hw1] at hb1
  have HB1 := Lib.hid hb1
  have HX1 := Lib.hid hx1
  have HKX : Hid (∀ U, Below w1.heap.size w1 U → U.cell? ⟨B, 0, none⟩ = some (.slice ca cn ck) ∧ U.cell? ⟨B, 1, none⟩ = some (.slice aa an ak) ∧ U.cell? ⟨B, 2, none⟩ = some (.int .i64 hc) ∧ U.cell? ⟨B, 3, none⟩ = some (.int .i64 hx) ∧ U.cell? ⟨B, 4, none⟩ = some (.int .i64 hy) ∧ U.cell? ⟨B, 5, none⟩ = some (.int .i64 ad) ∧ U.cell? ⟨B, 6, none⟩ = some (.slice da dn dk) ∧ U.cell? ⟨B, 7, none⟩ = some (vp)) := Lib.hid fun U hU => by
    have h1 := (hU.block B (Array.getElem?_eq_some_iff.1 HX1.out).1).trans HX1.out
    exact ⟨nd_cell h1 rfl, nd_cell h1 rfl, nd_cell h1 rfl, nd_cell h1 rfl, nd_cell h1 rfl, nd_cell h1 rfl, nd_cell h1 rfl, nd_cell h1 rfl⟩
  obtain ⟨x0, x1, x2, x3, x4, x5, x6, x7⟩ := HKX.out w1 (Below.refl _ _)
  clear hx1 hb1
  go_enter Try.func79, Try.ntmps79
  go_upto_region 1 with fail
  try rw [hw1]
  try rw [hB]
  clear hw1 hB
  have HC := Lib.hid (HGL.out w1 HB1.out)
  go_upto_region 2 with fail
  go_wp2_with fail
  go_at_call 24
  refine HC.out.mono ?_
  rintro e w2 ⟨rfl, k2⟩
  have HK2 := Lib.hid k2
  clear HC k2 x0 x1 x2 x3 x4 x5 x6 x7
  obtain ⟨x0, x1, x2, x3, x4, x5, x6, x7⟩ := HKX.out w2 HK2.out
  go_upto_region 4 with fail
  go_loopw [5, 7] (fun v5 v7 wr => ∃ (i : Nat) (la : Int), v7 = .int .i64 (i : Int) ∧ v5 = .int .i64 la ∧ i ≤ dn ∧ Hid (OL.dsGo reg np hc (-1) D = OL.dsGo reg np hc la (D.drop i)) ∧ Hid (Below w2.heap.size w2 wr)) (fun v5 v7 _ => dn - (intOf v7).toNat)
  case atStart => exact ⟨0, -1, rfl, rfl, Nat.zero_le _, Lib.hid rfl, Lib.hid (Below.refl _ _)⟩
  case round =>
    clear x0 x1 x2 x3 x4 x5 x6 x7
    obtain ⟨i, la, rfl, rfl, hi, HG, HB⟩ := hrel
    obtain ⟨x0, x1, x2, x3, x4, x5, x6, x7⟩ := HKX.out wr (bnext HK2.out HB.out)
    by_cases hin : i < dn
    · have hii : (i : Int) < (dn : Int) := by omega
      have hi0 : (0 : Int) ≤ (i : Int) := by omega
      have hi9 : i < 1000 := by have := HBD.out.1; omega
      obtain ⟨d, hd⟩ : ∃ d, D[i]? = some d := ⟨_, List.getElem?_eq_getElem (by rw [HLN.out.2.2]; exact hin)⟩
      obtain ⟨g, o, ma, mk, rfl, hg, c0, c1, c2, hmv⟩ := (HDS.out.keep (bnext HB1.out (bnext HK2.out HB.out))).cell hd
      have hgo := dsGo_drop hd reg np hc la
      rw [← HG.out] at hgo
      have HGO := Lib.hid hgo
      have hml := HBD.out.2.2 d (List.mem_of_getElem? hd)
      obtain ⟨m, hm⟩ : ∃ m, d.m.length = m := ⟨_, rfl⟩
      have HM := Lib.hid (And.intro hm (show m ≤ 1000 by omega))
      rw [hm] at c2 hmv
      have HMV := Lib.hid hmv
      clear hd hg hgo hml hm hmv
      have hxn := heap_alloc_new wr (.cells #[.int .i64 0, .int .i64 0, .slice none 0 0] 70)
      have hbn := balloc (Below.refl _ wr) (.cells #[.int .i64 0, .int .i64 0, .slice none 0 0] 70)
      obtain ⟨X, hX⟩ : ∃ X, wr.heap.size = X := ⟨_, rfl⟩
      obtain ⟨wa, hwa⟩ : ∃ wa, wr.alloc (.cells #[.int .i64 0, .int .i64 0, .slice none 0 0] 70) = wa := ⟨_, rfl⟩
      have HXo : Hid (X = wr.heap.size) := Lib.hid hX.symm
      rw [hX, hwa] at hxn
      rw [hwa] at hbn
      have bc0 : wa.cell? ⟨X, 0, none⟩ = some (.int .i64 0) := nd_cell hxn rfl
      have bc1 : wa.cell? ⟨X, 1, none⟩ = some (.int .i64 0) := nd_cell hxn rfl
      have bc2 : wa.cell? ⟨X, 2, none⟩ = some (.slice none 0 0) := nd_cell hxn rfl
      have bf0 := nd_froz hxn 0
      have bf1 := nd_froz hxn 1
      have bf2 := nd_froz hxn 2
      obtain ⟨wx, hwx, hxx, hfx⟩ := sto3 hxn (.int .i64 d.r) (.int .i64 d.a) (.slice ma m mk)
      have HXX := Lib.hid hxx
      have HBX := Lib.hid (hfx.below wr hbn (fun b hb => by rw [hb, HXo.out]; exact Nat.le_refl _))
      clear hxx hfx hbn hxn
      go_upto_region 7 with fail
      try rw [hwx]
      clear bc0 bf0 bc1 bf1 bc2 bf2 hwx hX hwa
      clear c0 c1 c2 x0 x1 x2 x3 x4 x5 x6 x7
      have c0 : wx.cell? ⟨X, 0, none⟩ = some (.int .i64 d.r) := nd_cell HXX.out rfl
      have c1 : wx.cell? ⟨X, 1, none⟩ = some (.int .i64 d.a) := nd_cell HXX.out rfl
      have c2 : wx.cell? ⟨X, 2, none⟩ = some (.slice ma m mk) := nd_cell HXX.out rfl
      have HBO := Lib.hid (bnext HB.out HBX.out)
      have HBW := Lib.hid (bnext HB1.out (bnext HK2.out HBO.out))
      by_cases h1 : d.r ≤ la
      · have HNO : Hid (OL.dsGo reg np hc (-1) D = false) := Lib.hid (by rw [HGO.out]; unfold OL.delta; rw [decide_eq_false (show ¬ la < d.r by omega)]; simp)
        go_wp2
        go_ret
        exact ⟨by rw [HNO.out]; first | rfl | simp, HBW.out⟩
      · by_cases h2 : reg ≤ d.r
        · have HNO : Hid (OL.dsGo reg np hc (-1) D = false) := Lib.hid (by rw [HGO.out]; unfold OL.delta; rw [decide_eq_false (show ¬ d.r < reg by omega)]; simp)
          go_wp2
          go_ret
          exact ⟨by rw [HNO.out]; first | rfl | simp, HBW.out⟩
        · have HC := Lib.hid (fun U => rmo_any U d.a)
          obtain ⟨r, hr⟩ : ∃ r, OL.mo d.a = r := ⟨_, rfl⟩
          simp only [hr] at HC
          have HR := Lib.hid hr
          clear hr
          go_wp2_with fail
          go_at_call 99
          refine (HC.out _).mono ?_
          rintro e w5 ⟨rfl, he⟩
          have he' := he.symm
          subst he'
          clear HC
          have HL := Lib.hid (And.intro (show la < d.r by omega) (show d.r < reg by omega))
          cases r with
          | false =>
            have HNO : Hid (OL.dsGo reg np hc (-1) D = false) := Lib.hid (by rw [HGO.out]; unfold OL.delta; rw [HR.out]; simp)
            go_wp2
            go_ret
            exact ⟨by rw [HNO.out]; first | rfl | simp, HBW.out⟩
          | true =>
            by_cases h4 : m = np
            · subst h4
              clear h1 h2
              go_upto_region 11 with fail
              clear c0 c1
              obtain ⟨wo, hwo⟩ : ∃ wo, wo = wx := ⟨_, rfl⟩
              go_loopw [9] (fun v wr => ∃ j : Nat, v = .int .i64 (j : Int) ∧ j ≤ m ∧ Hid (∀ (q : Nat) (p : Int × Int), q < j → d.m[q]? = some p → (OL.mo p.1 && OL.mo p.2) = true) ∧ wr = wx) (fun v _ => m - (intOf v).toNat)
              case atStart => exact ⟨0, rfl, Nat.zero_le _, Lib.hid (fun j x hj => absurd hj (Nat.not_lt_zero _)), rfl⟩
              case round =>
                obtain ⟨j, rfl, hj, HYI, hwr⟩ := hrel
                have hwr' := hwr
                subst hwr'
                clear hwr
                by_cases hjm : j < m
                · have hjj : (j : Int) < (m : Int) := by omega
                  have hj0 : (0 : Int) ≤ (j : Int) := by omega
                  have hj9 : j < 10000000 := by have := HNB.out; omega
                  obtain ⟨⟨px, py⟩, hp⟩ : ∃ p, d.m[j]? = some p := ⟨_, List.getElem?_eq_getElem (by rw [HM.out.1]; exact hjm)⟩
                  obtain ⟨g2, o2, rfl, hg2, k0, k1⟩ := (HMV.out.keep HBX.out).cell hp
                  have HPJ := Lib.hid hp
                  dsimp only at k0 k1
                  clear hp hg2
                  have HC := Lib.hid (fun U => rmo_any U px)
                  obtain ⟨r2, hr⟩ : ∃ r2, OL.mo px = r2 := ⟨_, rfl⟩
                  simp only [hr] at HC
                  have HR2 := Lib.hid hr
                  clear hr
                  go_wp2_with fail
                  go_at_call 99
                  refine (HC.out _).mono ?_
                  rintro e w5 ⟨rfl, he⟩
                  have he' := he.symm
                  subst he'
                  clear HC
                  cases r2 with
                  | false =>
                    have HNO : Hid (OL.dsGo reg m hc (-1) D = false) := Lib.hid (by rw [HGO.out]; unfold OL.delta; rw [OL.all_bad (f := fun p : Int × Int => OL.mo p.1 && OL.mo p.2) (List.mem_of_getElem? HPJ.out) (by dsimp only; rw [HR2.out]; simp)]; simp)
                    go_wp2
                    go_ret
                    exact ⟨by rw [HNO.out]; first | rfl | simp, HBW.out⟩
                  | true =>
                    have HC := Lib.hid (fun U => rmo_any U py)
                    obtain ⟨r3, hr⟩ : ∃ r3, OL.mo py = r3 := ⟨_, rfl⟩
                    simp only [hr] at HC
                    have HR3 := Lib.hid hr
                    clear hr
                    go_wp2_with fail
                    go_at_call 99
                    refine (HC.out _).mono ?_
                    rintro e w5 ⟨rfl, he⟩
                    have he' := he.symm
                    subst he'
                    clear HC
                    cases r3 with
                    | false =>
                      have HNO : Hid (OL.dsGo reg m hc (-1) D = false) := Lib.hid (by rw [HGO.out]; unfold OL.delta; rw [OL.all_bad (f := fun p : Int × Int => OL.mo p.1 && OL.mo p.2) (List.mem_of_getElem? HPJ.out) (by dsimp only; rw [HR3.out]; simp)]; simp)
                      go_wp2
                      go_ret
                      exact ⟨by rw [HNO.out]; first | rfl | simp, HBW.out⟩
                    | true =>
                      clear k0 k1
                      go_wp2
                      go_roundw
                      case rel => exact ⟨j + 1, by go_num, by omega, Lib.hid (OL.upto_next (f := fun p : Int × Int => OL.mo p.1 && OL.mo p.2) HYI.out HPJ.out (by dsimp only; rw [HR2.out, HR3.out]; rfl)), by first | rfl | trivial⟩
                      case measure => simp [intOf]; omega
                · have hjj : ¬ (j : Int) < (m : Int) := by omega
                  have HAL : Hid (d.m.all (fun p => OL.mo p.1 && OL.mo p.2) = true) := Lib.hid (OL.all_good (fun q p hq hp => HYI.out q p (by have := HM.out.1; omega) hp))
                  have hxb := ((bnext HK2.out HBO.out).block B (Array.getElem?_eq_some_iff.1 HX1.out).1).trans HX1.out
                  have c3 : wr.cell? ⟨B, 2, none⟩ = some (.int .i64 hc) := nd_cell hxb rfl
                  obtain ⟨m1, hm1⟩ : ∃ m1, m - 1 = m1 := ⟨_, rfl⟩
                  obtain ⟨⟨px, py⟩, hp⟩ : ∃ p, d.m[m1]? = some p := ⟨_, List.getElem?_eq_getElem (by rw [HM.out.1]; have := HNB.out; omega)⟩
                  obtain ⟨g2, o2, rfl, hg2, c4, c5⟩ := (HMV.out.keep HBX.out).cell hp
                  dsimp only at c4 c5
                  have HGD : Hid (d.m.getD (m - 1) (0, 0) = (px, py)) := Lib.hid (by rw [hm1, List.getD_eq_getElem?_getD, hp]; rfl)
                  have k1 : (m : Int) - 1 = (m1 : Int) := by have := HNB.out; omega
                  have k2 : IntKind.i64.wrap (m1 : Int) = (m1 : Int) := IntWalk.i64_in _ (by have := HNB.out; omega)
                  have k3 : (0 : Int) ≤ (m1 : Int) := by omega
                  have k4 : (m1 : Int) < (m : Int) := by have := HNB.out; omega
                  have HDL : Hid (OL.delta la reg m hc d = (decide (hc ≠ 0) || decide ((px, py) = ((0 : Int), (0 : Int))))) := Lib.hid (by
                    unfold OL.delta
                    rw [decide_eq_true HL.out.1, decide_eq_true HL.out.2, HR.out, decide_eq_true HM.out.1, HAL.out, HGD.out]
                    simp)
                  clear hjm hxb hp hg2 hm1
                  by_cases h0 : hc = 0
                  · have h0b : (hc == 0) = true := by rw [beq_iff_eq]; exact h0
                    by_cases q1 : px = 0
                    · subst q1
                      by_cases q2 : py = 0
                      · subst q2
                        have HGN : Hid (OL.dsGo reg m hc (-1) D = OL.dsGo reg m hc d.r (D.drop (i + 1))) := Lib.hid (by rw [HGO.out, HDL.out]; simp)
                        have hneq := fun V => neq_two V 0 0 0 0
                        clear h0
                        go_wp2
                        go_roundw
                        case rel => exact ⟨i + 1, d.r, by go_num, rfl, by omega, HGN, HBO⟩
                        case measure => simp [intOf]; omega
                      · have HNO : Hid (OL.dsGo reg m hc (-1) D = false) := Lib.hid (by rw [HGO.out, HDL.out]; simp [h0, q2])
                        have hneq := fun V => neq_two V 0 py 0 0
                        have hpy : (py == 0) = false := by rw [beq_eq_false_iff_ne]; exact q2
                        clear h0 q2
                        go_wp2
                        go_ret
                        exact ⟨by rw [HNO.out]; first | rfl | simp [hpy], HBW.out⟩
                    · have HNO : Hid (OL.dsGo reg m hc (-1) D = false) := Lib.hid (by rw [HGO.out, HDL.out]; simp [h0, q1])
                      have hneq := fun V => neq_two V px py 0 0
                      have hpx : (px == 0) = false := by rw [beq_eq_false_iff_ne]; exact q1
                      clear h0 q1
                      go_wp2
                      go_ret
                      exact ⟨by rw [HNO.out]; first | rfl | simp [hpx], HBW.out⟩
                  · have h0b : (hc == 0) = false := by rw [beq_eq_false_iff_ne]; exact h0
                    have HGN : Hid (OL.dsGo reg m hc (-1) D = OL.dsGo reg m hc d.r (D.drop (i + 1))) := Lib.hid (by rw [HGO.out, HDL.out]; simp [h0])
                    clear h0
                    go_wp2
                    go_roundw
                    case rel => exact ⟨i + 1, d.r, by go_num, rfl, by omega, HGN, HBO⟩
                    case measure => simp [intOf]; omega
            · have h4b : ((m : Int) == (np : Int)) = false := by rw [beq_eq_false_iff_ne]; omega
              have HNO : Hid (OL.dsGo reg np hc (-1) D = false) := Lib.hid (by rw [HGO.out]; unfold OL.delta; rw [HM.out.1, decide_eq_false h4]; simp)
              clear h4
              go_wp2
              go_ret
              exact ⟨by rw [HNO.out]; first | rfl | simp, HBW.out⟩
    · have hii : ¬ (i : Int) < (dn : Int) := by omega
      have HE : Hid (OL.dsGo reg np hc (-1) D = true) := Lib.hid (by
        rw [HG.out, List.drop_of_length_le (by rw [HLN.out.2.2]; omega)]
        rfl)
      clear hin
      go_wp2
      go_ret
      exact ⟨by rw [HE.out]; rfl, bnext HB1.out (bnext HK2.out HB.out)⟩
end Go.Proofs.Ytanppbdlcinpfaa
end
/- The reference: what is wrong with a glyph. No conditions. -/
section
namespace Go.Proofs.Ytanppbdlcinpfaa
set_option maxRecDepth 100000
set_option linter.unusedVariables false
open Go.RowKit Go.Deep
set_option maxHeartbeats 4000000 in
theorem rcheck_any (W : World) (v : Value) (G : Gl) (n : Int) (hv : GlAt W v G) (hok : GlOk G) :
    Calls Try.prog 37 #[v, .int .i64 n] W fun e w' => e = .returned (.int .i64 (OL.check G n)) ∧ Below W.heap.size W w' := by
  have HG := Lib.hid hv
  have HOK := Lib.hid hok
  obtain ⟨C, A, ⟨hc, hx, hy⟩, ad, D, P⟩ := G
  obtain ⟨vc, va, vd, vp, rfl, h1, h2, h3, h4⟩ := hv
  dsimp only at h1 h2 h3 h4 HG ⊢
  obtain ⟨ca, ck, rfl⟩ := h1.shape
  obtain ⟨aa, ak, rfl⟩ := h2.shape
  obtain ⟨da, dk, rfl⟩ := h3.shape
  obtain ⟨cn, hcn⟩ : ∃ cn, C.length = cn := ⟨_, rfl⟩
  obtain ⟨an, han⟩ : ∃ an, A.length = an := ⟨_, rfl⟩
  obtain ⟨dn, hdn⟩ : ∃ dn, D.length = dn := ⟨_, rfl⟩
  rw [hcn] at h1 HG ⊢
  rw [han] at h2 HG ⊢
  rw [hdn] at h3 HG ⊢
  have HCS := Lib.hid h1
  have HAN := Lib.hid h2
  have HDS := Lib.hid h3
  obtain ⟨np, hnp⟩ : ∃ np, OL.points ⟨C, A, ⟨hc, hx, hy⟩, ad, D, P⟩ = np := ⟨_, rfl⟩
  have hpb := OL.pts_bd hok.cs C.length
  rw [List.take_length] at hpb
  have HNB : Hid (1 ≤ np ∧ np ≤ 10000000) := Lib.hid (by
    have h5 := hok.cs.n
    have h6 := hok.an
    dsimp only at h5 h6 hpb
    rw [← hnp]
    unfold OL.points
    dsimp only
    omega)
  have HCK : Hid (OL.check ⟨C, A, ⟨hc, hx, hy⟩, ad, D, P⟩ n = if n < 0 ∨ 8 < n then 1 else if 6 < cn ∨ 6 < an ∨ 40 < np then 2 else if OL.contours C = false then 12 else if OL.anchors A ⟨hc, hx, hy⟩ = false then 35 else if ad < 0 ∨ 128 < ad then 3 else if OL.dsGo n np hc (-1) D = false then 13 else 0) := Lib.hid (by
    unfold OL.check
    rw [hnp]
    dsimp only
    rw [hcn, han])
  have HPT := Lib.hid (fun U hU => rpoints_any U _ _ (HG.out.keep (V := U) hU) HOK.out)
  rw [hnp] at HPT
  have HNPE := Lib.hid hnp
  clear h1 h2 h3 h4 hok hpb
  obtain ⟨B, hB⟩ : ∃ B, W.heap.size = B := ⟨_, rfl⟩
  have hx1 := heap_alloc_new W (.cells #[.slice ca cn ck, .slice aa an ak, .int .i64 hc, .int .i64 hx, .int .i64 hy, .int .i64 ad, .slice da dn dk, vp] 34)
  have hb1 := balloc (Below.refl _ W) (.cells #[.slice ca cn ck, .slice aa an ak, .int .i64 hc, .int .i64 hx, .int .i64 hy, .int .i64 ad, .slice da dn dk, vp] 34)
  obtain ⟨w1, hw1⟩ : ∃ w1, W.alloc (.cells #[.slice ca cn ck, .slice aa an ak, .int .i64 hc, .int .i64 hx, .int .i64 hy, .int .i64 ad, .slice da dn dk, vp] 34) = w1 := ⟨_, rfl⟩
  rw [hw1, hB] at hx1
  rw [hw1] at hb1
  have HB1 := Lib.hid hb1
  have HX1 := Lib.hid hx1
  have HKX : Hid (∀ U, Below w1.heap.size w1 U → U.cell? ⟨B, 0, none⟩ = some (.slice ca cn ck) ∧ U.cell? ⟨B, 1, none⟩ = some (.slice aa an ak) ∧ U.cell? ⟨B, 2, none⟩ = some (.int .i64 hc) ∧ U.cell? ⟨B, 3, none⟩ = some (.int .i64 hx) ∧ U.cell? ⟨B, 4, none⟩ = some (.int .i64 hy) ∧ U.cell? ⟨B, 5, none⟩ = some (.int .i64 ad) ∧ U.cell? ⟨B, 6, none⟩ = some (.slice da dn dk) ∧ U.cell? ⟨B, 7, none⟩ = some (vp)) := Lib.hid fun U hU => by
    have h1 := (hU.block B (Array.getElem?_eq_some_iff.1 HX1.out).1).trans HX1.out
    exact ⟨nd_cell h1 rfl, nd_cell h1 rfl, nd_cell h1 rfl, nd_cell h1 rfl, nd_cell h1 rfl, nd_cell h1 rfl, nd_cell h1 rfl, nd_cell h1 rfl⟩
  obtain ⟨x0, x1, x2, x3, x4, x5, x6, x7⟩ := HKX.out w1 (Below.refl _ _)
  have HN := Lib.hid (And.intro hcn (And.intro han hdn))
  clear hx1 hb1 hnp hcn han hdn
  go_enter Try.func37, Try.ntmps37
  go_upto_region 1 with fail
  try rw [hw1]
  try rw [hB]
  clear hw1 hB
  by_cases n0 : n < 0
  · have HR : Hid (OL.check ⟨C, A, ⟨hc, hx, hy⟩, ad, D, P⟩ n = 1) := Lib.hid (by rw [HCK.out]; exact if_pos (by omega))
    go_wp2
    go_ret
    exact ⟨by rw [HR.out]; first | rfl | simp, HB1.out⟩
  · by_cases n8 : 8 < n
    · have HR : Hid (OL.check ⟨C, A, ⟨hc, hx, hy⟩, ad, D, P⟩ n = 1) := Lib.hid (by rw [HCK.out]; exact if_pos (by omega))
      go_wp2
      go_ret
      exact ⟨by rw [HR.out]; first | rfl | simp, HB1.out⟩
    · by_cases c6 : 6 < cn
      · have c6' : (6 : Int) < (cn : Int) := by omega
        have HR : Hid (OL.check ⟨C, A, ⟨hc, hx, hy⟩, ad, D, P⟩ n = 2) := Lib.hid (by rw [HCK.out]; rw [if_neg (by omega)]; exact if_pos (by omega))
        go_wp2
        go_ret
        exact ⟨by rw [HR.out]; first | rfl | simp, HB1.out⟩
      · by_cases a6 : 6 < an
        · have c6' : ¬ (6 : Int) < (cn : Int) := by omega
          have a6' : (6 : Int) < (an : Int) := by omega
          have HR : Hid (OL.check ⟨C, A, ⟨hc, hx, hy⟩, ad, D, P⟩ n = 2) := Lib.hid (by rw [HCK.out]; rw [if_neg (by omega)]; exact if_pos (by omega))
          go_wp2
          go_ret
          exact ⟨by rw [HR.out]; first | rfl | simp, HB1.out⟩
        · have c6' : ¬ (6 : Int) < (cn : Int) := by omega
          have a6' : ¬ (6 : Int) < (an : Int) := by omega
          have HLE := Lib.hid (And.intro n0 (And.intro n8 (And.intro c6 a6)))
          clear c6 a6
          have HC := Lib.hid (HPT.out w1 HB1.out)
          go_wp2_with fail
          go_at_call 24
          refine HC.out.mono ?_
          rintro e w2 ⟨rfl, k2⟩
          have HK2 := Lib.hid k2
          clear HC k2 x0 x1 x2 x3 x4 x5 x6 x7
          obtain ⟨x0, x1, x2, x3, x4, x5, x6, x7⟩ := HKX.out w2 HK2.out
          by_cases p40 : 40 < np
          · have p40' : (40 : Int) < (np : Int) := by omega
            have HR : Hid (OL.check ⟨C, A, ⟨hc, hx, hy⟩, ad, D, P⟩ n = 2) := Lib.hid (by rw [HCK.out]; rw [if_neg (by omega)]; exact if_pos (by omega))
            go_wp2
            go_ret
            exact ⟨by rw [HR.out]; first | rfl | simp, bnext HB1.out HK2.out⟩
          · have p40' : ¬ (40 : Int) < (np : Int) := by omega
            have HP40 := Lib.hid p40
            clear p40
            go_upto_region 5 with fail
            clear p40' c6' a6' n0 n8
            have HCK2 : Hid (OL.check ⟨C, A, ⟨hc, hx, hy⟩, ad, D, P⟩ n = if OL.contours C = false then 12 else if OL.anchors A ⟨hc, hx, hy⟩ = false then 35 else if ad < 0 ∨ 128 < ad then 3 else if OL.dsGo n np hc (-1) D = false then 13 else 0) := Lib.hid (by
              rw [HCK.out, if_neg (by have := HLE.out; omega), if_neg (by have := HLE.out; have := HP40.out; omega)])
            have HC := Lib.hid (rcontours_any w2 _ _ (HG.out.keep (bnext HB1.out HK2.out)) HOK.out)
            dsimp only at HC
            obtain ⟨r1, hr1⟩ : ∃ r1, OL.contours C = r1 := ⟨_, rfl⟩
            rw [hr1] at HC HCK2
            clear hr1
            go_wp2_with fail
            go_at_call 77
            refine HC.out.mono ?_
            rintro e w3 ⟨rfl, kk⟩
            have HK3 := Lib.hid (bnext HK2.out kk)
            clear HC kk x0 x1 x2 x3 x4 x5 x6 x7
            obtain ⟨x0, x1, x2, x3, x4, x5, x6, x7⟩ := HKX.out w3 HK3.out
            cases r1 with
            | false =>
              have HR : Hid (OL.check ⟨C, A, ⟨hc, hx, hy⟩, ad, D, P⟩ n = 12) := Lib.hid (by rw [HCK2.out]; rfl)
              go_wp2
              go_ret
              exact ⟨by rw [HR.out]; first | rfl | simp, bnext HB1.out HK3.out⟩
            | true =>
              have HC := Lib.hid (ranchors_any w3 _ _ (HG.out.keep (bnext HB1.out HK3.out)) HOK.out)
              dsimp only at HC
              obtain ⟨r2, hr2⟩ : ∃ r2, OL.anchors A ⟨hc, hx, hy⟩ = r2 := ⟨_, rfl⟩
              rw [hr2] at HC HCK2
              clear hr2
              go_wp2_with fail
              go_at_call 78
              refine HC.out.mono ?_
              rintro e w4 ⟨rfl, kk⟩
              have HK4 := Lib.hid (bnext HK3.out kk)
              clear HC kk x0 x1 x2 x3 x4 x5 x6 x7
              obtain ⟨x0, x1, x2, x3, x4, x5, x6, x7⟩ := HKX.out w4 HK4.out
              cases r2 with
              | false =>
                have HR : Hid (OL.check ⟨C, A, ⟨hc, hx, hy⟩, ad, D, P⟩ n = 35) := Lib.hid (by rw [HCK2.out]; rfl)
                go_wp2
                go_ret
                exact ⟨by rw [HR.out]; first | rfl | simp, bnext HB1.out HK4.out⟩
              | true =>
                by_cases d0 : ad < 0
                · have HR : Hid (OL.check ⟨C, A, ⟨hc, hx, hy⟩, ad, D, P⟩ n = 3) := Lib.hid (by rw [HCK2.out, if_neg (by simp), if_neg (by simp), if_pos (Or.inl d0)])
                  go_wp2
                  go_ret
                  exact ⟨by rw [HR.out]; first | rfl | simp, bnext HB1.out HK4.out⟩
                · by_cases d1 : 128 < ad
                  · have HR : Hid (OL.check ⟨C, A, ⟨hc, hx, hy⟩, ad, D, P⟩ n = 3) := Lib.hid (by rw [HCK2.out, if_neg (by simp), if_neg (by simp), if_pos (Or.inr d1)])
                    go_wp2
                    go_ret
                    exact ⟨by rw [HR.out]; first | rfl | simp, bnext HB1.out HK4.out⟩
                  · have HDN := Lib.hid (show ¬ (ad < 0 ∨ 128 < ad) by omega)
                    have HC := Lib.hid (rdeltas_any w4 _ _ n (HG.out.keep (bnext HB1.out HK4.out)) HOK.out)
                    dsimp only at HC
                    obtain ⟨r3, hr3⟩ : ∃ r3, OL.dsGo n np hc (-1) D = r3 := ⟨_, rfl⟩
                    rw [HNPE.out, hr3] at HC; rw [hr3] at HCK2
                    clear hr3
                    go_wp2_with fail
                    go_at_call 79
                    refine HC.out.mono ?_
                    rintro e w5 ⟨rfl, kk⟩
                    have HK5 := Lib.hid (bnext HK4.out kk)
                    clear HC kk x0 x1 x2 x3 x4 x5 x6 x7
                    obtain ⟨x0, x1, x2, x3, x4, x5, x6, x7⟩ := HKX.out w5 HK5.out
                    clear d0 d1
                    cases r3 with
                    | false =>
                      have HR : Hid (OL.check ⟨C, A, ⟨hc, hx, hy⟩, ad, D, P⟩ n = 13) := Lib.hid (by rw [HCK2.out, if_neg (by simp), if_neg (by simp), if_neg HDN.out]; rfl)
                      go_wp2
                      go_ret
                      exact ⟨by rw [HR.out]; first | rfl | simp, bnext HB1.out HK5.out⟩
                    | true =>
                      have HR : Hid (OL.check ⟨C, A, ⟨hc, hx, hy⟩, ad, D, P⟩ n = 0) := Lib.hid (by rw [HCK2.out, if_neg (by simp), if_neg (by simp), if_neg HDN.out]; rfl)
                      go_wp2
                      go_ret
                      exact ⟨by rw [HR.out]; first | rfl | simp, bnext HB1.out HK5.out⟩
end Go.Proofs.Ytanppbdlcinpfaa
end
