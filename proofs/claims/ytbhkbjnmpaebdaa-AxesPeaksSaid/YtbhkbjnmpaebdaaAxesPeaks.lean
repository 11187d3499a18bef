/- For every case and number AxesPeaks returns true: the strengths of a region are 1/1 at its peaks, 0/1 just outside, their product is the scalar, and a point closer to a peak has no lesser one. No conditions. -/
import Derived.Test.YtbhkbjnmpaebdaaAxP
import Derived.Test.YtbhkbjnmpaebdaaLast
import Derived.Test.YtbhkbjnmpaebdaaHeldIn
namespace Go.Proofs.Ytbhkbjnmpaebdaa.axesPeaks
open Go.ChangeShapes Go.WideShapes Go.ChangeAt Go.RowKit Go.Joins Go.Deep
set_option linter.unusedVariables false

def pkAt (r : List AX.Tn) (A : List Int) (k : Nat) : List Int := (AX.peaks r A).take k ++ A.drop k
theorem pk_zero (r : List AX.Tn) (A : List Int) : A = pkAt r A 0 := by unfold pkAt; simp
theorem pk_end {r : List AX.Tn} {A : List Int} {n : Nat} (h : A.length = n) (h2 : (AX.peaks r A).length = n) : pkAt r A n = AX.peaks r A := by
  unfold pkAt
  rw [List.take_of_length_le (by omega), List.drop_of_length_le (by omega), List.append_nil]
theorem mul_bd {a b : Int} (h0 : 0 ≤ a) (h1 : a ≤ 262144) (h2 : 0 ≤ b) (h3 : b ≤ 262144) : 0 ≤ a * b ∧ a * b ≤ 68719476736 :=
  ⟨Int.mul_nonneg h0 h2, by have := Int.mul_le_mul h1 h3 h2 (by decide); omega⟩
theorem pk_at {r : List AX.Tn} {A : List Int} {k : Nat} {x : Int} (hx : A[k]? = some x) (hl : (AX.peaks r A).length = A.length) : (pkAt r A k)[k]? = some x := by
  unfold pkAt
  have hk := (List.getElem?_eq_some_iff.1 hx).1
  rw [List.getElem?_append_right (by rw [List.length_take]; omega), List.length_take, List.getElem?_drop, show k + (k - min k (AX.peaks r A).length) = k by omega]
  exact hx
theorem pk_next {r : List AX.Tn} {A : List Int} {k : Nat} {x : Int} {t : AX.Tn} (ht : r[k]? = some t) (hx : A[k]? = some x) (hl : (AX.peaks r A).length = A.length) : pkAt r A (k + 1) = (pkAt r A k).set k (AX.toPeak t x) := by
  unfold pkAt
  obtain ⟨hk, rfl⟩ := List.getElem?_eq_some_iff.1 hx
  rw [List.take_add_one, AX.peaks_get ht hx, List.drop_eq_getElem_cons hk, List.set_append_right _ _ (by rw [List.length_take]; omega), List.length_take, show k - min k (AX.peaks r A).length = 0 by omega, List.append_assoc]
  rfl
theorem set_same {l : List Int} {k : Nat} {x : Int} (h : l[k]? = some x) : l.set k x = l := by
  obtain ⟨hk, rfl⟩ := List.getElem?_eq_some_iff.1 h
  exact List.set_getElem_self hk
theorem in_one {W : World} {a : Option Addr} {n c : Nat} {l : List Int} (h : InAt W (.slice a n c) l) {k : Nat} {x : Int} (hx : l[k]? = some x) : ∃ g o, a = some ⟨g, o, none⟩ ∧ g < W.heap.size ∧ W.cell? ⟨g, o + k, none⟩ = some (.int .i64 x) ∧ ∀ m, InAt W (.slice (some ⟨g, o + k, none⟩) 1 m) [x] := by
  obtain ⟨a', c', e, h⟩ := h
  injection e with e1 e2 e3
  rcases h with h | ⟨g, o, e4, hg, hc⟩
  · rw [h] at hx
    simp at hx
  · subst e1
    refine ⟨g, o, e4, hg, hc k x hx, fun m => ⟨_, _, rfl, .inr ⟨g, o + k, rfl, hg, fun i z hz => ?_⟩⟩⟩
    cases i with
    | zero => rw [← Option.some.inj hz]; exact hc k x hx
    | succ i => simp at hz
theorem tn_new (W : World) (t : AX.Tn) {m : Nat} : TnAt (W.alloc (.cells #[.int .i64 t.1, .int .i64 t.2.1, .int .i64 t.2.2] 71)) (.slice (some ⟨W.heap.size, 0, none⟩) 1 m) [t] :=
  ⟨_, _, rfl, .inr ⟨W.heap.size, 0, rfl, by simp, fun i z hz => by
    have h := heap_alloc_new W (.cells #[.int .i64 t.1, .int .i64 t.2.1, .int .i64 t.2.2] 71)
    cases i with
    | zero => rw [← Option.some.inj hz]; exact ⟨cell_of h rfl, cell_of h rfl, cell_of h rfl⟩
    | succ i => simp at hz⟩⟩
set_option maxRecDepth 100000 in
set_option maxHeartbeats 16000000 in
theorem walk (v0 : Value) (L0 : List (List Int)) (a0 : List Int) (g0 : List Int) (b0 : List Int) (x0 : Int) (a1 : Int) (wa1 : (Lit.int .u8 a1).wf = true) (w : World) (H0 : CaArg w v0 L0 a0 g0 b0 x0) :
    Calls Try.prog 8 #[v0, .int .u8 a1] w fun e w' => e = .returned (.bool true) ∧ Below w.heap.size w w' := by
  obtain ⟨ii, hii, hi0, hi1, hi2⟩ := info_parts info_int
  obtain ⟨ar, cr, aa, ca, ag, cg, aw, cw, rfl, ⟨hll, hllm⟩, hia, hig, hiw, hx0, hx1⟩ := H0.out
  obtain ⟨nr, hnr⟩ : ∃ nr, L0.length = nr := ⟨_, rfl⟩
  obtain ⟨na, hna⟩ : ∃ na, a0.length = na := ⟨_, rfl⟩
  obtain ⟨ng, hng⟩ : ∃ ng, g0.length = ng := ⟨_, rfl⟩
  obtain ⟨nw, hnw⟩ : ∃ nw, b0.length = nw := ⟨_, rfl⟩
  obtain ⟨x, hx⟩ : ∃ x, x = x0 := ⟨_, rfl⟩
  subst hx
  obtain ⟨n, hn⟩ : ∃ n : Nat, x % 4 = (n : Int) := ⟨(x % 4).toNat, by omega⟩
  have hn3 : n ≤ 3 := by omega
  rw [hnr] at hll
  rw [hna] at hia
  rw [hng] at hig
  rw [hnw] at hiw
  rw [hnr, hna, hng, hnw]
  unfold CaV
  have HLL : Hid (∀ V, Below w.heap.size w V → LnAt V (.slice ar nr cr) L0) := Lib.hid fun V hV => hll.keep hV
  have HIA : Hid (∀ V, Below w.heap.size w V → InArg V (.slice aa na ca) a0) := Lib.hid fun V hV => hia.keep hV
  have HIG : Hid (∀ V, Below w.heap.size w V → InArg V (.slice ag ng cg) g0) := Lib.hid fun V hV => hig.keep hV
  have HIW : Hid (∀ V, Below w.heap.size w V → InArg V (.slice aw nw cw) b0) := Lib.hid fun V hV => hiw.keep hV
  have HX := Lib.hid hn
  have HLM := Lib.hid hllm
  clear H0 hll hia hig hiw hnr hna hng hnw hllm
  obtain ⟨B, hB⟩ : ∃ B, w.heap.size = B := ⟨_, rfl⟩
  obtain ⟨W0, hW0, b1, bel0, hsz0⟩ := one_block w (.cells #[.slice ar nr cr, .slice aa na ca, .slice ag ng cg, .slice aw nw cw, .int .u8 x] 56) B hB
  have HCX0 : Hid (∀ V, Below W0.heap.size W0 V → V.heap[B]? = some (.cells #[.slice ar nr cr, .slice aa na ca, .slice ag ng cg, .slice aw nw cw, .int .u8 x] 56 (0, 0))) := Lib.hid fun V hV => (hV.block B (Array.getElem?_eq_some_iff.1 b1).1).trans b1
  have HB0 := Lib.hid bel0
  clear b1 bel0 hsz0
  go_enter Try.func8, Try.ntmps8
  go_upto_region 1 with fail
  try rw [hW0]
  try rw [hB]
  clear hW0 hB
  go_wp2_with fail
  refine (sane_any _).mono ?_
  rintro e w1 ⟨rfl, hb1⟩
  have HB01 := Lib.hid hb1
  have HB1 := Lib.hid (bnext HB0.out hb1)
  have HS : Hid (∀ V, Below w1.heap.size w1 V → (fun w' => w'.cell? ⟨B, 0, none⟩ = some (.slice ar nr cr) ∧ w'.cell? ⟨B, 1, none⟩ = some (.slice aa na ca) ∧ w'.cell? ⟨B, 2, none⟩ = some (.slice ag ng cg) ∧ w'.cell? ⟨B, 3, none⟩ = some (.slice aw nw cw) ∧ w'.cell? ⟨B, 4, none⟩ = some (.int .u8 x)) V) := Lib.hid fun V hV => by
    have h := HCX0.out V (bnext HB01.out hV)
    exact ⟨cell_of h rfl, cell_of h rfl, cell_of h rfl, cell_of h rfl, cell_of h rfl⟩
  obtain ⟨s0, s1, s2, s3, s4⟩ := HS.out w1 (Below.refl _ _)
  clear hb1
  go_wp2_with fail
  refine (axesOf_c HX.out ar nr cr aa na ca ag ng cg aw nw cw hx0 hx1 _).mono ?_
  rintro e w2 ⟨rfl, hb2⟩
  have HB2 := Lib.hid hb2
  clear s0 s1 s2 s3 s4
  obtain ⟨s0, s1, s2, s3, s4⟩ := HS.out w2 hb2
  clear hb2
  go_wp2_with fail
  refine (madeat_any _ n _ _ (HIA.out _ (bnext HB1.out HB2.out)).1 (HIA.out _ (bnext HB1.out HB2.out)).2.1 hn3).mono ?_
  rintro e w3 ⟨ua, rfl, hoa, hb3⟩
  have HB13 := Lib.hid (bnext HB2.out hb3)
  have HB3 := Lib.hid (bnext HB1.out HB13.out)
  obtain ⟨uaa, uac, rfl⟩ := own_shape hoa
  have HCAP := Lib.hid (own_cap hoa)
  have HATL := Lib.hid (AX.mkAt_len a0 n)
  have HCO := Lib.hid (AX.mkAt_coords a0 hn3)
  have HROW := Lib.hid hoa
  have HAT : Hid (∀ V, Below w3.heap.size w3 V → InAt V (.slice uaa n uac) (AX.mkAt a0 n)) := Lib.hid fun V hV => (InAt.of (row_own hoa (by simp [AX.mkAt_len]))).keep hV
  generalize AX.mkAt a0 n = A at HATL HCO HROW HAT hoa
  clear hoa hb3 s0 s1 s2 s3 s4
  obtain ⟨s0, s1, s2, s3, s4⟩ := HS.out w3 HB13.out
  go_wp2_with fail
  refine (regions_cap _ ar nr cr aa na ca ag ng cg aw nw cw x n _ (HLL.out _ HB3.out) HLM.out HX.out hx0 hx1).mono ?_
  rintro e w10 ⟨ur, vs, rfl, hrg, hb10⟩
  have hURG := hrg.1
  obtain ⟨oa, oc, rfl⟩ := own_shape hURG
  have HRC0 := Lib.hid hrg.cap
  have HRM : Hid (∀ r ∈ regs L0 n, ∃ l, r = AX.mkReg l n) := Lib.hid fun r hr => regs_mem hr
  have hrl4 := regs_len L0 n
  generalize regs L0 n = RR at HRC0 HRM hrl4 ⊢
  obtain ⟨rl, hrl⟩ : ∃ rl, RR.length = rl := ⟨_, rfl⟩
  have HRL := Lib.hid hrl
  rw [hrl] at HRC0 hrl4 ⊢
  have HB310 := Lib.hid hb10
  have HB10 := Lib.hid (bnext HB3.out hb10)
  have HATX : Hid (∀ V, Below w10.heap.size w10 V → InAt V (.slice uaa n uac) A) := Lib.hid fun V hV => HAT.out V (bnext HB310.out hV)
  clear hURG hrg hb10 hrl s0 s1 s2 s3 s4
  go_wp2_with fail
  go_loopw [30] (fun v30 wr => ∃ j : Nat, v30 = .int .i64 (j : Int) ∧ j ≤ rl ∧ Below w10.heap.size w10 wr) (fun v _ => rl - (intOf v).toNat)
  case atStart => exact ⟨0, rfl, Nat.zero_le _, Below.refl _ _⟩
  case round =>
    obtain ⟨j, rfl, hj, hb⟩ := hrel
    obtain ⟨wq, hwq⟩ : ∃ wq, wq = wr := ⟨_, rfl⟩
    subst hwq
    have HBq := Lib.hid hb
    by_cases hjr : j < rl
    · have hjj : (j : Int) < (rl : Int) := by omega
      have hj0 : (0 : Int) ≤ (j : Int) := by omega
      obtain ⟨r, hr⟩ : ∃ r, RR[j]? = some r := ⟨RR[j]'(by rw [HRL.out]; exact hjr), List.getElem?_eq_getElem _⟩
      obtain ⟨lr, hlr⟩ := HRM.out r (List.mem_of_getElem? hr)
      have HRT : Hid (AX.right r (n : Int) = true) := Lib.hid (by rw [hlr]; exact AX.mkReg_right lr hn3)
      have hrlen : r.length = n := by rw [hlr]; exact AX.mkReg_len lr n
      obtain ⟨a', c', e1, hcw⟩ := HRC0.out
      rw [HRL.out] at e1
      injection e1 with e1 e2 e3
      subst e1 e3
      rcases hcw with h | ⟨g, o, rfl, hg, hcl⟩
      · rw [h] at hr
        simp at hr
      obtain ⟨ra, rc, cx, htn, hcap⟩ := hcl j r hr
      rw [hrlen] at cx htn hcap
      replace cx := (hb.cell (p := ⟨g, o + j, none⟩) hg).trans cx
      have hglt : g < wq.heap.size := Nat.lt_of_lt_of_le hg hb.size
      have HTN0 := Lib.hid (htn.keep hb)
      have HRLN := Lib.hid hrlen
      clear hcl hr hlr htn hb hrlen
      go_upto_region 7 with fail
      obtain ⟨D, hD⟩ : ∃ D, wq.heap.size = D := ⟨_, rfl⟩
      obtain ⟨W12, hW12, hdx, hb12, -⟩ := one_block wq (.cells #[.slice ra n rc] 42) D hD
      try rw [hW12]
      try rw [hD]
      have HBXD : Hid (∀ V, Below W12.heap.size W12 V → V.cell? ⟨D, 0, none⟩ = some (.slice ra n rc)) := Lib.hid fun V hV => (hV.cell (p := ⟨D, 0, none⟩) (Array.getElem?_eq_some_iff.1 hdx).1).trans (cell_of hdx rfl)
      have HTD : Hid (∀ V, Below W12.heap.size W12 V → TnAt V (.slice ra n rc) r) := Lib.hid fun V hV => HTN0.out.keep (bnext hb12 hV)
      have HB12 := Lib.hid (bnext HBq.out hb12)
      have HSRC : Hid (∀ V, Below W12.heap.size W12 V → SrcN 1 V (.slice uaa n uac) n (A.map (Value.int .i64))) := Lib.hid fun V hV => (own_srcN HROW.out).keep (bnext HB310.out (bnext HB12.out hV))
      clear hD hW12 hdx hb12 cx
      go_upto_region 8 with (at_builtin; refine wpList_appN _ rfl _ _ 25 rfl W12.heap.size 3 ii _ 1 8 Try.underlying25 hii hi0 hi1 hi2 rfl (by decide) _ _ _ rfl (own_empty W12 3 1 W12.heap.size (Nat.le_refl _)) _ n (A.map (Value.int .i64)) rfl ((HSRC.out _ (balloc (Below.refl _ _) _))) (ints_one _) (by unfold maxLen; omega) (by omega) (by simp) ?_; intro v' w13 hown' hgrow hat; rw [Nat.zero_add, List.nil_append] at hown'; obtain ⟨sa, sc, rfl⟩ := own_shape hown')
      have hb13 : Below W12.heap.size W12 w13 := (balloc (Below.refl _ W12) _).grown hgrow (by simp) (fun j ej => by have : W12.heap.size = j := Option.some.inj ej; omega)
      have HB13' := Lib.hid hb13
      have HO13 := Lib.hid hown'
      clear hb13 hown' hgrow hat
      go_upto_region 9 with fail
      obtain ⟨E, hE⟩ : ∃ E, w13.heap.size = E := ⟨_, rfl⟩
      obtain ⟨W14, hW14⟩ : ∃ W14, w13.alloc (.cells #[.int .i64 1, .int .i64 1] 50) = W14 := ⟨_, rfl⟩
      have hst := PkS.start HO13.out HB13'.out 1 1
      rw [hE, hW14] at hst
      try rw [hW14]
      try rw [hE]
      have HST := Lib.hid hst
      clear hE hW14 hst
      go_wp2_with fail
      go_loopw [12] (fun v12 wr => ∃ (k : Nat) (P : List Int) (p q : Int), v12 = .int .i64 (k : Int) ∧ k ≤ n ∧ PkS W12 wr (.slice sa n sc) n P E p q ∧ Hid (P = pkAt r A k ∧ AX.prod ((r.zip A).take k) = (p, q))) (fun v _ => n - (intOf v).toNat)
      case atStart => exact ⟨0, A, 1, 1, rfl, Nat.zero_le _, HST.out, Lib.hid ⟨pk_zero r A, rfl⟩⟩
      case round =>
        obtain ⟨k, P, p, q, rfl, hk, hs, hpp⟩ := hrel
        obtain ⟨wp, hwp⟩ : ∃ wp, wp = wr := ⟨_, rfl⟩
        subst hwp
        have HSp := Lib.hid hs
        have HBp := Lib.hid hs.bel
        by_cases hkn : k < n
        · have hkk : (k : Int) < (n : Int) := by omega
          have hk0 : (0 : Int) ≤ (k : Int) := by omega
          have hkc : k + 1 ≤ uac := by have := HCAP.out; omega
          have hkci : (k : Int) + 1 ≤ (uac : Int) := by omega
          obtain ⟨x', hx'⟩ : ∃ t, A[k]? = some t := ⟨A[k]'(by rw [HATL.out]; exact hkn), List.getElem?_eq_getElem _⟩
          obtain ⟨t, ht⟩ : ∃ t, r[k]? = some t := ⟨r[k]'(by rw [HRLN.out]; exact hkn), List.getElem?_eq_getElem _⟩
          have htt := ((AX.right_iff _ _).1 HRT.out).2 t (List.mem_of_getElem? ht)
          have hxx := ((AX.coords_iff _).1 HCO.out).1 x' (List.mem_of_getElem? hx')
          obtain ⟨a', c', e1, hcw⟩ := HTD.out wp hs.bel
          rw [HRLN.out] at e1
          injection e1 with e1 e2 e3
          subst e1 e3
          rcases hcw with h | ⟨gt, ot, rfl, hgt, hcl⟩
          · rw [h] at ht
            simp at ht
          obtain ⟨t0, t1, t2⟩ := hcl k t ht
          have cd := HBXD.out wp hs.bel
          have HTT := Lib.hid htt
          have HXX := Lib.hid hxx
          have HT := Lib.hid ht
          have HXK := Lib.hid hx'
          clear hcl ht hx' htt hxx hs
          go_upto_region 13 with fail
          obtain ⟨T, hTb⟩ : ∃ T, wp.heap.size = T := ⟨_, rfl⟩
          obtain ⟨W15, hW15, hbx15, hb15, -⟩ := one_block wp (.cells #[.int .i64 t.1, .int .i64 t.2.1, .int .i64 t.2.2] 71) T hTb
          try rw [hW15]
          try rw [hTb]
          have HTX : Hid (∀ V, Below W15.heap.size W15 V → V.cell? ⟨T, 0, none⟩ = some (.int .i64 t.1) ∧ V.cell? ⟨T, 1, none⟩ = some (.int .i64 t.2.1) ∧ V.cell? ⟨T, 2, none⟩ = some (.int .i64 t.2.2)) := Lib.hid fun V hV => by
            have h := (hV.block T (Array.getElem?_eq_some_iff.1 hbx15).1).trans hbx15
            exact ⟨cell_of h rfl, cell_of h rfl, cell_of h rfl⟩
          have HB15 := Lib.hid hb15
          have HBP15 := Lib.hid (bnext HBp.out hb15)
          obtain ⟨u1, u2, hu⟩ : ∃ a b, AX.strength t x' = (a, b) := ⟨_, _, rfl⟩
          have HU := Lib.hid hu
          have HSC : Hid (AX.scalar [t] [x'] = (u1, u2)) := Lib.hid (by rw [AX.scalar_one HTT.out HXX.out, hu])
          obtain ⟨ga, oa2, rfl, hga, -, hin⟩ := in_one (HATX.out _ (bnext HB12.out (bnext HBp.out hb15))) HXK.out
          have HIN : Hid (∀ V, Below W15.heap.size W15 V → V.cell? ⟨ga, oa2 + k, none⟩ = some (.int .i64 x') ∧ ∀ m, InAt V (.slice (some ⟨ga, oa2 + k, none⟩) 1 m) [x']) := Lib.hid fun V hV => by
            obtain ⟨g', o', e, -, h1, h2⟩ := in_one (HATX.out V (bnext HB12.out (bnext HBP15.out hV))) HXK.out
            injection e with e
            injection e with e1 e2
            subst e1 e2
            exact ⟨h1, h2⟩
          obtain ⟨b0', b1', b2'⟩ := HTX.out W15 (Below.refl _ _)
          have HTB := Lib.hid hTb
          clear hTb hW15 hbx15 hb15 hu hga hin t0 t1 t2 cd b0' b1' b2'
          have hwr : IntKind.i64.wrap ((k : Int) + 1) = ((k + 1 : Nat) : Int) := by rw [IntWalk.i64_in _ (by omega)]; omega
          have hku : ¬ uac = k := by omega
          have hk10 : (0 : Int) ≤ (k : Int) + 1 := by omega
          go_cut [14] from 48 to 56 (fun s14 wx => ∃ X, s14 = .pointer (some ⟨X, 0, none⟩) ∧ ScB wx X (u1, u2) ∧ W15.heap.size ≤ X ∧ Below W15.heap.size W15 wx)
          case first =>
            have r0 := BX.nil W15
            refine wp_region_held_drew (S := fun w' => w'.cell? ⟨T, 0, none⟩ = some (.int .i64 t.1) ∧ w'.cell? ⟨T, 1, none⟩ = some (.int .i64 t.2.1) ∧ w'.cell? ⟨T, 2, none⟩ = some (.int .i64 t.2.2)) (by kernel_rfl) ?_ (fun hHeld => ?_)
            · exact HTX.out _ r0.bel
            refine wpAnyH_take (i := 0) (oi := { dst := some 48, op := Op.load 71 (Operand.tmp 13), type := 71, pos := "law.go:222", after := #[], guard := none }) (v := ?_) rfl (by kernel_rfl) (by kernel_rfl) (by kernel_rfl) (fun _ _ _ h => h) (Or.inl ⟨by rfl, ?_⟩) (by assumption) ?_
            rotate_left
            · ((intro w hSw; (try dsimp only at hSw); go_simp; (try rw [if_neg (by omega)])); try with_reducible rfl)
            (try simp only [Act.put, List.setIfInBounds_toArray, List.set_cons_zero, List.set_cons_succ])
            refine wpAnyH_take (i := 3) (oi := { dst := some 51, op := Op.move (Operand.tmp 7), type := 25, pos := "law.go:222", after := #[], guard := none }) (v := ?_) rfl (by kernel_rfl) (by kernel_rfl) (by kernel_rfl) (fun _ _ _ h => h) (Or.inl ⟨by rfl, ?_⟩) (by assumption) ?_
            rotate_left
            · ((intro w hSw; (try dsimp only at hSw); go_simp; (try rw [if_neg (by omega)])); try with_reducible rfl)
            (try simp only [Act.put, List.setIfInBounds_toArray, List.set_cons_zero, List.set_cons_succ])
            refine wpAnyH_take (i := 4) (oi := { dst := some 52, op := Op.move (Operand.tmp 12), type := 3, pos := "law.go:222", after := #[], guard := none }) (v := ?_) rfl (by kernel_rfl) (by kernel_rfl) (by kernel_rfl) (fun _ _ _ h => h) (Or.inl ⟨by rfl, ?_⟩) (by assumption) ?_
            rotate_left
            · ((intro w hSw; (try dsimp only at hSw); go_simp; (try rw [if_neg (by omega)])); try with_reducible rfl)
            (try simp only [Act.put, List.setIfInBounds_toArray, List.set_cons_zero, List.set_cons_succ])
            refine wpAnyH_take (i := 5) (oi := { dst := some 53, op := Op.move (Operand.tmp 12), type := 3, pos := "law.go:222", after := #[], guard := none }) (v := ?_) rfl (by kernel_rfl) (by kernel_rfl) (by kernel_rfl) (fun _ _ _ h => h) (Or.inl ⟨by rfl, ?_⟩) (by assumption) ?_
            rotate_left
            · ((intro w hSw; (try dsimp only at hSw); go_simp; (try rw [if_neg (by omega)])); try with_reducible rfl)
            (try simp only [Act.put, List.setIfInBounds_toArray, List.set_cons_zero, List.set_cons_succ])
            refine wpAnyH_take (i := 6) (oi := { dst := some 54, op := Op.binOp BinOp.add 3 (Operand.tmp 53) (Operand.const (Value.int IntKind.i64 1)) 3, type := 3, pos := "law.go:222", after := #[{ on := 5, ground := Ground.data }], guard := none }) (v := ?_) rfl (by kernel_rfl) (by kernel_rfl) (by kernel_rfl) (fun _ _ _ h => h) (Or.inl ⟨by rfl, ?_⟩) (by assumption) ?_
            rotate_left
            · ((intro w hSw; (try dsimp only at hSw); go_simp; (try rw [if_neg (by omega)])); try with_reducible rfl)
            (try simp only [Act.put, List.setIfInBounds_toArray, List.set_cons_zero, List.set_cons_succ])
            refine wpAnyH_take (i := 7) (oi := { dst := some 55, op := Op.slice 25 (Operand.tmp 51) (some (Operand.tmp 52)) (some (Operand.tmp 54)) none, type := 25, pos := "law.go:222", after := #[{ on := 3, ground := Ground.data }, { on := 4, ground := Ground.data }, { on := 6, ground := Ground.data }], guard := none }) (v := ?_) rfl (by kernel_rfl) (by kernel_rfl) (by kernel_rfl) (fun _ _ _ h => h) (Or.inl ⟨by rfl, ?_⟩) (by assumption) ?_
            rotate_left
            · ((intro w hSw; (try dsimp only at hSw); go_simp; (try rw [if_neg (by omega)])); try with_reducible rfl)
            (try simp only [Act.put, List.setIfInBounds_toArray, List.set_cons_zero, List.set_cons_succ])
            refine wpAnyH_ready (rs := [1, 9]) (by kernel_rfl) (by simp) ?_
            refine AllReadyH.cons (o := { dst := some 49, op := Op.buildSlice 40 1 #[(0, Operand.tmp 48)], type := 40, pos := "law.go:222", after := #[{ on := 0, ground := Ground.data }], guard := none }) rfl (fun K hK => ?_) ?_
            · go_simp
              have r1 := r0.tent' #[.int .i64 t.1, .int .i64 t.2.1, .int .i64 t.2.2]
              have tn1 := tn_made' W15 t (m := 1) (b := W15.heap.size) (by first | rfl | simp)
              refine hK.out _ _ ?_ (fun hHeld => ?_)
              · exact HTX.out _ r1.bel
              clear hK K
              (try simp only [Act.put, List.setIfInBounds_toArray, List.set_cons_zero, List.set_cons_succ])
              refine wpAnyH_take (i := 2) (oi := { dst := some 50, op := Op.build 42 #[(0, Operand.tmp 49)], type := 42, pos := "law.go:222", after := #[{ on := 1, ground := Ground.data }], guard := none }) (v := ?_) rfl (by kernel_rfl) (by kernel_rfl) (by kernel_rfl) (fun _ _ _ h => h) (Or.inl ⟨by rfl, ?_⟩) (by assumption) ?_
              rotate_left
              · ((intro w hSw; (try dsimp only at hSw); go_simp; (try rw [if_neg (by omega)])); try with_reducible rfl)
              (try simp only [Act.put, List.setIfInBounds_toArray, List.set_cons_zero, List.set_cons_succ])
              refine wpAnyH_ready (rs := [8, 9]) (by kernel_rfl) (by simp) ?_
              refine AllReadyH.cons (o := { dst := some 56, op := Op.call { callee := Callee.value (Operand.func 25), args := #[Operand.tmp 50, Operand.tmp 55], argTypes := #[42, 25] }, type := 50, pos := "law.go:222", after := #[{ on := 2, ground := Ground.data }, { on := 7, ground := Ground.data }], guard := none }) rfl (fun K hK => ?_) ?_
              · go_simp
                go_at_call 25
                refine (scalar_c' HSC.out _ _ _ (by simp) (by simp) (tn1) ((HIN.out _ r1.bel).2 _)).mono ?_
                rintro e w22 ⟨rfl, hb22⟩
                have r2 := r1.step hb22
                dsimp only
                refine hK.out _ _ ?_ (fun hHeld => ?_)
                · exact HTX.out _ r2.bel
                clear hK K
                (try simp only [Act.put, List.setIfInBounds_toArray, List.set_cons_zero, List.set_cons_succ])
                refine wpAnyH_ready (rs := [9]) (by kernel_rfl) (by simp) ?_
                refine AllReadyH.cons (o := { dst := some 14, op := Op.alloc 50, type := 0, pos := "law.go:222", after := #[], guard := none }) rfl (fun K hK => ?_) ?_
                · go_simp
                  have r3 := r2.bx (b := w22.heap.size) (by first | rfl | simp)
                  refine hK.out _ _ ?_ (fun hHeld => ?_)
                  · exact HTX.out _ r3.bel
                  clear hK K
                  (try simp only [Act.put, List.setIfInBounds_toArray, List.set_cons_zero, List.set_cons_succ])
                  refine wpAnyH_ready (rs := [10]) (by kernel_rfl) (by simp) ?_
                  refine AllReadyH.cons (o := { dst := none, op := Op.store 50 (Operand.tmp 14) (Operand.tmp 56), type := 0, pos := "law.go:222", after := #[{ on := 9, ground := Ground.data }, { on := 8, ground := Ground.data }, { on := 8, ground := Ground.chain }, { on := 0, ground := Ground.phase }, { on := 1, ground := Ground.phase }, { on := 2, ground := Ground.phase }, { on := 3, ground := Ground.phase }, { on := 4, ground := Ground.phase }, { on := 5, ground := Ground.phase }, { on := 6, ground := Ground.phase }, { on := 7, ground := Ground.phase }, { on := 8, ground := Ground.phase }, { on := 9, ground := Ground.phase }], guard := none }) rfl (fun K hK => ?_) ?_
                  · have z0 := r3.cell0
                    have z1 := r3.cell1
                    have f0 := r3.frozen 0
                    have f1 := r3.frozen 1
                    go_simp
                    refine hK.out _ _ ?_ (fun hHeld => ?_)
                    · exact HTX.out _ (r2.fin2 u1 u2 rfl).2.2
                    clear hK K
                    (try simp only [Act.put, List.setIfInBounds_toArray, List.set_cons_zero, List.set_cons_succ])
                    refine wpAnyH_done (by kernel_rfl) ?_ _
                    go_wp2_with fail
                    go_meet
                    exact ⟨_, rfl, r2.fin2 u1 u2 rfl⟩
                  exact AllReadyH.nil
                exact AllReadyH.nil
              refine AllReadyH.cons (o := { dst := some 14, op := Op.alloc 50, type := 0, pos := "law.go:222", after := #[], guard := none }) rfl (fun K hK => ?_) ?_
              · go_simp
                have r2 := r1.bx' (b := W15.heap.size + 1) (by first | rfl | simp)
                refine hK.out _ _ ?_ (fun hHeld => ?_)
                · exact HTX.out _ r2.bel
                clear hK K
                (try simp only [Act.put, List.setIfInBounds_toArray, List.set_cons_zero, List.set_cons_succ])
                refine wpAnyH_ready (rs := [8]) (by kernel_rfl) (by simp) ?_
                refine AllReadyH.cons (o := { dst := some 56, op := Op.call { callee := Callee.value (Operand.func 25), args := #[Operand.tmp 50, Operand.tmp 55], argTypes := #[42, 25] }, type := 50, pos := "law.go:222", after := #[{ on := 2, ground := Ground.data }, { on := 7, ground := Ground.data }], guard := none }) rfl (fun K hK => ?_) ?_
                · go_simp
                  go_at_call 25
                  refine (scalar_c' HSC.out _ _ _ (by simp) (by simp) (tn_on tn1 (.cells #[.int .i64 0, .int .i64 0] 50)) ((HIN.out _ r2.bel).2 _)).mono ?_
                  rintro e w22 ⟨rfl, hb22⟩
                  have r3 := r2.step hb22
                  dsimp only
                  refine hK.out _ _ ?_ (fun hHeld => ?_)
                  · exact HTX.out _ r3.bel
                  clear hK K
                  (try simp only [Act.put, List.setIfInBounds_toArray, List.set_cons_zero, List.set_cons_succ])
                  refine wpAnyH_ready (rs := [10]) (by kernel_rfl) (by simp) ?_
                  refine AllReadyH.cons (o := { dst := none, op := Op.store 50 (Operand.tmp 14) (Operand.tmp 56), type := 0, pos := "law.go:222", after := #[{ on := 9, ground := Ground.data }, { on := 8, ground := Ground.data }, { on := 8, ground := Ground.chain }, { on := 0, ground := Ground.phase }, { on := 1, ground := Ground.phase }, { on := 2, ground := Ground.phase }, { on := 3, ground := Ground.phase }, { on := 4, ground := Ground.phase }, { on := 5, ground := Ground.phase }, { on := 6, ground := Ground.phase }, { on := 7, ground := Ground.phase }, { on := 8, ground := Ground.phase }, { on := 9, ground := Ground.phase }], guard := none }) rfl (fun K hK => ?_) ?_
                  · have z0 := r3.cell0
                    have z1 := r3.cell1
                    have f0 := r3.frozen 0
                    have f1 := r3.frozen 1
                    go_simp
                    refine hK.out _ _ ?_ (fun hHeld => ?_)
                    · exact HTX.out _ (r3.fin u1 u2).2.2
                    clear hK K
                    (try simp only [Act.put, List.setIfInBounds_toArray, List.set_cons_zero, List.set_cons_succ])
                    refine wpAnyH_done (by kernel_rfl) ?_ _
                    go_wp2_with fail
                    go_meet
                    exact ⟨_, rfl, r3.fin u1 u2⟩
                  exact AllReadyH.nil
                exact AllReadyH.nil
              exact AllReadyH.nil
            refine AllReadyH.cons (o := { dst := some 14, op := Op.alloc 50, type := 0, pos := "law.go:222", after := #[], guard := none }) rfl (fun K hK => ?_) ?_
            · go_simp
              have r1 := r0.bx' (b := W15.heap.size) (by first | rfl | simp)
              refine hK.out _ _ ?_ (fun hHeld => ?_)
              · exact HTX.out _ r1.bel
              clear hK K
              (try simp only [Act.put, List.setIfInBounds_toArray, List.set_cons_zero, List.set_cons_succ])
              refine wpAnyH_ready (rs := [1]) (by kernel_rfl) (by simp) ?_
              refine AllReadyH.cons (o := { dst := some 49, op := Op.buildSlice 40 1 #[(0, Operand.tmp 48)], type := 40, pos := "law.go:222", after := #[{ on := 0, ground := Ground.data }], guard := none }) rfl (fun K hK => ?_) ?_
              · go_simp
                have r2 := r1.tent' #[.int .i64 t.1, .int .i64 t.2.1, .int .i64 t.2.2]
                have tn1 := tn_made' (W15.alloc (.cells #[.int .i64 0, .int .i64 0] 50)) t (m := 1) (b := W15.heap.size + 1) (by first | rfl | simp)
                refine hK.out _ _ ?_ (fun hHeld => ?_)
                · exact HTX.out _ r2.bel
                clear hK K
                (try simp only [Act.put, List.setIfInBounds_toArray, List.set_cons_zero, List.set_cons_succ])
                refine wpAnyH_take (i := 2) (oi := { dst := some 50, op := Op.build 42 #[(0, Operand.tmp 49)], type := 42, pos := "law.go:222", after := #[{ on := 1, ground := Ground.data }], guard := none }) (v := ?_) rfl (by kernel_rfl) (by kernel_rfl) (by kernel_rfl) (fun _ _ _ h => h) (Or.inl ⟨by rfl, ?_⟩) (by assumption) ?_
                rotate_left
                · ((intro w hSw; (try dsimp only at hSw); go_simp; (try rw [if_neg (by omega)])); try with_reducible rfl)
                (try simp only [Act.put, List.setIfInBounds_toArray, List.set_cons_zero, List.set_cons_succ])
                refine wpAnyH_ready (rs := [8]) (by kernel_rfl) (by simp) ?_
                refine AllReadyH.cons (o := { dst := some 56, op := Op.call { callee := Callee.value (Operand.func 25), args := #[Operand.tmp 50, Operand.tmp 55], argTypes := #[42, 25] }, type := 50, pos := "law.go:222", after := #[{ on := 2, ground := Ground.data }, { on := 7, ground := Ground.data }], guard := none }) rfl (fun K hK => ?_) ?_
                · go_simp
                  go_at_call 25
                  refine (scalar_c' HSC.out _ _ _ (by simp) (by simp) (tn1) ((HIN.out _ r2.bel).2 _)).mono ?_
                  rintro e w22 ⟨rfl, hb22⟩
                  have r3 := r2.step hb22
                  dsimp only
                  refine hK.out _ _ ?_ (fun hHeld => ?_)
                  · exact HTX.out _ r3.bel
                  clear hK K
                  (try simp only [Act.put, List.setIfInBounds_toArray, List.set_cons_zero, List.set_cons_succ])
                  refine wpAnyH_ready (rs := [10]) (by kernel_rfl) (by simp) ?_
                  refine AllReadyH.cons (o := { dst := none, op := Op.store 50 (Operand.tmp 14) (Operand.tmp 56), type := 0, pos := "law.go:222", after := #[{ on := 9, ground := Ground.data }, { on := 8, ground := Ground.data }, { on := 8, ground := Ground.chain }, { on := 0, ground := Ground.phase }, { on := 1, ground := Ground.phase }, { on := 2, ground := Ground.phase }, { on := 3, ground := Ground.phase }, { on := 4, ground := Ground.phase }, { on := 5, ground := Ground.phase }, { on := 6, ground := Ground.phase }, { on := 7, ground := Ground.phase }, { on := 8, ground := Ground.phase }, { on := 9, ground := Ground.phase }], guard := none }) rfl (fun K hK => ?_) ?_
                  · have z0 := r3.cell0
                    have z1 := r3.cell1
                    have f0 := r3.frozen 0
                    have f1 := r3.frozen 1
                    go_simp
                    refine hK.out _ _ ?_ (fun hHeld => ?_)
                    · exact HTX.out _ (r3.fin u1 u2).2.2
                    clear hK K
                    (try simp only [Act.put, List.setIfInBounds_toArray, List.set_cons_zero, List.set_cons_succ])
                    refine wpAnyH_done (by kernel_rfl) ?_ _
                    go_wp2_with fail
                    go_meet
                    exact ⟨_, rfl, r3.fin u1 u2⟩
                  exact AllReadyH.nil
                exact AllReadyH.nil
              exact AllReadyH.nil
            exact AllReadyH.nil
          case rest =>
            obtain ⟨X, rfl, hX1, hX2, hX3⟩ := hcut
            obtain ⟨wd, hwd⟩ : ∃ wd, wd = wc := ⟨_, rfl⟩
            subst hwd
            have hPA := AX.peaks_len (l := r) (at' := A) (by rw [HRLN.out, HATL.out])
            have hs := HSp.out.keep (bnext HB15.out hX3)
            obtain ⟨gs, rfl, hgs⟩ : ∃ gs, sa = some ⟨gs, 0, none⟩ ∧ W12.heap.size ≤ gs := by
              rcases hs.own.2 with ⟨h1, h2⟩ | ⟨g, cap, cur, e, hb, _⟩
              · injection h1 with h1 h2
                omega
              · injection e with e1 e2 e3
                exact ⟨g, e1, hb⟩
            have hgp : gs < wp.heap.size := by
              have := (HSp.out.own.lt gs rfl).2
              exact this
            have hga12 : ga < W12.heap.size := by
              obtain ⟨g', o', e, hlt, -, -⟩ := in_one (HATX.out W12 HB12.out) HXK.out
              injection e with e
              injection e with e1 e2
              subst e1
              exact hlt
            have hPk : P[k]? = some x' := by rw [hpp.out.1]; exact pk_at HXK.out hPA
            have zp := hs.own.cellAt k (by omega)
            rw [List.getElem?_map, hPk] at zp
            have zf := hs.own.frozenAt k
            obtain ⟨y0, y1, y2⟩ := HTX.out wd hX3
            have yk := (HIN.out wd hX3).1
            obtain ⟨x0, x1⟩ := hX1.cells
            have hTw := HTB.out
            have hW15s := HB15.out.size
            have hTg : T ≠ gs := by omega
            have hXg : X ≠ gs := by omega
            have hag : ga ≠ gs := by omega
            have hEg : E ≠ gs := fun e => hs.ne (by rw [e]; rfl)
            have HPN := Lib.hid (pk_next HT.out HXK.out hPA)
            have HS0 := Lib.hid hs
            have HX1 := Lib.hid hX1
            have HPP := Lib.hid hpp.out
            have HPK := Lib.hid hPk
            have HXS := Lib.hid hX2
            have HGS := Lib.hid hgs
            clear hs hX1 hpp hPk hX2 hX3 hgs hPA
            have hkm0 : (k : Int) < (n : Int) := hkk
            go_upto_if 59 with fail
            go_cut [] from 57 to 64 (fun wx => PkS W12 wx (.slice (some ⟨gs, 0, none⟩) n sc) n (pkAt r A (k + 1)) E p q ∧ ScB wx X (u1, u2) ∧ wx.cell? ⟨T, 0, none⟩ = some (.int .i64 t.1) ∧ wx.cell? ⟨T, 1, none⟩ = some (.int .i64 t.2.1) ∧ wx.cell? ⟨T, 2, none⟩ = some (.int .i64 t.2.2) ∧ wx.cell? ⟨ga, oa2 + k, none⟩ = some (.int .i64 x'))
            case first =>
              by_cases ht0 : t.2.1 = 0
              · have hc0 : (t.2.1 != 0) = false := by simp [ht0]
                have HT0 := Lib.hid ht0
                have HCE := Lib.hid (⟨y0, y1, y2, yk⟩ : _ ∧ _ ∧ _ ∧ _)
                clear ht0
                go_wp2_with fail
                go_meet
                refine ⟨?_, HX1.out, HCE.out⟩
                rw [HPN.out, ← HPP.out.1, show AX.toPeak t x' = x' by unfold AX.toPeak; rw [if_pos HT0.out], set_same HPK.out]
                exact HS0.out
              · have hc0 : (t.2.1 != 0) = true := by simp [ht0]
                have HT0 := Lib.hid ht0
                have kp : ∀ b i u, b ≠ gs → wd.cell? ⟨b, i, none⟩ = some u → (wd.setCell ⟨gs, k, none⟩ (.int .i64 t.2.1)).cell? ⟨b, i, none⟩ = some u := fun b i u hb hu => by
                  rw [← hu]
                  simp only [World.cell?, Below.heap_setCell wd ⟨gs, k, none⟩ _ b hb]
                have HCE := Lib.hid (⟨kp _ _ _ hTg y0, kp _ _ _ hTg y1, kp _ _ _ hTg y2, kp _ _ _ hag yk⟩ : _ ∧ _ ∧ _ ∧ _)
                clear ht0 kp
                go_wp2_with fail
                go_meet
                refine ⟨?_, (Below.heap_setCell wd ⟨gs, k, none⟩ _ X hXg).trans HX1.out, HCE.out⟩
                rw [HPN.out, ← HPP.out.1, show AX.toPeak t x' = t.2.1 by unfold AX.toPeak; rw [if_neg HT0.out]]
                exact HS0.out.peak k t.2.1 HGS.out
            case rest =>
              obtain ⟨hs2, hX2, y0', y1', y2', yk'⟩ := hcut
              obtain ⟨wb, hwb⟩ : ∃ wb, wb = wc := ⟨_, rfl⟩
              subst hwb
              have HS2 := Lib.hid hs2
              have HX16 := Lib.hid hX2
              obtain ⟨x0', x1'⟩ := hX2.cells
              clear hs2 hX2 y0 y1 y2 yk zp zf x0 x1
              go_upto_region 16 with fail
              go_cut [98] from 65 to 98 (fun s98 wx => s98 = .bool false ∧ PkS W12 wx (.slice (some ⟨gs, 0, none⟩) n sc) n (pkAt r A (k + 1)) E p q ∧ ScB wx X (u1, u2))
              case first =>
                by_cases ht0 : t.2.1 = 0
                · have hc0 : (t.2.1 != 0) = false := by simp [ht0]
                  clear ht0
                  go_quiet (fail)
                  go_wp2_with fail
                  go_meet
                  exact ⟨rfl, HS2.out.keep (below_drewN (Below.refl _ _) _), HX16.out.keep (below_drewN (Below.refl _ _) _)⟩
                · have hc0 : (t.2.1 != 0) = true := by simp [ht0]
                  have HT0 := Lib.hid ht0
                  clear ht0
                  by_cases hxp : x' = t.2.1
                  · have hc1 : (x' != t.2.1) = false := by simp [hxp]
                    clear hxp
                    go_quiet (fail)
                    go_wp2_with fail
                    go_meet
                    exact ⟨rfl, HS2.out.keep (below_drewN (Below.refl _ _) _), HX16.out.keep (below_drewN (Below.refl _ _) _)⟩
                  · have hc1 : (x' != t.2.1) = true := by simp [hxp]
                    have hz := AX.str_zero HTT.out HT0.out hxp
                    rw [HU.out] at hz
                    clear hxp
                    by_cases ha1 : x' ≤ t.1
                    · have hd1 : decide (x' ≤ t.1) = true := decide_eq_true ha1
                      have hu0 : (u1 == 0) = true := by have := hz.2 (.inl ha1); simpa using this
                      clear hz ha1
                      go_quiet (fail)
                      go_wp2_with fail
                      go_meet
                      exact ⟨rfl, HS2.out.keep (below_drewN (Below.refl _ _) _), HX16.out.keep (below_drewN (Below.refl _ _) _)⟩
                    · have hd1 : decide (x' ≤ t.1) = false := decide_eq_false ha1
                      by_cases ha2 : t.2.2 ≤ x'
                      · have hd2 : decide (t.2.2 ≤ x') = true := decide_eq_true ha2
                        have hu0 : (u1 == 0) = true := by have := hz.2 (.inr ha2); simpa using this
                        clear hz ha1 ha2
                        go_quiet (fail)
                        go_wp2_with fail
                        go_meet
                        exact ⟨rfl, HS2.out.keep (below_drewN (Below.refl _ _) _), HX16.out.keep (below_drewN (Below.refl _ _) _)⟩
                      · have hd2 : decide (t.2.2 ≤ x') = false := decide_eq_false ha2
                        have hu0 : (u1 == 0) = false := by
                          have : ¬ u1 = 0 := fun e => by have := hz.1 e; omega
                          simpa using this
                        clear hz ha1 ha2
                        go_quiet (fail)
                        go_wp2_with fail
                        go_meet
                        exact ⟨rfl, HS2.out.keep (below_drewN (Below.refl _ _) _), HX16.out.keep (below_drewN (Below.refl _ _) _)⟩
              case rest =>
                obtain ⟨rfl, hs3, hX3⟩ := hcut
                obtain ⟨we, hwe⟩ : ∃ we, we = wc := ⟨_, rfl⟩
                subst hwe
                obtain ⟨p2, q2, hpq⟩ : ∃ p2 q2, AX.prod ((r.zip A).take (k + 1)) = (p2, q2) := ⟨_, _, rfl⟩
                have hstep := AX.scalar_step (by rw [HATL.out]; exact HRT.out) HCO.out HT.out HXK.out
                rw [HPP.out.2, HU.out, hpq] at hstep
                have HTM : Hid (∀ V, Calls Try.prog 38 #[.agg #[.int .i64 p, .int .i64 q], .agg #[.int .i64 u1, .int .i64 u2]] V fun e w' => e = .returned (.tuple #[.agg #[.int .i64 p2, .int .i64 q2], .bool true]) ∧ Below V.heap.size V w') := Lib.hid fun V => by
                  have h := F.times_any p q u1 u2 V
                  rw [hstep] at h
                  exact h
                have HPQ := Lib.hid hpq
                have HS3 := Lib.hid hs3
                have e0 := hs3.cell0
                have e1 := hs3.cell1
                obtain ⟨x0, x1⟩ := hX3.cells
                clear hstep hpq hs3 hX3 y0' y1' y2' yk' x0' x1'
                go_wp2_with fail
                refine (HTM.out _).mono ?_
                rintro e w18 ⟨rfl, hb18⟩
                have hs4 := HS3.out.keep hb18
                have HS4 := Lib.hid hs4
                clear hb18 e0 e1 x0 x1 hs4
                go_upto_region 19 with fail
                obtain ⟨W19, hW19⟩ : ∃ W19, w18.alloc (.cells #[.int .i64 p2, .int .i64 q2] 50) = W19 := ⟨_, rfl⟩
                have h19 := heap_alloc_new w18 (.cells #[.int .i64 p2, .int .i64 q2] 50)
                have hb19 : Below w18.heap.size w18 W19 := by rw [← hW19]; exact balloc (Below.refl _ _) _
                rw [hW19] at h19
                try rw [hW19]
                have z0 := cell_of h19 (i := 0) rfl
                have z1 := cell_of h19 (i := 1) rfl
                have hs5 := HS4.out.keep hb19
                have e0 := hs5.cell0
                have e1 := hs5.cell1
                have ef0 := hs5.frozen 0
                have ef1 := hs5.frozen 1
                have HS5 := Lib.hid (hs5.put p2 q2)
                clear hs5 h19 hb19 hW19
                go_wp2_with fail
                go_roundw
                case rel => exact ⟨k + 1, pkAt r A (k + 1), p2, q2, by go_num, hkn, HS5.out, Lib.hid ⟨rfl, HPQ.out⟩⟩
                case measure => simp [intOf]; omega
        · obtain rfl : n = k := by omega
          have HSA : Hid (AX.scalar r A = (p, q)) := Lib.hid (by rw [AX.scalar_all (by rw [HATL.out]; exact HRT.out) HCO.out, HATL.out]; exact hpp.out.2)
          have HPA : Hid (P = AX.peaks r A) := Lib.hid (by rw [hpp.out.1]; exact pk_end HATL.out (by rw [AX.peaks_len (by rw [HRLN.out, HATL.out]), HATL.out]))
          have HSK : Hid (AX.scalar r P = (1, 1)) := Lib.hid (by rw [HPA.out]; exact AX.scalar_peaks (by rw [HATL.out]; exact HRT.out) HCO.out)
          have HPLN : Hid (P.length = n) := Lib.hid (by rw [HPA.out, AX.peaks_len (by rw [HRLN.out, HATL.out]), HATL.out])
          have HPIN : Hid (∀ V, Below wp.heap.size wp V → InAt V (.slice sa n sc) P) := Lib.hid fun V hV => (InAt.of (row_own HSp.out.own (by rw [List.length_map]; exact HPLN.out.symm))).keep hV
          have cd := HBXD.out wp hs.bel
          clear hs
          have hpp1 : (p != p) = false := by simp
          have hqq1 : (q != q) = false := by simp
          have HATP : Hid (∀ V, Below wp.heap.size wp V → InAt V (.slice uaa n uac) A) := Lib.hid fun V hV => HATX.out V (bnext HB12.out (bnext HBp.out hV))
          have HS22 : Hid (∀ V, Below wp.heap.size wp V → (fun w' => w'.cell? ⟨D, 0, none⟩ = some (.slice ra n rc) ∧ w'.cell? ⟨E, 0, none⟩ = some (.int .i64 p) ∧ w'.cell? ⟨E, 1, none⟩ = some (.int .i64 q)) V) := Lib.hid fun V hV => ⟨HBXD.out V (bnext HBp.out hV), (HSp.out.keep hV).cell0, (HSp.out.keep hV).cell1⟩
          clear cd
          go_upto_region 22 with fail
          refine wp_region_held_drew (S := fun w' => w'.cell? ⟨D, 0, none⟩ = some (.slice ra n rc) ∧ w'.cell? ⟨E, 0, none⟩ = some (.int .i64 p) ∧ w'.cell? ⟨E, 1, none⟩ = some (.int .i64 q)) (by kernel_rfl) ?_ (fun hHeld => ?_)
          · first | exact HS22.out _ a31 | exact HS22.out _ a30 | exact HS22.out _ (Below.drew (Below.refl _ wp))
          refine wpAnyH_take (i := 0) (oi := { dst := some 108, op := Op.load 42 (Operand.tmp 9), type := 42, pos := "law.go:235", after := #[], guard := none }) (v := ?_) rfl (by kernel_rfl) (by kernel_rfl) (by kernel_rfl) (fun _ _ _ h => h) (Or.inl ⟨by rfl, ?_⟩) (by assumption) ?_
          rotate_left
          · ((intro w hSw; (try dsimp only at hSw); go_simp; (try rw [if_neg (by omega)])); try with_reducible rfl)
          (try simp only [Act.put, List.setIfInBounds_toArray, List.set_cons_zero, List.set_cons_succ])
          refine wpAnyH_take (i := 1) (oi := { dst := some 109, op := Op.move (Operand.tmp 7), type := 25, pos := "law.go:235", after := #[], guard := none }) (v := ?_) rfl (by kernel_rfl) (by kernel_rfl) (by kernel_rfl) (fun _ _ _ h => h) (Or.inl ⟨by rfl, ?_⟩) (by assumption) ?_
          rotate_left
          · ((intro w hSw; (try dsimp only at hSw); go_simp; (try rw [if_neg (by omega)])); try with_reducible rfl)
          (try simp only [Act.put, List.setIfInBounds_toArray, List.set_cons_zero, List.set_cons_succ])
          refine wpAnyH_take (i := 3) (oi := { dst := some 111, op := Op.load 50 (Operand.tmp 11), type := 50, pos := "law.go:235", after := #[], guard := none }) (v := ?_) rfl (by kernel_rfl) (by kernel_rfl) (by kernel_rfl) (fun _ _ _ h => h) (Or.inl ⟨by rfl, ?_⟩) (by assumption) ?_
          rotate_left
          · ((intro w hSw; (try dsimp only at hSw); go_simp; (try rw [if_neg (by omega)])); try with_reducible rfl)
          (try simp only [Act.put, List.setIfInBounds_toArray, List.set_cons_zero, List.set_cons_succ])
          refine wpAnyH_ready (rs := [2]) (by kernel_rfl) (by simp) ?_
          refine AllReadyH.cons (o := { dst := some 110, op := Op.call { callee := Callee.value (Operand.func 25), args := #[Operand.tmp 108, Operand.tmp 109], argTypes := #[42, 25] }, type := 50, pos := "law.go:235", after := #[{ on := 0, ground := Ground.data }, { on := 1, ground := Ground.data }], guard := none }) rfl (fun K hK => ?_) ?_
          · (go_simp; go_at_call 25; refine (scalar_c' HSA.out _ _ _ (by rw [HRLN.out]; omega) (by rw [HATL.out]; omega) (HTD.out _ (bnext HBp.out (Below.drew (Below.refl _ wp)))) (HATP.out _ (Below.drew (Below.refl _ wp)))).mono ?_; rintro e w30 ⟨rfl, hb30⟩; have a30 := bnext (Below.drew (Below.refl _ wp)) hb30; dsimp only)
            refine hK.out _ _ ?_ (fun hHeld => ?_)
            · first | exact HS22.out _ a31 | exact HS22.out _ a30 | exact HS22.out _ (Below.drew (Below.refl _ wp))
            clear hK K
            (try simp only [Act.put, List.setIfInBounds_toArray, List.set_cons_zero, List.set_cons_succ])
            refine wpAnyH_take (i := 4) (oi := { dst := some 112, op := Op.binOp BinOp.neq 50 (Operand.tmp 110) (Operand.tmp 111) 50, type := 4, pos := "law.go:235", after := #[{ on := 2, ground := Ground.data }, { on := 3, ground := Ground.data }], guard := none }) (v := ?_) rfl (by kernel_rfl) (by kernel_rfl) (by kernel_rfl) (fun _ _ _ h => h) (Or.inl ⟨by rfl, ?_⟩) (by assumption) ?_
            rotate_left
            · ((intro w hSw; (try dsimp only at hSw); go_simp; (try rw [if_neg (by omega)])); try with_reducible rfl)
            (try simp only [Act.put, List.setIfInBounds_toArray, List.set_cons_zero, List.set_cons_succ])
            refine wpAnyH_take (i := 5) (oi := { dst := some 113, op := Op.move (Operand.tmp 112), type := 4, pos := "law.go:235", after := #[{ on := 4, ground := Ground.data }, { on := 2, ground := Ground.chain }], guard := none }) (v := ?_) rfl (by kernel_rfl) (by kernel_rfl) (by kernel_rfl) (fun _ _ _ h => h) (Or.inl ⟨by rfl, ?_⟩) (by assumption) ?_
            rotate_left
            · ((intro w hSw; (try dsimp only at hSw); go_simp; (try rw [if_neg (by omega)])); try with_reducible rfl)
            (try simp only [Act.put, List.setIfInBounds_toArray, List.set_cons_zero, List.set_cons_succ])
            refine wpAnyH_take (i := 6) (oi := { dst := some 114, op := Op.load 42 (Operand.tmp 9), type := 42, pos := "law.go:235", after := #[{ on := 5, ground := Ground.guard }], guard := some (5, false) }) (v := ?_) rfl (by kernel_rfl) (by kernel_rfl) (by kernel_rfl) (fun _ _ _ h => h) (Or.inl ⟨by rfl, ?_⟩) (by assumption) ?_
            rotate_left
            · ((intro w hSw; (try dsimp only at hSw); go_simp; (try rw [if_neg (by omega)])); try with_reducible rfl)
            (try simp only [Act.put, List.setIfInBounds_toArray, List.set_cons_zero, List.set_cons_succ])
            refine wpAnyH_take (i := 7) (oi := { dst := some 115, op := Op.move (Operand.tmp 10), type := 25, pos := "law.go:235", after := #[{ on := 5, ground := Ground.guard }], guard := some (5, false) }) (v := ?_) rfl (by kernel_rfl) (by kernel_rfl) (by kernel_rfl) (fun _ _ _ h => h) (Or.inl ⟨by rfl, ?_⟩) (by assumption) ?_
            rotate_left
            · ((intro w hSw; (try dsimp only at hSw); go_simp; (try rw [if_neg (by omega)])); try with_reducible rfl)
            (try simp only [Act.put, List.setIfInBounds_toArray, List.set_cons_zero, List.set_cons_succ])
            refine wpAnyH_take (i := 9) (oi := { dst := some 117, op := Op.build 50 #[(0, Operand.const (Value.int IntKind.i64 1)), (1, Operand.const (Value.int IntKind.i64 1))], type := 50, pos := "law.go:235", after := #[{ on := 5, ground := Ground.guard }], guard := some (5, false) }) (v := ?_) rfl (by kernel_rfl) (by kernel_rfl) (by kernel_rfl) (fun _ _ _ h => h) (Or.inl ⟨by rfl, ?_⟩) (by assumption) ?_
            rotate_left
            · ((intro w hSw; (try dsimp only at hSw); go_simp; (try rw [if_neg (by omega)])); try with_reducible rfl)
            (try simp only [Act.put, List.setIfInBounds_toArray, List.set_cons_zero, List.set_cons_succ])
            refine wpAnyH_ready (rs := [8]) (by kernel_rfl) (by simp) ?_
            refine AllReadyH.cons (o := { dst := some 116, op := Op.call { callee := Callee.value (Operand.func 25), args := #[Operand.tmp 114, Operand.tmp 115], argTypes := #[42, 25] }, type := 50, pos := "law.go:235", after := #[{ on := 6, ground := Ground.data }, { on := 7, ground := Ground.data }, { on := 5, ground := Ground.chain }, { on := 5, ground := Ground.guard }], guard := some (5, false) }) rfl (fun K hK => ?_) ?_
            · (go_simp; go_at_call 25; refine (scalar_c' HSK.out _ _ _ (by rw [HRLN.out]; omega) (by rw [HPLN.out]; omega) (HTD.out _ (bnext HBp.out a30)) (HPIN.out _ a30)).mono ?_; rintro e w31 ⟨rfl, hb31⟩; have a31 := bnext a30 hb31; dsimp only)
              refine hK.out _ _ ?_ (fun hHeld => ?_)
              · first | exact HS22.out _ a31 | exact HS22.out _ a30 | exact HS22.out _ (Below.drew (Below.refl _ wp))
              clear hK K
              (try simp only [Act.put, List.setIfInBounds_toArray, List.set_cons_zero, List.set_cons_succ])
              refine wpAnyH_take (i := 10) (oi := { dst := some 118, op := Op.binOp BinOp.neq 50 (Operand.tmp 116) (Operand.tmp 117) 50, type := 4, pos := "law.go:235", after := #[{ on := 8, ground := Ground.data }, { on := 9, ground := Ground.data }, { on := 5, ground := Ground.guard }], guard := some (5, false) }) (v := ?_) rfl (by kernel_rfl) (by kernel_rfl) (by kernel_rfl) (fun _ _ _ h => h) (Or.inl ⟨by rfl, ?_⟩) (by assumption) ?_
              rotate_left
              · ((intro w hSw; (try dsimp only at hSw); go_simp; (try rw [if_neg (by omega)])); try with_reducible rfl)
              (try simp only [Act.put, List.setIfInBounds_toArray, List.set_cons_zero, List.set_cons_succ])
              refine wpAnyH_take (i := 11) (oi := { dst := some 119, op := Op.pick (Operand.tmp 113) (Operand.const (Value.bool true)) (Operand.tmp 118), type := 4, pos := "law.go:235", after := #[{ on := 5, ground := Ground.data }, { on := 10, ground := Ground.data }], guard := none }) (v := ?_) rfl (by kernel_rfl) (by kernel_rfl) (by kernel_rfl) (fun _ _ _ h => h) (Or.inl ⟨by rfl, ?_⟩) (by assumption) ?_
              rotate_left
              · ((intro w hSw; (try dsimp only at hSw); go_simp; (try rw [if_neg (by omega)])); try with_reducible rfl)
              (try simp only [Act.put, List.setIfInBounds_toArray, List.set_cons_zero, List.set_cons_succ])
              refine wpAnyH_done (by kernel_rfl) ?_ _
              have H31 := Lib.hid a31
              clear hb30 hb31 a30 a31
              have HBW31 := Lib.hid (bnext HB12.out (bnext HBp.out H31.out))
              have ha0 : 0 ≤ a1 ∧ a1 ≤ 255 := by
                have h := wa1
                have hmin : IntKind.u8.min = 0 := rfl
                have hmax : IntKind.u8.max = 255 := rfl
                simp only [Lit.wf, Bool.and_eq_true, decide_eq_true_eq] at h
                omega
              obtain ⟨hq0, hq1⟩ := ha0
              by_cases hn0 : 0 < n
              · have hni : (0 : Int) < (n : Int) := by omega
                have hnz : ¬ (n : Int) = 0 := by omega
                obtain ⟨kk, hkq⟩ : ∃ kk : Nat, a1 % (n : Int) = (kk : Int) := ⟨(a1 % (n : Int)).toNat, by rw [Int.toNat_of_nonneg (Int.emod_nonneg _ hnz)]⟩
                have hkn2 : kk < n := by have := Int.emod_lt_of_pos a1 hni; omega
                have hki2 : (kk : Int) < (n : Int) := by omega
                have hkk0 : (0 : Int) ≤ (kk : Int) := by omega
                have hnpos : (1 : Int) ≤ (n : Int) := by omega
                go_upto_region 26 with fail
                go_upto_region 27 with (at_builtin; refine wpList_appN _ rfl _ _ 25 rfl w31.heap.size 3 ii _ 1 8 Try.underlying25 hii hi0 hi1 hi2 rfl (by decide) _ _ _ rfl (own_empty w31 3 1 w31.heap.size (Nat.le_refl _)) _ n (A.map (Value.int .i64)) rfl (HSRC.out _ (balloc (bnext HBp.out H31.out) _)) (ints_one _) (by unfold maxLen; omega) (by omega) (by simp) ?_; intro v' w40 hown' hgrow hat; rw [Nat.zero_add, List.nil_append] at hown'; obtain ⟨sb, sd, rfl⟩ := own_shape hown')
                have hb40 : Below w31.heap.size w31 w40 := (balloc (Below.refl _ w31) _).grown hgrow (by simp) (fun j ej => by have : w31.heap.size = j := Option.some.inj ej; omega)
                have HB40 := Lib.hid hb40
                have HP40 := Lib.hid (bnext H31.out hb40)
                obtain ⟨gs, rfl, hgs⟩ : ∃ gs, sb = some ⟨gs, 0, none⟩ ∧ w31.heap.size ≤ gs := by
                  rcases hown'.2 with ⟨h1, h2⟩ | ⟨g, cap, cur, e, hb, _⟩
                  · injection h1 with h1 h2
                    omega
                  · injection e with e1 e2 e3
                    exact ⟨g, e1, hb⟩
                have HGS : Hid (wp.heap.size ≤ gs) := Lib.hid (Nat.le_trans H31.out.size hgs)
                obtain ⟨x', hx'⟩ : ∃ t, A[kk]? = some t := ⟨A[kk]'(by rw [HATL.out]; exact hkn2), List.getElem?_eq_getElem _⟩
                obtain ⟨t, ht⟩ : ∃ t, r[kk]? = some t := ⟨r[kk]'(by rw [HRLN.out]; exact hkn2), List.getElem?_eq_getElem _⟩
                have hxx := ((AX.coords_iff _).1 HCO.out).1 x' (List.mem_of_getElem? hx')
                have htt := ((AX.right_iff _ _).1 HRT.out).2 t (List.mem_of_getElem? ht)
                rw [AX.coord_iff] at hxx
                obtain ⟨hx0', hx1'⟩ := hxx
                have HO40 := Lib.hid hown'
                have HXK := Lib.hid hx'
                have hrA : AX.right r (A.length : Int) = true := by rw [HATL.out]; exact HRT.out
                have hsc := AX.scalar_closer hrA HCO.out ht hx'
                obtain ⟨C, hC⟩ : ∃ C, A.set kk (AX.closer t x') = C := ⟨_, rfl⟩
                have HCE := Lib.hid hC
                have hCl : C.length = n := by rw [← hC, List.length_set, HATL.out]
                have HCL := Lib.hid hCl
                have hg1 := AX.scalar_rgt' hrA HCO.out
                have hg2 := AX.scalar_rgt' (l := r) (at' := C) (by rw [hCl]; exact HRT.out) (by rw [← hC]; exact AX.coords_set HCO.out kk (AX.closer_coord htt (((AX.coords_iff _).1 HCO.out).1 x' (List.mem_of_getElem? hx'))))
                obtain ⟨c1, c2, hcc⟩ : ∃ c1 c2, AX.scalar r C = (c1, c2) := ⟨_, _, rfl⟩
                have HSC2 := Lib.hid hcc
                rw [hC, hcc, HSA.out] at hsc
                rw [HSA.out] at hg1
                rw [hcc] at hg2
                dsimp only at hsc hg1 hg2
                obtain ⟨m1, hm1⟩ : ∃ m1, c1 * q = m1 := ⟨_, rfl⟩
                obtain ⟨m2, hm2⟩ : ∃ m2, p * c2 = m2 := ⟨_, rfl⟩
                have hb1 : 0 ≤ m1 ∧ m1 ≤ 68719476736 := by rw [← hm1]; exact mul_bd hg2.n0 (Int.le_trans hg2.nd hg2.d2) (by have := hg1.d1; omega) hg1.d2
                have hb2 : 0 ≤ m2 ∧ m2 ≤ 68719476736 := by rw [← hm2]; exact mul_bd hg1.n0 (Int.le_trans hg1.nd hg1.d2) (by have := hg2.d1; omega) hg2.d2
                rw [hm1, hm2] at hsc
                have hcmp : decide (m1 < m2) = false := decide_eq_false (by omega)
                obtain ⟨hb11, hb12⟩ := hb1
                obtain ⟨hb21, hb22⟩ := hb2
                obtain ⟨a', c', e1, hcw⟩ := HTD.out w40 (bnext HBp.out HP40.out)
                rw [HRLN.out] at e1
                injection e1 with e1 e2 e3
                subst e1 e3
                rcases hcw with h | ⟨gt, ot, rfl, hgt, hcl⟩
                · rw [h] at ht
                  simp at ht
                obtain ⟨t0, t1, t2⟩ := hcl kk t ht
                obtain ⟨ga, oa2, rfl, hga, yk, -⟩ := in_one (HATX.out w40 (bnext HB12.out (bnext HBp.out HP40.out))) hx'
                have cd := HBXD.out w40 (bnext HBp.out HP40.out)
                clear hcl hown' hgrow hat hb40 hgs hx' ht htt hrA hC hCl hcc hsc hg1 hg2 hga hgt
                by_cases hlt1 : x' < t.2.1
                · have hd1 : decide (x' < t.2.1) = true := decide_eq_true hlt1
                  go_quiet (fail)
                  obtain ⟨w41, hw41⟩ : ∃ w41, w40.drewN nq = w41 := ⟨_, rfl⟩
                  have hb41 : Below w40.heap.size w40 w41 := by rw [← hw41]; exact below_drewN (Below.refl _ _) nq
                  try rw [hw41]
                  have ho41 := own_below HO40.out hb41
                  have zc := ho41.cellAt kk (by omega)
                  rw [List.getElem?_map, HXK.out] at zc
                  have zf := ho41.frozenAt kk
                  have HB41 := Lib.hid hb41
                  clear hw41
                  clear cd
                  go_upto_region 31 with fail
                  obtain ⟨w42, hw42⟩ : ∃ w42, w41.setCell ⟨gs, kk, none⟩ (.int .i64 (x' + 1)) = w42 := ⟨_, rfl⟩
                  have hr42 := (ho41.stored kk (.int .i64 (x' + 1))).1
                  have hrw := hw42
                  try rw [hw42]
                  have HP42 : Hid (Below wp.heap.size wp w42) := Lib.hid (by rw [← hw42]; exact bset (bnext H31.out (bnext HB40.out hb41)) (p := ⟨gs, kk, none⟩) HGS.out _)
                  have HB42 : Hid (Below W12.heap.size W12 w42) := Lib.hid (bnext HBp.out HP42.out)
                  replace hr42 : w42.ownsRow w31.heap.size 3 1 (.slice (some ⟨gs, 0, none⟩) n sd) n (C.map (Value.int .i64)) := by
                    rw [← hw42, ← HCE.out, show AX.closer t x' = (x' + 1) by unfold AX.closer; rw [if_pos hlt1], List.map_set]
                    exact hr42
                  clear hb41 ho41 zc zf hw42 hrw
                  have HR42 : Hid (InAt w42 (.slice (some ⟨gs, 0, none⟩) n sd) C) := Lib.hid (InAt.of (row_own hr42 (by rw [List.length_map, HCL.out])))
                  have cd := HBXD.out w42 HB42.out
                  clear hr42 t0 t1 t2 yk
                  go_wp2_with fail
                  refine (scalar_c' HSC2.out _ _ _ (by rw [HRLN.out]; omega) (by rw [HCL.out]; omega) (HTD.out _ HB42.out) HR42.out).mono ?_
                  rintro e w43 ⟨rfl, hb43⟩
                  have HP43 := Lib.hid (bnext HP42.out hb43)
                  have HB43 := Lib.hid (bnext HB42.out hb43)
                  clear hb43 cd
                  go_upto_region 32 with fail
                  obtain ⟨W44, hW44⟩ : ∃ W44, w43.alloc (.cells #[.int .i64 c1, .int .i64 c2] 50) = W44 := ⟨_, rfl⟩
                  have h44 := heap_alloc_new w43 (.cells #[.int .i64 c1, .int .i64 c2] 50)
                  have hb44 : Below w43.heap.size w43 W44 := by rw [← hW44]; exact balloc (Below.refl _ _) _
                  rw [hW44] at h44
                  try rw [hW44]
                  have z0 := cell_of h44 (i := 0) rfl
                  have z1 := cell_of h44 (i := 1) rfl
                  have e0 := (HSp.out.keep (bnext HP43.out hb44)).cell0
                  have e1 := (HSp.out.keep (bnext HP43.out hb44)).cell1
                  have HB44 := Lib.hid (bnext HB12.out (bnext HB43.out hb44))
                  clear h44 hb44 hW44
                  go_wp2_with fail
                  go_roundw
                  case rel => exact ⟨j + 1, by go_num, hjr, HB44.out⟩
                  case measure => simp [intOf]; omega
                · have hd1 : decide (x' < t.2.1) = false := decide_eq_false hlt1
                  by_cases hlt2 : t.2.1 < x'
                  · have hd2 : decide (t.2.1 < x') = true := decide_eq_true hlt2
                    go_quiet (fail)
                    obtain ⟨wv, hwv⟩ : ∃ wv, w40.drewN nq = wv := ⟨_, rfl⟩
                    have hbv : Below w40.heap.size w40 wv := by rw [← hwv]; exact below_drewN (Below.refl _ _) nq
                    try rw [hwv]
                    have t1' := (hbv.cell (p := ⟨gt, ot + kk * 3 + 1, none⟩) (World.block_lt_of_cell? _ _ t1)).trans t1
                    have yk' := (hbv.cell (p := ⟨ga, oa2 + kk, none⟩) (World.block_lt_of_cell? _ _ yk)).trans yk
                    have cd' := (hbv.cell (p := ⟨D, 0, none⟩) (World.block_lt_of_cell? _ _ cd)).trans cd
                    clear hwv cd
                    go_upto_region 29 with fail
                    go_quiet (fail)
                    clear t1' yk' cd'
                    obtain ⟨w41, hw41⟩ : ∃ w41, wv.drewN nq = w41 := ⟨_, rfl⟩
                    have hb41 : Below w40.heap.size w40 w41 := by rw [← hw41]; exact below_drewN hbv nq
                    try rw [hw41]
                    have ho41 := own_below HO40.out hb41
                    have zc := ho41.cellAt kk (by omega)
                    rw [List.getElem?_map, HXK.out] at zc
                    have zf := ho41.frozenAt kk
                    have HB41 := Lib.hid hb41
                    clear hw41
                    clear hbv
                    go_upto_region 31 with fail
                    obtain ⟨w42, hw42⟩ : ∃ w42, w41.setCell ⟨gs, kk, none⟩ (.int .i64 (x' - 1)) = w42 := ⟨_, rfl⟩
                    have hr42 := (ho41.stored kk (.int .i64 (x' - 1))).1
                    have hrw := hw42
                    try rw [hw42]
                    have HP42 : Hid (Below wp.heap.size wp w42) := Lib.hid (by rw [← hw42]; exact bset (bnext H31.out (bnext HB40.out hb41)) (p := ⟨gs, kk, none⟩) HGS.out _)
                    have HB42 : Hid (Below W12.heap.size W12 w42) := Lib.hid (bnext HBp.out HP42.out)
                    replace hr42 : w42.ownsRow w31.heap.size 3 1 (.slice (some ⟨gs, 0, none⟩) n sd) n (C.map (Value.int .i64)) := by
                      rw [← hw42, ← HCE.out, show AX.closer t x' = (x' - 1) by unfold AX.closer; rw [if_neg hlt1, if_pos hlt2], List.map_set]
                      exact hr42
                    clear hb41 ho41 zc zf hw42 hrw
                    have HR42 : Hid (InAt w42 (.slice (some ⟨gs, 0, none⟩) n sd) C) := Lib.hid (InAt.of (row_own hr42 (by rw [List.length_map, HCL.out])))
                    have cd := HBXD.out w42 HB42.out
                    clear hr42 t0 t1 t2 yk
                    go_wp2_with fail
                    refine (scalar_c' HSC2.out _ _ _ (by rw [HRLN.out]; omega) (by rw [HCL.out]; omega) (HTD.out _ HB42.out) HR42.out).mono ?_
                    rintro e w43 ⟨rfl, hb43⟩
                    have HP43 := Lib.hid (bnext HP42.out hb43)
                    have HB43 := Lib.hid (bnext HB42.out hb43)
                    clear hb43 cd
                    go_upto_region 32 with fail
                    obtain ⟨W44, hW44⟩ : ∃ W44, w43.alloc (.cells #[.int .i64 c1, .int .i64 c2] 50) = W44 := ⟨_, rfl⟩
                    have h44 := heap_alloc_new w43 (.cells #[.int .i64 c1, .int .i64 c2] 50)
                    have hb44 : Below w43.heap.size w43 W44 := by rw [← hW44]; exact balloc (Below.refl _ _) _
                    rw [hW44] at h44
                    try rw [hW44]
                    have z0 := cell_of h44 (i := 0) rfl
                    have z1 := cell_of h44 (i := 1) rfl
                    have e0 := (HSp.out.keep (bnext HP43.out hb44)).cell0
                    have e1 := (HSp.out.keep (bnext HP43.out hb44)).cell1
                    have HB44 := Lib.hid (bnext HB12.out (bnext HB43.out hb44))
                    clear h44 hb44 hW44
                    go_wp2_with fail
                    go_roundw
                    case rel => exact ⟨j + 1, by go_num, hjr, HB44.out⟩
                    case measure => simp [intOf]; omega
                  · have hd2 : decide (t.2.1 < x') = false := decide_eq_false hlt2
                    go_quiet (fail)
                    obtain ⟨wv, hwv⟩ : ∃ wv, w40.drewN nq = wv := ⟨_, rfl⟩
                    have hbv : Below w40.heap.size w40 wv := by rw [← hwv]; exact below_drewN (Below.refl _ _) nq
                    try rw [hwv]
                    have t1' := (hbv.cell (p := ⟨gt, ot + kk * 3 + 1, none⟩) (World.block_lt_of_cell? _ _ t1)).trans t1
                    have yk' := (hbv.cell (p := ⟨ga, oa2 + kk, none⟩) (World.block_lt_of_cell? _ _ yk)).trans yk
                    have cd' := (hbv.cell (p := ⟨D, 0, none⟩) (World.block_lt_of_cell? _ _ cd)).trans cd
                    clear hwv cd
                    go_upto_region 29 with fail
                    go_quiet (fail)
                    clear t1' yk' cd'
                    obtain ⟨w41, hw41⟩ : ∃ w41, wv.drewN nq = w41 := ⟨_, rfl⟩
                    have hb41 : Below w40.heap.size w40 w41 := by rw [← hw41]; exact below_drewN hbv nq
                    try rw [hw41]
                    have ho41 := own_below HO40.out hb41
                    have zc := ho41.cellAt kk (by omega)
                    rw [List.getElem?_map, HXK.out] at zc
                    have zf := ho41.frozenAt kk
                    have HB41 := Lib.hid hb41
                    clear hw41
                    clear hbv
                    go_upto_region 31 with fail
                    obtain ⟨w42, hw42⟩ : ∃ w42, w42 = w41 := ⟨_, rfl⟩
                    subst hw42
                    have HP42 : Hid (Below wp.heap.size wp w42) := Lib.hid (bnext H31.out (bnext HB40.out hb41))
                    have HB42 : Hid (Below W12.heap.size W12 w42) := Lib.hid (bnext HBp.out HP42.out)
                    have hr42 : w42.ownsRow w31.heap.size 3 1 (.slice (some ⟨gs, 0, none⟩) n sd) n (C.map (Value.int .i64)) := by
                      rw [← HCE.out, show AX.closer t x' = x' by unfold AX.closer; rw [if_neg hlt1, if_neg hlt2], set_same HXK.out]
                      exact ho41
                    clear hb41 ho41 zc zf
                    have HR42 : Hid (InAt w42 (.slice (some ⟨gs, 0, none⟩) n sd) C) := Lib.hid (InAt.of (row_own hr42 (by rw [List.length_map, HCL.out])))
                    have cd := HBXD.out w42 HB42.out
                    clear hr42 t0 t1 t2 yk
                    go_wp2_with fail
                    refine (scalar_c' HSC2.out _ _ _ (by rw [HRLN.out]; omega) (by rw [HCL.out]; omega) (HTD.out _ HB42.out) HR42.out).mono ?_
                    rintro e w43 ⟨rfl, hb43⟩
                    have HP43 := Lib.hid (bnext HP42.out hb43)
                    have HB43 := Lib.hid (bnext HB42.out hb43)
                    clear hb43 cd
                    go_upto_region 32 with fail
                    obtain ⟨W44, hW44⟩ : ∃ W44, w43.alloc (.cells #[.int .i64 c1, .int .i64 c2] 50) = W44 := ⟨_, rfl⟩
                    have h44 := heap_alloc_new w43 (.cells #[.int .i64 c1, .int .i64 c2] 50)
                    have hb44 : Below w43.heap.size w43 W44 := by rw [← hW44]; exact balloc (Below.refl _ _) _
                    rw [hW44] at h44
                    try rw [hW44]
                    have z0 := cell_of h44 (i := 0) rfl
                    have z1 := cell_of h44 (i := 1) rfl
                    have e0 := (HSp.out.keep (bnext HP43.out hb44)).cell0
                    have e1 := (HSp.out.keep (bnext HP43.out hb44)).cell1
                    have HB44 := Lib.hid (bnext HB12.out (bnext HB43.out hb44))
                    clear h44 hb44 hW44
                    go_wp2_with fail
                    go_roundw
                    case rel => exact ⟨j + 1, by go_num, hjr, HB44.out⟩
                    case measure => simp [intOf]; omega
              · have hni : ¬ (0 : Int) < (n : Int) := by omega
                go_wp2_with fail
                go_roundw
                case rel => exact ⟨j + 1, by go_num, hjr, HBW31.out⟩
                case measure => simp [intOf]; omega
            exact AllReadyH.nil
          exact AllReadyH.nil
    · obtain rfl : rl = j := by omega
      clear hb
      go_wp2
      go_ret
      exact ⟨by rfl, bnext HB3.out (bnext HB310.out HBq.out)⟩

set_option maxRecDepth 100000 in
theorem lifted (os : Os) (started : os.Started) (H : Type) (enc : TypeId × Value → H) :
    ReturnsInHanded {} Try.checked os 8 .any (Rows.axesPeaksSpec.pre6 enc Try.prog Try.f8 Rows.axesPeaksRow.domain false) (Rows.axesPeaksSpec.post enc Try.prog Try.f8 false true false false) := by
  refine returnsInHanded_of_change (C := Try.checked) own started (by kernel_rfl) Try.func8
    (ChangeSpec.witness6 (enc := enc) (C := Try.checked) false ⟨#[], #[.agg #[.slice none 0 0, .slice none 0 0, .slice none 0 0, .slice none 0 0, .int .u8 0], .int .u8 0], []⟩ 8 (by kernel_rfl) (by kernel_rfl) (by kernel_rfl) (by kernel_rfl)) ?_
  intro W base args ds gs before hval0 hW hcnd _
  have hval : ∀ (j : Nat) t v, Try.f8.params[j]? = some t → args[j]? = some v → Value.okWide Try.prog W .any base t v := hval0
  have hW' := hW
  obtain ⟨p, q, hA0, hV, rfl, hfz, hnd⟩ := hW
  have hA : DataW.TrodAll enc Try.prog W 0 (fun _ => true) true Try.f8.params.toList args.toList ds p := hA0
  rw [Try.params8] at hA hval
  obtain ⟨v0, vs0, d0, ds0, p0, q0, hargs, rfl, rfl, h0, r0⟩ := trodAll_cons hA
  obtain ⟨v1, vs1, d1, ds1, p1, q1, rfl, rfl, rfl, h1, r1⟩ := trodAll_cons r0
  obtain ⟨rfl, rfl, rfl⟩ := trodAll_nil r1
  obtain rfl : args = #[v0, v1] := by cases args; simp_all
  obtain ⟨rfl, rfl⟩ := trodVars_none hV
  have k0 := h0
  have lt0 : ∀ x ∈ p0, x.block < W.heap.size := by obtain ⟨m, hm⟩ := k0; exact DataW.trod_lt m _ _ _ hm
  have k1 := h1
  have lt1 : ∀ x ∈ p1, x.block < W.heap.size := by obtain ⟨m, hm⟩ := k1; exact DataW.trod_lt m _ _ _ hm
  obtain ⟨L0, a0, g0, b0, x0, H0⟩ := open_case (hval 0 56 v0 rfl rfl) h0
  obtain ⟨a1, rfl, rfl, rfl, wa1⟩ := open_int Try.underlying5 (hval 1 5 v1 rfl rfl) h1
  clear hA0 hval0
  refine (walk v0 L0 a0 g0 b0 x0 a1 wa1 W H0).mono fun e W' ⟨he, bel⟩ => ?_
  subst he
  exact ⟨_, rfl, _, _, _, [], _, [], hW', trodAll_mk1 (shut_bool Try.underlying4 _), (trodAll_cons_mk (Below.trod laidOut (by kernel_rfl) (of_decide_eq_true (by kernel_rfl)) k0 bel lt0) (trodAll_cons_mk (Below.trod laidOut (by kernel_rfl) (of_decide_eq_true (by kernel_rfl)) k1 bel lt1) trodAll_mk0)), rfl, bel.frame _, fun h => by cases h⟩

theorem over : Rows.axesPeaksRow.holds Try.pinned (OpenSpec.ofChange Rows.axesPeaksSpec) :=
  OpenClaim.holds_of_wide 8 Try.f8 rfl rfl rfl rfl rfl rfl rfl ⟨rfl, rfl, rfl, rfl, rfl⟩ rfl rfl rfl rfl rfl (by kernel_rfl) Try.func8 (by kernel_rfl)
    (of_decide_eq_true (by kernel_rfl)) (by unfold Func.isWrapper; first | (rw [if_pos (by decide +kernel)]; kernel_rfl) | (rw [if_neg (by decide +kernel)]; exact ⟨rfl, rfl⟩))
    (fun os started H enc _ => lifted os started H enc)

end Go.Proofs.Ytbhkbjnmpaebdaa.axesPeaks
namespace Go.Proofs.Ytbhkbjnmpaebdaa
theorem axesPeaks_proved : Rows.AxesPeaksSaid := axesPeaks.over
#print axioms axesPeaks_proved
end Go.Proofs.Ytbhkbjnmpaebdaa
