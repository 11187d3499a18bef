/- Rectangles compared; Cut. No conditions. -/
import Derived.Test.YtmiennkldkcnfaaDoorPn16
namespace Go.Proofs.YtmiennkldkcnfaaDoor
set_option maxRecDepth 100000
set_option linter.unusedVariables false
open Go.RowKit Go.Deep
theorem rplan_any (w : World) (va vb : Value) (A B : List Nat) (pw most : Int) (ha : UA w va A) (hb : UA w vb B) (hA : A.length ≤ 1000000) (hB : B.length ≤ 1000000) (hm2 : most ≤ 9223372036854775807) (hal : ∀ x ∈ A, x < 18446744073709551616) (hbl : ∀ x ∈ B, x < 18446744073709551616) :
    Calls Tryd.prog 23 #[va, vb, .int .i64 pw, .int .i64 most] w fun e W' => ∃ v', e = .returned v' ∧ W'.ownsRow w.heap.size 31 4 v' (planP A B pw most).length (rcs (planP A B pw most)) ∧ Below w.heap.size w W' := by
  by_cases h : planOk A B pw most
  · have e : planP A B pw most = PN.plan A B pw.toNat most.toNat := by unfold planP; rw [if_pos h]
    obtain ⟨h1, h2, h3, h4, h5⟩ := h
    rw [e]
    have := rplan_good w va vb A B pw.toNat most.toNat ha hb (by omega) (by omega) h3 h4 (by omega) (by omega) hal hbl
    rw [Int.toNat_of_nonneg (by omega : (0 : Int) ≤ pw), Int.toNat_of_nonneg (by omega : (0 : Int) ≤ most)] at this
    exact this
  · have e : planP A B pw most = [] := by unfold planP; rw [if_neg h]
    rw [e]
    refine (rplan_none w va vb A B pw most ha hb hA hB h).mono ?_
    rintro e w' ⟨rfl, rfl⟩
    exact ⟨_, rfl, World.ownsRow_nil _ _ _ _, Below.refl _ _⟩
theorem rect_any (W : World) (x y w h : Int) : Calls Tryd.prog 33 #[.int .i64 x, .int .i64 y, .int .i64 w, .int .i64 h] W fun e w' => e = .returned (rcV ⟨x, y, w, h⟩) ∧ Below W.heap.size W w' := by
  have hx := heap_alloc_new W (.cells #[.int .i64 x, .int .i64 y, .int .i64 w, .int .i64 h] 31)
  go_enter Tryd.func33, Tryd.ntmps33
  go_wp2
  refine bodyPost_ret (v := rcV ⟨x, y, w, h⟩) (results_cell_row Tryd.results33 _ _ W.heap.size 31 _ (0, 0) _ rfl hx Tryd.underlying31 rfl (by kernel_rfl)) rfl ?_
  exact ⟨rfl, balloc (Below.refl _ _) _⟩
theorem eq_rc (w : World) (a b : Rc) : (binOp .eql 31 (rcV a) (rcV b)).run Tryd.prog w = .ok (.bool (decide (a = b))) w := by
  obtain ⟨a1, a2, a3, a4⟩ := a
  obtain ⟨b1, b2, b3, b4⟩ := b
  have hd : decide ((⟨a1, a2, a3, a4⟩ : Rc) = ⟨b1, b2, b3, b4⟩) = (a1 == b1 && a2 == b2 && a3 == b3 && a4 == b4) := by
    rw [Bool.eq_iff_iff]
    simp [and_assoc]
  rw [hd]
  have p0 : ∀ a b c d : Int, (part 3 #[.int .i64 a, .int .i64 b, .int .i64 c, .int .i64 d] 0).run Tryd.prog w = .ok (.int .i64 a) w := fun a b c d => by simp [part, isAgg, run_underlying Tryd.underlying3]
  have p1 : ∀ a b c d : Int, (part 3 #[.int .i64 a, .int .i64 b, .int .i64 c, .int .i64 d] 1).run Tryd.prog w = .ok (.int .i64 b) w := fun a b c d => by simp [part, isAgg, run_underlying Tryd.underlying3]
  have p2 : ∀ a b c d : Int, (part 3 #[.int .i64 a, .int .i64 b, .int .i64 c, .int .i64 d] 2).run Tryd.prog w = .ok (.int .i64 c) w := fun a b c d => by simp [part, isAgg, run_underlying Tryd.underlying3]
  have p3 : ∀ a b c d : Int, (part 3 #[.int .i64 a, .int .i64 b, .int .i64 c, .int .i64 d] 3).run Tryd.prog w = .ok (.int .i64 d) w := fun a b c d => by simp [part, isAgg, run_underlying Tryd.underlying3]
  have pe : ∀ a b : Int, (Op.equalIn 9999 3 (.int .i64 a) (.int .i64 b)).run Tryd.prog w = .ok (a == b) w := fun a b => run_equalIn_int w 9998 3 .i64 .i64 _ _ Tryd.underlying3
  simp only [rcV]
  rw [run_eql_struct, Op.equalIn]
  simp only [Sem.run_bind, run_underlying Tryd.underlying31, Result.andThen_ok]
  cases hx : (a1 == b1) <;> cases hy : (a2 == b2) <;> cases hz : (a3 == b3) <;> cases hw : (a4 == b4) <;> simp [p0, p1, p2, p3, pe, hx, hy, hz, hw]
theorem neq_rc (w : World) (a b : Rc) : (binOp .neq 31 (rcV a) (rcV b)).run Tryd.prog w = .ok (.bool (!decide (a = b))) w := by
  have h := eq_rc w a b
  simp only [rcV] at h ⊢
  rw [run_eql_struct] at h
  rw [run_neq_struct]
  generalize (Op.equalIn 10000 31 (.agg #[.int .i64 a.x, .int .i64 a.y, .int .i64 a.w, .int .i64 a.h]) (.agg #[.int .i64 b.x, .int .i64 b.y, .int .i64 b.w, .int .i64 b.h])).run Tryd.prog w = r at h ⊢
  cases r with
  | ok b w' =>
    simp at h ⊢
    obtain ⟨h1, h2⟩ := h
    exact ⟨by rw [h1], h2⟩
  | halt x w' => simp at h
set_option maxHeartbeats 1000000 in
theorem samer_any (W : World) (A B : List Rc) (va vb : Value) (n m : Nat) (hn : A.length = n) (hm : B.length = m) (ha : SrcN 4 W va n (rcs A)) (hb : SrcN 4 W vb m (rcs B)) (hla : n ≤ 1000000) (hlb : m ≤ 1000000) :
    Calls Tryd.prog 21 #[va, vb] W fun e w' => e = .returned (.bool (decide (A = B))) ∧ Below W.heap.size W w' := by
  obtain ⟨aa, ac, rfl, -⟩ := id ha
  obtain ⟨ba, bc, rfl, -⟩ := id hb
  have HNA := Lib.hid hn
  have HMB := Lib.hid hm
  have HA : Hid (∀ U, Below W.heap.size W U → SrcN 4 U (.slice aa n ac) n (rcs A)) := Lib.hid fun U hU => ha.keep hU
  have HB : Hid (∀ U, Below W.heap.size W U → SrcN 4 U (.slice ba m bc) m (rcs B)) := Lib.hid fun U hU => hb.keep hU
  clear hn hm ha hb
  by_cases hnm : n = m
  · subst hnm
    have hne : ((n : Int) != (n : Int)) = false := by simp
    go_enter Tryd.func21, Tryd.ntmps21
    go_wp2
    go_loopw [5] (fun v wr => ∃ i : Nat, v = .int .i64 (i : Int) ∧ i ≤ n ∧ Hid (∀ j, j < i → A[j]? = B[j]?) ∧ Hid (Below W.heap.size W wr)) (fun v _ => n - (intOf v).toNat)
    case atStart => exact ⟨0, rfl, Nat.zero_le _, Lib.hid (fun j h => by omega), Lib.hid (Below.refl _ _)⟩
    case round =>
      obtain ⟨i, rfl, hi, HE, HQ⟩ := hrel
      by_cases hin : i < n
      · have hii : (i : Int) < (n : Int) := by omega
        have hi0 : (0 : Int) ≤ (i : Int) := by omega
        obtain ⟨x, hx⟩ : ∃ x, A[i]? = some x := ⟨A[i]'(by rw [HNA.out]; exact hin), List.getElem?_eq_getElem _⟩
        obtain ⟨y, hy⟩ : ∃ y, B[i]? = some y := ⟨B[i]'(by rw [HMB.out]; exact hin), List.getElem?_eq_getElem _⟩
        obtain ⟨ga, oa, rfl, -, k0, k1, k2, k3⟩ := rc_at (HA.out wr HQ.out) hx
        obtain ⟨gb, ob, rfl, -, l0, l1, l2, l3⟩ := rc_at (HB.out wr HQ.out) hy
        obtain ⟨d, hd⟩ : ∃ d, decide (x = y) = d := ⟨_, rfl⟩
        have hneq : ∀ w, (binOp .neq 31 (.agg #[.int .i64 x.x, .int .i64 x.y, .int .i64 x.w, .int .i64 x.h]) (.agg #[.int .i64 y.x, .int .i64 y.y, .int .i64 y.w, .int .i64 y.h])).run Tryd.prog w = .ok (.bool (!d)) w := fun w => by rw [← hd]; exact neq_rc w x y
        have HX := Lib.hid hx
        have HY := Lib.hid hy
        have HD := Lib.hid hd
        clear hx hy hd
        go_wp2
        go_quiet (fail)
        have HQ2 : Hid (Below W.heap.size W (wr.drewN nq)) := Lib.hid (below_drewN HQ.out _)
        cases d with
        | true =>
          have hxy : x = y := by simpa using HD.out
          have HN : Hid (∀ j, j < i + 1 → A[j]? = B[j]?) := Lib.hid fun j hj => by
            by_cases e : j = i
            · rw [e, HX.out, HY.out, hxy]
            · exact HE.out j (by omega)
          clear hxy k0 k1 k2 k3 l0 l1 l2 l3
          go_wp2
          go_roundw
          case rel => exact ⟨i + 1, by go_num, hin, HN, HQ2⟩
          case measure => simp [intOf]; omega
        | false =>
          have HF : Hid (decide (A = B) = false) := Lib.hid (by
            have hxy : ¬ x = y := by simpa using HD.out
            refine decide_eq_false fun e => hxy ?_
            have h1 := HX.out
            rw [e, HY.out] at h1
            exact (Option.some.inj h1).symm)
          clear k0 k1 k2 k3 l0 l1 l2 l3
          go_wp2
          go_ret
          exact ⟨by rw [HF.out]; rfl, HQ2.out⟩
      · obtain rfl : n = i := by omega
        have HT : Hid (decide (A = B) = true) := Lib.hid (decide_eq_true (List.ext_getElem? fun j => by
          by_cases h : j < n
          · exact HE.out j h
          · rw [List.getElem?_eq_none (by rw [HNA.out]; omega), List.getElem?_eq_none (by rw [HMB.out]; omega)]))
        go_wp2
        go_ret
        exact ⟨by rw [HT.out]; rfl, HQ.out⟩
  · have hne : ((n : Int) != (m : Int)) = true := by simp; omega
    have HF : Hid (decide (A = B) = false) := Lib.hid (decide_eq_false fun e => hnm (by rw [← HNA.out, ← HMB.out, e]))
    go_enter Tryd.func21, Tryd.ntmps21
    go_wp2
    go_ret
    exact ⟨by rw [HF.out]; rfl, Below.refl _ _⟩
/-- The rows of a rectangle. -/
def cutR (R : List Nat) (X Y W n : Nat) : List Nat := (List.range n).map fun k => PN.cutb (R.getD (Y + k) 0) X W
def cutL (R : List Nat) (c : Rc) : List Nat := if wiP c 64 R.length then cutR R c.x.toNat c.y.toNat c.w.toNat c.h.toNat else []
theorem cutR_len (R : List Nat) (X Y W n : Nat) : (cutR R X Y W n).length = n := by simp [cutR]
theorem cutR_succ (R : List Nat) (X Y W n : Nat) : cutR R X Y W (n + 1) = cutR R X Y W n ++ [PN.cutb (R.getD (Y + n) 0) X W] := by
  unfold cutR
  rw [List.range_succ, List.map_append]
  rfl
set_option maxHeartbeats 2000000 in
theorem cut_any (W : World) (R : List Nat) (v : Value) (c : Rc) (hc : rcOk c) (hv : UA W v R) (hl : R.length ≤ 1000000) (hcap : ∀ a n k, v = .slice a n k → n ≤ k) (hr : ∀ x ∈ R, x < 18446744073709551616) :
    Calls Tryd.prog 25 #[v, rcV c] W fun e w' => ∃ v', e = .returned v' ∧ w'.ownsRow W.heap.size 63 1 v' (cutL R c).length ((cutL R c).map U6) ∧ Below W.heap.size W w' := by
  obtain ⟨i0, hi0, hz0, hz1, hz2⟩ := info_parts info_u64
  obtain ⟨va, vc, rfl⟩ := hv.shape
  obtain ⟨N, hN⟩ : ∃ N, R.length = N := ⟨_, rfl⟩
  have hcap2 := hcap _ _ _ rfl
  rw [hN] at hv hl hcap2 ⊢
  have HN := Lib.hid hN
  have HR := Lib.hid hr
  obtain ⟨x, y, cw, ch⟩ := c
  have HIW := Lib.hid fun U => isWithin_any U ⟨x, y, cw, ch⟩ 64 (N : Int) hc (by decide) (by omega)
  have HV : Hid (∀ U, Below W.heap.size W U → UA U (.slice va N vc) R) := Lib.hid fun U hU => hv.keep hU
  obtain ⟨CL, hCL⟩ : ∃ L, cutL R ⟨x, y, cw, ch⟩ = L := ⟨_, rfl⟩
  have HCL := Lib.hid hCL
  rw [hCL]
  have hbx := balloc (Below.refl _ W) (.cells #[.int .i64 x, .int .i64 y, .int .i64 cw, .int .i64 ch] 31)
  have hxx := heap_alloc_new W (.cells #[.int .i64 x, .int .i64 y, .int .i64 cw, .int .i64 ch] 31)
  obtain ⟨C, hC⟩ : ∃ C, W.heap.size = C := ⟨_, rfl⟩
  obtain ⟨V1, hV1⟩ : ∃ V1, W.alloc (.cells #[.int .i64 x, .int .i64 y, .int .i64 cw, .int .i64 ch] 31) = V1 := ⟨_, rfl⟩
  rw [hV1] at hbx hxx
  have HB1 := Lib.hid hbx
  rw [hC] at hxx
  have HX1 := Lib.hid hxx
  have k0 : V1.cell? ⟨C, 0, none⟩ = some (.int .i64 x) := nd_cell hxx rfl
  have k1 : V1.cell? ⟨C, 1, none⟩ = some (.int .i64 y) := nd_cell hxx rfl
  have k2 : V1.cell? ⟨C, 2, none⟩ = some (.int .i64 cw) := nd_cell hxx rfl
  have k3 : V1.cell? ⟨C, 3, none⟩ = some (.int .i64 ch) := nd_cell hxx rfl
  have HV1 := Lib.hid hV1
  have HC := Lib.hid hC
  clear hv hN hr hc hCL hbx hxx hcap hV1
  go_enter Tryd.func25, Tryd.ntmps25
  go_upto_region 1 with fail
  try rw [HV1.out]
  try rw [hC]
  clear hC HV1
  go_wp2_with fail
  go_at_call 47
  refine (HIW.out _).mono ?_
  rintro e w1 ⟨rfl, hb1⟩
  have HBW := Lib.hid hb1
  clear hb1 k0 k1 k2 k3
  have HXW : Hid (∀ U, Below V1.heap.size V1 U → U.cell? ⟨C, 0, none⟩ = some (.int .i64 x) ∧ U.cell? ⟨C, 1, none⟩ = some (.int .i64 y) ∧ U.cell? ⟨C, 2, none⟩ = some (.int .i64 cw) ∧ U.cell? ⟨C, 3, none⟩ = some (.int .i64 ch)) := Lib.hid fun U hU => by
    have h := (hU.block C (Array.getElem?_eq_some_iff.1 HX1.out).1).trans HX1.out
    exact ⟨nd_cell h rfl, nd_cell h rfl, nd_cell h rfl, nd_cell h rfl⟩
  by_cases hw : wiP ⟨x, y, cw, ch⟩ 64 (N : Int)
  · have hdw : decide (wiP ⟨x, y, cw, ch⟩ 64 (N : Int)) = true := decide_eq_true hw
    rw [hdw]
    have HWI := Lib.hid hw
    obtain ⟨h1, h2, h3, h4, h5, h6, h7, h8⟩ := hw
    dsimp only at h1 h2 h3 h4 h5 h6 h7 h8
    obtain ⟨X, rfl⟩ : ∃ X : Nat, x = (X : Int) := ⟨x.toNat, by omega⟩
    obtain ⟨Y, rfl⟩ : ∃ Y : Nat, y = (Y : Int) := ⟨y.toNat, by omega⟩
    obtain ⟨CW, rfl⟩ : ∃ CW : Nat, cw = (CW : Int) := ⟨cw.toNat, by omega⟩
    obtain ⟨CH, rfl⟩ : ∃ CH : Nat, ch = (CH : Int) := ⟨ch.toNat, by omega⟩
    have HCE : Hid (CL = cutR R X Y CW CH) := Lib.hid (by rw [← HCL.out]; unfold cutL; rw [if_pos (by rw [HN.out]; exact HWI.out)]; rfl)
    obtain ⟨z0, z1, z2, z3⟩ := HXW.out _ HBW.out
    obtain ⟨g, o, hva, hg, -⟩ : ∃ g o, va = some ⟨g, o, none⟩ ∧ g < W.heap.size ∧ True := by
      obtain ⟨r0, hr0⟩ : ∃ r, R[Y]? = some r := ⟨_, List.getElem?_eq_getElem (by rw [HN.out]; omega)⟩
      obtain ⟨g, o, e, hg, -⟩ := (HV.out W (Below.refl _ _)).cell hr0
      exact ⟨g, o, e, hg, trivial⟩
    subst hva
    have HCL1 : Hid (∀ U, Below W.heap.size W U → ∀ k r, R[k]? = some r → U.cell? ⟨g, o + k, none⟩ = some (U6 r)) := Lib.hid fun U hU k r hr => by
      obtain ⟨g1, o1, e, -, h⟩ := (HV.out U hU).cell hr
      injection e with e
      injection e with e1 e2
      subst e1 e2
      exact h
    obtain ⟨p, hp⟩ : ∃ p, Y + CH = p := ⟨_, rfl⟩
    have hy1 : (Y : Int) + (CH : Int) = (p : Int) := by omega
    have hyw : IntKind.i64.wrap (p : Int) = (p : Int) := by rw [IntKind.wrap_i64]; omega
    have hs1 : (0 : Int) ≤ (Y : Int) := by omega
    have hs2 : (Y : Int) ≤ (p : Int) := by omega
    have hs3 : (p : Int) ≤ (vc : Int) := by omega
    have hs4 : ¬ vc = Y := by omega
    have hs5 : p - Y = CH := by omega
    clear hp
    clear hdw
    go_upto_region 5 with fail
    go_loopw [5, 23] (fun v5 v23 wr => ∃ k : Nat, v23 = .int .i64 (k : Int) ∧ k ≤ CH ∧ Hid (wr.ownsRow V1.heap.size 63 1 v5 k ((cutR R X Y CW k).map U6)) ∧ Hid (Below V1.heap.size V1 wr)) (fun _ v _ => CH - (intOf v).toNat)
    case atStart => exact ⟨0, rfl, by omega, Lib.hid (World.ownsRow_nil _ _ _ _), HBW⟩
    case round =>
      clear z0 z1 z2 z3 HBW
      obtain ⟨k, rfl, hk, HOW, HBW⟩ := hrel
      obtain ⟨oa, oc, rfl⟩ := own_shape HOW.out
      by_cases hkc : k < CH
      · have hkz : (k : Int) < (CH : Int) := by omega
        have hk0 : (0 : Int) ≤ (k : Int) := by omega
        obtain ⟨r, hr⟩ : ∃ r, R[Y + k]? = some r := ⟨_, List.getElem?_eq_getElem (by rw [HN.out]; omega)⟩
        have hrl := HR.out r (List.mem_of_getElem? hr)
        have hcr := HCL1.out _ (bnext HB1.out HBW.out) _ _ hr
        rw [show o + (Y + k) = o + Y + k by omega] at hcr
        have HSU : Hid ((cutR R X Y CW (k + 1)).map U6 = (cutR R X Y CW k).map U6 ++ [U6 (PN.cutb r X CW)]) := Lib.hid (by
          rw [cutR_succ, List.map_append, List.getD_eq_getElem?_getD, hr]
          rfl)
        have hpW : 2 ^ CW ≤ 18446744073709551616 := Nat.pow_le_pow_right (n := 2) (by decide) (by omega : CW ≤ 64)
        have hpW1 : 1 ≤ 2 ^ CW := Nat.one_le_two_pow
        have HMK := Lib.hid fun U => mask_any U CW (by omega)
        have e1 := shr_val r X
        have e2 := u64_and_nat (r / 2 ^ X) (2 ^ CW - 1) (Nat.lt_of_le_of_lt (Nat.div_le_self _ _) hrl) (by omega)
        obtain ⟨m, hm⟩ : ∃ m, 2 ^ CW - 1 = m := ⟨_, rfl⟩
        obtain ⟨s, hs⟩ : ∃ s, r / 2 ^ X = s := ⟨_, rfl⟩
        obtain ⟨q, hq⟩ : ∃ q, PN.cutb r X CW = q := ⟨_, rfl⟩
        have hq2 : s &&& m = q := by rw [← hq, ← hm, ← hs]; rfl
        rw [hs] at e1 e2
        rw [hm] at e2 HMK
        rw [hq2] at e2
        rw [hq] at HSU
        have hdr := Below.drew (Below.refl wr.heap.size wr)
        obtain ⟨W0, hW0⟩ : ∃ W0, wr.drew = W0 := ⟨_, rfl⟩
        rw [hW0] at hdr
        have HW0 := Lib.hid hW0
        have HD0 := Lib.hid hdr
        have HWS : Hid (W.heap.size ≤ wr.heap.size) := Lib.hid (bnext HB1.out HBW.out).size
        clear hr hrl hpW hpW1 hm hs hq hq2 hdr hW0
        go_upto_region 7 with fail
        clear hcr
        refine wp_region_held_drew (S := (fun w' => w'.cell? ⟨C, 0, none⟩ = some (.int .i64 (X : Int)) ∧ w'.cell? ⟨C, 1, none⟩ = some (.int .i64 (Y : Int)) ∧ w'.cell? ⟨C, 2, none⟩ = some (.int .i64 (CW : Int)) ∧ w'.cell? ⟨C, 3, none⟩ = some (.int .i64 (CH : Int)))) (by kernel_rfl) ?_ (fun hHeld => ?_)
        · (rw [HW0.out]; exact HXW.out _ (bnext HBW.out HD0.out))
        rw [HW0.out] at hHeld ⊢
        refine wpAnyH_take (i := 0) (oi := { dst := some 27, op := Op.move (Operand.tmp 5), type := 32, pos := "panel.go:105", after := #[], guard := none }) (v := ?_) rfl (by kernel_rfl) (by kernel_rfl) (by kernel_rfl) (fun _ _ _ h => h) (Or.inl ⟨by rfl, ?_⟩) (by assumption) ?_
        rotate_left
        · ((intro w hSw; (try dsimp only at hSw); go_simp; (try rw [if_neg (by omega)])); try with_reducible rfl)
        (try simp only [Act.put, List.setIfInBounds_toArray, List.set_cons_zero, List.set_cons_succ])
        refine wpAnyH_take (i := 1) (oi := { dst := some 28, op := Op.move (Operand.tmp 7), type := 63, pos := "panel.go:105", after := #[], guard := none }) (v := ?_) rfl (by kernel_rfl) (by kernel_rfl) (by kernel_rfl) (fun _ _ _ h => h) (Or.inl ⟨by rfl, ?_⟩) (by assumption) ?_
        rotate_left
        · ((intro w hSw; (try dsimp only at hSw); go_simp; (try rw [if_neg (by omega)])); try with_reducible rfl)
        (try simp only [Act.put, List.setIfInBounds_toArray, List.set_cons_zero, List.set_cons_succ])
        refine wpAnyH_take (i := 2) (oi := { dst := some 29, op := Op.fieldAddr 31 (Operand.tmp 3) 0, type := 0, pos := "panel.go:105", after := #[], guard := none }) (v := ?_) rfl (by kernel_rfl) (by kernel_rfl) (by kernel_rfl) (fun _ _ _ h => h) (Or.inl ⟨by rfl, ?_⟩) (by assumption) ?_
        rotate_left
        · ((intro w hSw; (try dsimp only at hSw); go_simp; (try rw [if_neg (by omega)])); try with_reducible rfl)
        (try simp only [Act.put, List.setIfInBounds_toArray, List.set_cons_zero, List.set_cons_succ])
        refine wpAnyH_take (i := 3) (oi := { dst := some 30, op := Op.load 3 (Operand.tmp 29), type := 3, pos := "panel.go:105", after := #[{ on := 2, ground := Ground.data }], guard := none }) (v := ?_) rfl (by kernel_rfl) (by kernel_rfl) (by kernel_rfl) (fun _ _ _ h => h) (Or.inl ⟨by rfl, ?_⟩) (by assumption) ?_
        rotate_left
        · ((intro w hSw; (try dsimp only at hSw); go_simp; (try rw [if_neg (by omega)])); try with_reducible rfl)
        (try simp only [Act.put, List.setIfInBounds_toArray, List.set_cons_zero, List.set_cons_succ])
        refine wpAnyH_take (i := 4) (oi := { dst := some 31, op := Op.binOp BinOp.shr 63 (Operand.tmp 28) (Operand.tmp 30) 3, type := 63, pos := "panel.go:105", after := #[{ on := 1, ground := Ground.data }, { on := 3, ground := Ground.data }], guard := none }) (v := ?_) rfl (by kernel_rfl) (by kernel_rfl) (by kernel_rfl) (fun _ _ _ h => h) (Or.inl ⟨by rfl, ?_⟩) (by assumption) ?_
        rotate_left
        · ((intro w hSw; (try dsimp only at hSw); go_simp; (try rw [if_neg (by omega)])); try with_reducible rfl)
        (try simp only [Act.put, List.setIfInBounds_toArray, List.set_cons_zero, List.set_cons_succ])
        refine wpAnyH_take (i := 5) (oi := { dst := some 32, op := Op.fieldAddr 31 (Operand.tmp 3) 2, type := 0, pos := "panel.go:105", after := #[], guard := none }) (v := ?_) rfl (by kernel_rfl) (by kernel_rfl) (by kernel_rfl) (fun _ _ _ h => h) (Or.inl ⟨by rfl, ?_⟩) (by assumption) ?_
        rotate_left
        · ((intro w hSw; (try dsimp only at hSw); go_simp; (try rw [if_neg (by omega)])); try with_reducible rfl)
        (try simp only [Act.put, List.setIfInBounds_toArray, List.set_cons_zero, List.set_cons_succ])
        refine wpAnyH_take (i := 6) (oi := { dst := some 33, op := Op.load 3 (Operand.tmp 32), type := 3, pos := "panel.go:105", after := #[{ on := 5, ground := Ground.data }], guard := none }) (v := ?_) rfl (by kernel_rfl) (by kernel_rfl) (by kernel_rfl) (fun _ _ _ h => h) (Or.inl ⟨by rfl, ?_⟩) (by assumption) ?_
        rotate_left
        · ((intro w hSw; (try dsimp only at hSw); go_simp; (try rw [if_neg (by omega)])); try with_reducible rfl)
        (try simp only [Act.put, List.setIfInBounds_toArray, List.set_cons_zero, List.set_cons_succ])
        refine wpAnyH_ready (rs := [7]) (by kernel_rfl) (by simp) ?_
        refine AllReadyH.cons (o := { dst := some 34, op := Op.call { callee := Callee.value (Operand.func 48), args := #[Operand.tmp 33], argTypes := #[3] }, type := 63, pos := "panel.go:105", after := #[{ on := 6, ground := Ground.data }], guard := none }) rfl (fun K hK => ?_) ?_
        · (go_simp; go_at_call 48; refine (HMK.out _).mono ?_; rintro u wz ⟨rfl, he⟩; have he' := he.symm; subst he'; dsimp only)
          refine hK.out _ _ ?_ (fun hHeld => ?_)
          · exact HXW.out _ (bnext HBW.out HD0.out)
          clear hK K
          (try simp only [Act.put, List.setIfInBounds_toArray, List.set_cons_zero, List.set_cons_succ])
          refine wpAnyH_take (i := 8) (oi := { dst := some 35, op := Op.binOp BinOp.and 63 (Operand.tmp 31) (Operand.tmp 34) 63, type := 63, pos := "panel.go:105", after := #[{ on := 4, ground := Ground.data }, { on := 7, ground := Ground.data }], guard := none }) (v := ?_) rfl (by kernel_rfl) (by kernel_rfl) (by kernel_rfl) (fun _ _ _ h => h) (Or.inl ⟨by rfl, ?_⟩) (by assumption) ?_
          rotate_left
          · ((intro w hSw; (try dsimp only at hSw); go_simp; (try rw [if_neg (by omega)])); try with_reducible rfl)
          (try simp only [Act.put, List.setIfInBounds_toArray, List.set_cons_zero, List.set_cons_succ])
          refine wpAnyH_ready (rs := [9]) (by kernel_rfl) (by simp) ?_
          refine AllReadyH.cons (o := { dst := some 36, op := Op.buildSlice 32 1 #[(0, Operand.tmp 35)], type := 32, pos := "panel.go:105", after := #[{ on := 8, ground := Ground.data }], guard := none }) rfl (fun K hK => ?_) ?_
          · (go_simp; have bz2 := balloc HD0.out (.cells #[U6 q] 63))
            refine hK.out _ _ ?_ (fun hHeld => ?_)
            · exact HXW.out _ (bnext HBW.out bz2)
            clear hK K
            (try simp only [Act.put, List.setIfInBounds_toArray, List.set_cons_zero, List.set_cons_succ])
            refine wpAnyH_ready (rs := [10]) (by kernel_rfl) (by simp) ?_
            refine AllReadyH.cons (o := { dst := some 37, op := Op.call { callee := Callee.builtin Builtin.append, args := #[Operand.tmp 27, Operand.tmp 36], argTypes := #[32, 32] }, type := 32, pos := "panel.go:105", after := #[{ on := 0, ground := Ground.data }, { on := 9, ground := Ground.data }, { on := 7, ground := Ground.chain }], guard := none }) rfl (fun K hK => ?_) ?_
            · (refine step_appN (by rfl) _ _ _ (by rfl) V1.heap.size 63 i0 _ 1 8 Tryd.underlying32 hi0 hz0 hz1 hz2 rfl (by decide) (.slice oa k oc) k ((cutR R X Y CW k).map U6) (by rfl) (own_below HOW.out bz2) _ 1 [U6 q] (by rfl) (srcN_new W0 [U6 q] 63 1 1 1 rfl) (by simp [Value.oneCell']) (by unfold maxLen; omega) (by omega) (bnext HBW.out bz2).size ?_; intro v6 w6 hown6 hgrow hat; have bz4 : Below V1.heap.size V1 w6 := (bnext HBW.out bz2).grown hgrow (bnext HBW.out bz2).size (fun q e => (HOW.out.lt q e).1))
              refine hK.out _ _ ?_ (fun hHeld => ?_)
              · exact HXW.out _ bz4
              clear hK K
              (try simp only [Act.put, List.setIfInBounds_toArray, List.set_cons_zero, List.set_cons_succ])
              refine wpAnyH_take (i := 11) (oi := { dst := some 5, op := Op.assign (Operand.tmp 37), type := 32, pos := "panel.go:105", after := #[{ on := 10, ground := Ground.data }, { on := 10, ground := Ground.chain }, { on := 0, ground := Ground.phase }, { on := 1, ground := Ground.phase }, { on := 2, ground := Ground.phase }, { on := 3, ground := Ground.phase }, { on := 4, ground := Ground.phase }, { on := 5, ground := Ground.phase }, { on := 6, ground := Ground.phase }, { on := 7, ground := Ground.phase }, { on := 8, ground := Ground.phase }, { on := 9, ground := Ground.phase }, { on := 10, ground := Ground.phase }], guard := none }) (v := ?_) rfl (by kernel_rfl) (by kernel_rfl) (by kernel_rfl) (fun _ _ _ h => h) (Or.inl ⟨by rfl, ?_⟩) (by assumption) ?_
              rotate_left
              · ((intro w hSw; (try dsimp only at hSw); go_simp; (try rw [if_neg (by omega)])); try with_reducible rfl)
              (try simp only [Act.put, List.setIfInBounds_toArray, List.set_cons_zero, List.set_cons_succ])
              refine wpAnyH_done (by kernel_rfl) ?_ _
              rw [← HSU.out] at hown6
              have HO6 := Lib.hid hown6
              have HB6 := Lib.hid bz4
              obtain ⟨va6, vc6, rfl⟩ := own_shape hown6
              clear hHeld hown6 hgrow hat bz2 bz4
              go_wp2
              go_roundw
              case rel => exact ⟨k + 1, by go_num, hkc, HO6, HB6⟩
              case measure => simp [intOf]; omega
            exact AllReadyH.nil
          exact AllReadyH.nil
        exact AllReadyH.nil
      · obtain rfl : k = CH := by omega
        have hkz : ¬ (k : Int) < (k : Int) := by omega
        clear hkc
        go_wp2
        go_ret
        exact ⟨_, rfl, by rw [HCE.out, cutR_len]; exact own_base HOW.out HB1.out.size, bnext HB1.out HBW.out⟩
  · have hdw : decide (wiP ⟨x, y, cw, ch⟩ 64 (N : Int)) = false := decide_eq_false hw
    have HCE : Hid (CL = []) := Lib.hid (by rw [← HCL.out]; unfold cutL; rw [if_neg (by rw [HN.out]; exact hw)])
    rw [hdw]
    clear hdw hw
    go_wp2
    go_ret
    exact ⟨_, rfl, by rw [HCE.out]; exact World.ownsRow_nil _ _ _ _, bnext HB1.out HBW.out⟩
end Go.Proofs.YtmiennkldkcnfaaDoor

