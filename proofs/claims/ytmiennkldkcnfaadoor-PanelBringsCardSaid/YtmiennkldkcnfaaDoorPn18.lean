/- The reference's Cut. No conditions. -/
import Derived.Test.YtmiennkldkcnfaaDoorPn17
namespace Go.Proofs.YtmiennkldkcnfaaDoor.PN
theorem cut_none (r X : Nat) : cutb r X 0 = 0 := Nat.eq_of_testBit_eq fun i => by rw [cut_bit]; simp
theorem cut_step (r X i : Nat) (hi : i < 64) : wit (cutb r X i) i (r.testBit (X + i)) = cutb r X (i + 1) := Nat.eq_of_testBit_eq fun j => by
  rw [wit_bit _ (Nat.lt_of_lt_of_le (cut_lt r X i) (Nat.pow_le_pow_right (by decide) (by omega))) hi, cut_bit, cut_bit]
  by_cases e : j = i
  · subst e
    simp
  · rw [if_neg e]
    by_cases h : j < i
    · rw [decide_eq_true h, decide_eq_true (by omega)]
    · rw [decide_eq_false h, decide_eq_false (by omega)]
/-- Rows of which the first k are cut, and of row k the first i pixels. -/
def rcO (R : List Nat) (X Y W n k i : Nat) : List Nat := (List.range n).map fun j => if j < k then cutb (R.getD (Y + j) 0) X W else if j = k then cutb (R.getD (Y + j) 0) X i else 0
theorem rcO_len (R : List Nat) (X Y W n k i : Nat) : (rcO R X Y W n k i).length = n := by simp [rcO]
theorem rcO_at (R : List Nat) (X Y W n k i j : Nat) : (rcO R X Y W n k i)[j]? = if j < n then some (if j < k then cutb (R.getD (Y + j) 0) X W else if j = k then cutb (R.getD (Y + j) 0) X i else 0) else none := by
  unfold rcO
  rw [List.getElem?_map]
  by_cases h : j < n
  · rw [if_pos h, List.getElem?_range h]
    rfl
  · rw [if_neg h, List.getElem?_eq_none (by simp; omega)]
    rfl
theorem rcO_start (R : List Nat) (X Y W n : Nat) : rcO R X Y W n 0 0 = List.replicate n 0 := by
  refine List.ext_getElem? fun j => ?_
  rw [rcO_at, List.getElem?_replicate]
  by_cases h : j < n
  · rw [if_pos h, if_pos h, if_neg (by omega), cut_none]
    simp
  · rw [if_neg h, if_neg h]
theorem rcO_next (R : List Nat) (X Y W n k : Nat) : rcO R X Y W n k W = rcO R X Y W n (k + 1) 0 := by
  refine List.ext_getElem? fun j => ?_
  rw [rcO_at, rcO_at, cut_none]
  by_cases h : j < n
  · rw [if_pos h, if_pos h]
    by_cases h1 : j < k
    · rw [if_pos h1, if_pos (by omega)]
    · rw [if_neg h1]
      by_cases h2 : j = k
      · rw [if_pos h2, if_pos (by omega)]
      · rw [if_neg h2, if_neg (by omega)]
        simp
  · rw [if_neg h, if_neg h]
theorem rcO_end (R : List Nat) (X Y W n : Nat) : rcO R X Y W n n 0 = cutR R X Y W n := by
  unfold rcO cutR
  refine List.map_congr_left fun j hj => ?_
  rw [if_pos (List.mem_range.1 hj)]
theorem rcO_set (R : List Nat) (X Y W n k i : Nat) : (rcO R X Y W n k i).set k (cutb (R.getD (Y + k) 0) X (i + 1)) = rcO R X Y W n k (i + 1) := by
  refine List.ext_getElem? fun j => ?_
  rw [List.getElem?_set, rcO_at, rcO_at, rcO_len]
  by_cases e : k = j
  · subst e
    simp
  · rw [if_neg e]
    by_cases h : j < n
    · rw [if_pos h, if_pos h, if_neg (show ¬ j = k by omega), if_neg (show ¬ j = k by omega)]
    · rw [if_neg h, if_neg h]
end Go.Proofs.YtmiennkldkcnfaaDoor.PN
namespace Go.Proofs.YtmiennkldkcnfaaDoor
set_option maxRecDepth 100000
set_option linter.unusedVariables false
open Go.RowKit Go.Deep
theorem own_blk {W : World} {B g n : Nat} {L : List Nat} (h : W.heap[g]? = some (.cells (L.map U6).toArray 63 (0, 0))) (hB : B ≤ g) (hn : L.length = n) (hn1 : n ≤ 1000000) : W.ownsRow B 63 1 (.slice (some ⟨g, 0, none⟩) n n) n (L.map U6) :=
  ⟨by simp [hn], .inr ⟨g, n, _, rfl, hB, h, Nat.le_refl _, by unfold maxLen; omega, by simp [hn], by rw [Nat.mul_one]; exact List.take_of_length_le (by simp [hn])⟩⟩
set_option maxHeartbeats 4000000 in
theorem rcut_any (W : World) (R : List Nat) (v : Value) (c : Rc) (hc : rcOk c) (hv : UA W v R) (hl : R.length ≤ 1000000) (hr : ∀ x ∈ R, x < 18446744073709551616) :
    Calls Tryd.prog 26 #[v, rcV c] W fun e w' => ∃ v', e = .returned v' ∧ w'.ownsRow W.heap.size 63 1 v' (cutL R c).length ((cutL R c).map U6) ∧ Below W.heap.size W w' := by
  obtain ⟨va, vc, rfl⟩ := hv.shape
  obtain ⟨N, hN⟩ : ∃ N, R.length = N := ⟨_, rfl⟩
  rw [hN] at hv hl ⊢
  have HN := Lib.hid hN
  have HR := Lib.hid hr
  obtain ⟨x, y, cw, ch⟩ := c
  have HIW := Lib.hid fun U => within_any U ⟨x, y, cw, ch⟩ 64 (N : Int) hc (by decide) (by omega)
  have HV : Hid (∀ U, Below W.heap.size W U → UA U (.slice va N vc) R) := Lib.hid fun U hU => hv.keep hU
  obtain ⟨CL, hCL⟩ : ∃ L, cutL R ⟨x, y, cw, ch⟩ = L := ⟨_, rfl⟩
  have HCL := Lib.hid hCL
  rw [hCL]
  have hbx := balloc (Below.refl _ W) (.cells #[.int .i64 x, .int .i64 y, .int .i64 cw, .int .i64 ch] 31)
  have hxx := heap_alloc_new W (.cells #[.int .i64 x, .int .i64 y, .int .i64 cw, .int .i64 ch] 31)
  obtain ⟨C, hC⟩ : ∃ C, W.heap.size = C := ⟨_, rfl⟩
  obtain ⟨V1, hV1⟩ : ∃ V1, W.alloc (.cells #[.int .i64 x, .int .i64 y, .int .i64 cw, .int .i64 ch] 31) = V1 := ⟨_, rfl⟩
  rw [hV1] at hbx hxx
  have HB1 := Lib.hid hbx
  rw [hC] at hxx
  have HX1 := Lib.hid hxx
  have k0 : V1.cell? ⟨C, 0, none⟩ = some (.int .i64 x) := nd_cell hxx rfl
  have k1 : V1.cell? ⟨C, 1, none⟩ = some (.int .i64 y) := nd_cell hxx rfl
  have k2 : V1.cell? ⟨C, 2, none⟩ = some (.int .i64 cw) := nd_cell hxx rfl
  have k3 : V1.cell? ⟨C, 3, none⟩ = some (.int .i64 ch) := nd_cell hxx rfl
  have HV1 := Lib.hid hV1
  have HC := Lib.hid hC
  clear hv hN hr hc hCL hbx hxx hV1
  go_enter Tryd.func26, Tryd.ntmps26
  go_upto_region 1 with fail
  try rw [HV1.out]
  try rw [hC]
  clear hC HV1
  go_wp2_with fail
  go_at_call 32
  refine (HIW.out _).mono ?_
  rintro e w1 ⟨rfl, hb1⟩
  have HBW := Lib.hid hb1
  clear hb1 k0 k1 k2 k3
  have HXW : Hid (∀ U, FrS (fun _ => False) V1 U → U.heap[C]? = some (.cells #[.int .i64 x, .int .i64 y, .int .i64 cw, .int .i64 ch] 31 (0, 0))) := Lib.hid fun U hU => hU.nd HX1.out (fun h => h)
  by_cases hw : wiP ⟨x, y, cw, ch⟩ 64 (N : Int)
  · have hdw : decide (wiP ⟨x, y, cw, ch⟩ 64 (N : Int)) = true := decide_eq_true hw
    rw [hdw]
    have HWI := Lib.hid hw
    obtain ⟨h1, h2, h3, h4, h5, h6, h7, h8⟩ := hw
    dsimp only at h1 h2 h3 h4 h5 h6 h7 h8
    obtain ⟨X, rfl⟩ : ∃ X : Nat, x = (X : Int) := ⟨x.toNat, by omega⟩
    obtain ⟨Y, rfl⟩ : ∃ Y : Nat, y = (Y : Int) := ⟨y.toNat, by omega⟩
    obtain ⟨CW, rfl⟩ : ∃ CW : Nat, cw = (CW : Int) := ⟨cw.toNat, by omega⟩
    obtain ⟨CH, rfl⟩ : ∃ CH : Nat, ch = (CH : Int) := ⟨ch.toNat, by omega⟩
    have HCE : Hid (CL = cutR R X Y CW CH) := Lib.hid (by rw [← HCL.out]; unfold cutL; rw [if_pos (by rw [HN.out]; exact HWI.out)]; rfl)
    have hz1 := HXW.out _ (FrS.of HBW.out)
    have z3 : w1.cell? ⟨C, 3, none⟩ = some (.int .i64 (CH : Int)) := nd_cell hz1 rfl
    have hm := make_u64 w1 CH (by omega)
    have hx := heap_alloc_new w1 (.cells ((List.replicate CH (0 : Nat)).map U6).toArray 63)
    have hb2 := balloc (Below.refl _ w1) (.cells ((List.replicate CH (0 : Nat)).map U6).toArray 63)
    obtain ⟨g, hg⟩ : ∃ g, w1.heap.size = g := ⟨_, rfl⟩
    obtain ⟨w2, hw2⟩ : ∃ w2, w1.alloc (.cells ((List.replicate CH (0 : Nat)).map U6).toArray 63) = w2 := ⟨_, rfl⟩
    rw [hw2] at hm hx hb2
    rw [hg] at hm hx
    have HX2 : Hid (w2.heap[g]? = some (.cells ((PN.rcO R X Y CW CH 0 0).map U6).toArray 63 (0, 0))) := Lib.hid (by rw [PN.rcO_start]; exact hx)
    have HBW2 : Hid (Below V1.heap.size V1 w2) := Lib.hid (bnext HBW.out hb2)
    have HGV : Hid (V1.heap.size ≤ g) := Lib.hid (by rw [← hg]; exact HBW.out.size)
    have hX2 := (hb2.block C (Array.getElem?_eq_some_iff.1 hz1).1).trans hz1
    have HXC := Lib.hid hX2
    clear hdw hz1 hx hb2 hg hw2 hX2 HBW
    go_upto_region 6 with fail
    go_loopw [7] (fun v7 wr => ∃ k : Nat, v7 = .int .i64 (k : Int) ∧ k ≤ CH ∧ Hid (wr.heap[g]? = some (.cells ((PN.rcO R X Y CW CH k 0).map U6).toArray 63 (0, 0))) ∧ Hid (wr.heap[C]? = some (.cells #[.int .i64 (X : Int), .int .i64 (Y : Int), .int .i64 (CW : Int), .int .i64 (CH : Int)] 31 (0, 0))) ∧ Hid (Below V1.heap.size V1 wr)) (fun v _ => CH - (intOf v).toNat)
    case atStart => exact ⟨0, rfl, by omega, HX2, HXC, HBW2⟩
    case round =>
      clear HX2 HXC HBW2 z3 hm
      obtain ⟨k, rfl, hk, HG, HX, HBW⟩ := hrel
      have z3 : wr.cell? ⟨C, 3, none⟩ = some (.int .i64 (CH : Int)) := nd_cell HX.out rfl
      by_cases hkc : k < CH
      · have hkz : (k : Int) < (CH : Int) := by omega
        have hk0 : (0 : Int) ≤ (k : Int) := by omega
        obtain ⟨r, hr⟩ : ∃ r, R[Y + k]? = some r := ⟨_, List.getElem?_eq_getElem (by rw [HN.out]; omega)⟩
        have HRL := Lib.hid (HR.out r (List.mem_of_getElem? hr))
        have HGD : Hid (R.getD (Y + k) 0 = r) := Lib.hid (by rw [List.getD_eq_getElem?_getD, hr]; rfl)
        obtain ⟨g1, o1, rfl, hg1, -⟩ := (HV.out W (Below.refl _ _)).cell hr
        have HCR : Hid (∀ U, Below W.heap.size W U → U.cell? ⟨g1, o1 + (Y + k), none⟩ = some (U6 r)) := Lib.hid fun U hU => by
          obtain ⟨g2, o2, e, -, h⟩ := (HV.out U hU).cell hr
          injection e with e
          injection e with e1 e2
          subst e1 e2
          exact h
        clear hr hg1
        go_upto_region 9 with fail
        go_loopw [8] (fun v8 wr => ∃ i : Nat, v8 = .int .i64 (i : Int) ∧ i ≤ CW ∧ Hid (wr.heap[g]? = some (.cells ((PN.rcO R X Y CW CH k i).map U6).toArray 63 (0, 0))) ∧ Hid (wr.heap[C]? = some (.cells #[.int .i64 (X : Int), .int .i64 (Y : Int), .int .i64 (CW : Int), .int .i64 (CH : Int)] 31 (0, 0))) ∧ Hid (Below V1.heap.size V1 wr)) (fun v _ => CW - (intOf v).toNat)
        case atStart => exact ⟨0, rfl, by omega, HG, HX, HBW⟩
        case round =>
          clear HG HX HBW z3
          obtain ⟨i, rfl, hi, HG, HX, HBW⟩ := hrel
          have z2 : wr.cell? ⟨C, 2, none⟩ = some (.int .i64 (CW : Int)) := nd_cell HX.out rfl
          by_cases hic : i < CW
          · have hicz : (i : Int) < (CW : Int) := by omega
            have hi64 : i < 64 := by omega
            have hxi64 : X + i < 64 := by omega
            have hrowk : (PN.rcO R X Y CW CH k i)[k]? = some (PN.cutb r X i) := by
              rw [PN.rcO_at, if_pos hkc, if_neg (by omega), if_pos rfl, HGD.out]
            obtain ⟨cur, hcur⟩ : ∃ cur, PN.cutb r X i = cur := ⟨_, rfl⟩
            have hcl : cur < 18446744073709551616 := by
              rw [← hcur]
              exact Nat.lt_of_lt_of_le (PN.cut_lt r X i) (Nat.pow_le_pow_right (n := 2) (by decide) (by omega : i ≤ 64))
            rw [hcur] at hrowk
            obtain ⟨p, hp⟩ : ∃ p, Y + k = p := ⟨_, rfl⟩
            obtain ⟨xi, hxi⟩ : ∃ xi, X + i = xi := ⟨_, rfl⟩
            have HBI := Lib.hid fun U => bit_any U r (X + i) HRL.out hxi64
            obtain ⟨B, hB⟩ : ∃ B, r.testBit (X + i) = B := ⟨_, rfl⟩
            have HST : Hid (PN.wit cur i B = PN.cutb r X (i + 1)) := Lib.hid (by rw [← hcur, ← hB]; exact PN.cut_step r X i hi64)
            have HWT := Lib.hid fun U => with_any U cur i B hcl hi64
            rw [hB, hxi] at HBI
            obtain ⟨q, hq⟩ : ∃ q, PN.wit cur i B = q := ⟨_, rfl⟩
            rw [hq] at HST HWT
            have hdr := Below.drew (Below.refl wr.heap.size wr)
            have hGD := (hdr.block g (Array.getElem?_eq_some_iff.1 HG.out).1).trans HG.out
            have hXD := (hdr.block C (Array.getElem?_eq_some_iff.1 HX.out).1).trans HX.out
            have HKD : Hid (wr.drew.cell? ⟨C, 0, none⟩ = some (.int .i64 (X : Int)) ∧ wr.drew.cell? ⟨C, 1, none⟩ = some (.int .i64 (Y : Int)) ∧ wr.drew.cell? ⟨g, k, none⟩ = some (U6 cur) ∧ wr.drew.frozen? ⟨g, k, none⟩ = false ∧ wr.drew.cell? ⟨g1, o1 + p, none⟩ = some (U6 r)) := Lib.hid ⟨nd_cell hXD rfl, nd_cell hXD rfl, nd_cell hGD (by rw [List.getElem?_toArray, List.getElem?_map, hrowk]; rfl), nd_froz hGD _, by rw [← hp]; exact HCR.out _ (bnext HB1.out (bnext HBW.out hdr))⟩
            have HGX := Lib.hid hGD
            have HXX := Lib.hid hXD
            have HBD : Hid (Below V1.heap.size V1 wr.drew) := Lib.hid (bnext HBW.out hdr)
            have HSET : Hid (((PN.rcO R X Y CW CH k i).map U6).toArray.setIfInBounds k (U6 q) = ((PN.rcO R X Y CW CH k (i + 1)).map U6).toArray) := Lib.hid (by rw [PN.set_u64, HST.out, ← HGD.out, PN.rcO_set])
            have hgC : Hid (C < g) := Lib.hid (by have h1 := (Array.getElem?_eq_some_iff.1 HX1.out).1; have h2 := HGV.out; omega)
            have hpk : ((Y : Int) + (k : Int)) = (p : Int) := by omega
            have hpw : IntKind.i64.wrap (p : Int) = (p : Int) := by rw [IntKind.wrap_i64]; omega
            have hp0 : (0 : Int) ≤ (p : Int) := by omega
            have hpN : (p : Int) < (N : Int) := by omega
            have hxk : ((X : Int) + (i : Int)) = (xi : Int) := by omega
            have hxw : IntKind.i64.wrap (xi : Int) = (xi : Int) := by rw [IntKind.wrap_i64]; omega
            clear hrowk hcur hcl hp hxi hB hq hdr hGD hXD
            go_upto_region 11 with fail
            clear z2
            refine wp_region_last #[{ dst := some 30, op := Op.move (Operand.tmp 6), type := 32, pos := "ref.go:109", after := #[], guard := none }, { dst := some 31, op := Op.move (Operand.tmp 7), type := 3, pos := "ref.go:109", after := #[], guard := none }, { dst := some 32, op := Op.move (Operand.tmp 6), type := 32, pos := "ref.go:109", after := #[], guard := none }, { dst := some 33, op := Op.move (Operand.tmp 7), type := 3, pos := "ref.go:109", after := #[], guard := none }, { dst := some 34, op := Op.indexAddr 32 (Operand.tmp 32) (Operand.tmp 33), type := 0, pos := "ref.go:109", after := #[{ on := 2, ground := Ground.data }, { on := 3, ground := Ground.data }], guard := none }, { dst := some 35, op := Op.load 63 (Operand.tmp 34), type := 63, pos := "ref.go:109", after := #[{ on := 4, ground := Ground.data }], guard := none }, { dst := some 36, op := Op.move (Operand.tmp 8), type := 3, pos := "ref.go:109", after := #[], guard := none }, { dst := some 37, op := Op.move (Operand.tmp 0), type := 32, pos := "ref.go:109", after := #[], guard := none }, { dst := some 38, op := Op.fieldAddr 31 (Operand.tmp 3) 1, type := 0, pos := "ref.go:109", after := #[], guard := none }, { dst := some 39, op := Op.load 3 (Operand.tmp 38), type := 3, pos := "ref.go:109", after := #[{ on := 8, ground := Ground.data }], guard := none }, { dst := some 40, op := Op.move (Operand.tmp 7), type := 3, pos := "ref.go:109", after := #[], guard := none }, { dst := some 41, op := Op.binOp BinOp.add 3 (Operand.tmp 39) (Operand.tmp 40) 3, type := 3, pos := "ref.go:109", after := #[{ on := 9, ground := Ground.data }, { on := 10, ground := Ground.data }], guard := none }, { dst := some 42, op := Op.indexAddr 32 (Operand.tmp 37) (Operand.tmp 41), type := 0, pos := "ref.go:109", after := #[{ on := 7, ground := Ground.data }, { on := 11, ground := Ground.data }], guard := none }, { dst := some 43, op := Op.load 63 (Operand.tmp 42), type := 63, pos := "ref.go:109", after := #[{ on := 12, ground := Ground.data }], guard := none }, { dst := some 44, op := Op.fieldAddr 31 (Operand.tmp 3) 0, type := 0, pos := "ref.go:109", after := #[], guard := none }, { dst := some 45, op := Op.load 3 (Operand.tmp 44), type := 3, pos := "ref.go:109", after := #[{ on := 14, ground := Ground.data }], guard := none }, { dst := some 46, op := Op.move (Operand.tmp 8), type := 3, pos := "ref.go:109", after := #[], guard := none }, { dst := some 47, op := Op.binOp BinOp.add 3 (Operand.tmp 45) (Operand.tmp 46) 3, type := 3, pos := "ref.go:109", after := #[{ on := 15, ground := Ground.data }, { on := 16, ground := Ground.data }], guard := none }, { dst := some 48, op := Op.call { callee := Callee.value (Operand.func 50), args := #[Operand.tmp 43, Operand.tmp 47], argTypes := #[63, 3] }, type := 4, pos := "ref.go:109", after := #[{ on := 13, ground := Ground.data }, { on := 17, ground := Ground.data }], guard := none }, { dst := some 49, op := Op.call { callee := Callee.value (Operand.func 49), args := #[Operand.tmp 35, Operand.tmp 36, Operand.tmp 48], argTypes := #[63, 3, 4] }, type := 63, pos := "ref.go:109", after := #[{ on := 5, ground := Ground.data }, { on := 6, ground := Ground.data }, { on := 18, ground := Ground.data }, { on := 18, ground := Ground.chain }], guard := none }, { dst := some 50, op := Op.indexAddr 32 (Operand.tmp 30) (Operand.tmp 31), type := 0, pos := "ref.go:109", after := #[{ on := 0, ground := Ground.data }, { on := 1, ground := Ground.data }, { on := 0, ground := Ground.phase }, { on := 1, ground := Ground.phase }, { on := 2, ground := Ground.phase }, { on := 3, ground := Ground.phase }, { on := 4, ground := Ground.phase }, { on := 5, ground := Ground.phase }, { on := 6, ground := Ground.phase }, { on := 7, ground := Ground.phase }, { on := 8, ground := Ground.phase }, { on := 9, ground := Ground.phase }, { on := 10, ground := Ground.phase }, { on := 11, ground := Ground.phase }, { on := 12, ground := Ground.phase }, { on := 13, ground := Ground.phase }, { on := 14, ground := Ground.phase }, { on := 15, ground := Ground.phase }, { on := 16, ground := Ground.phase }, { on := 17, ground := Ground.phase }, { on := 18, ground := Ground.phase }, { on := 19, ground := Ground.phase }], guard := none }] { dst := none, op := Op.store 63 (Operand.tmp 50) (Operand.tmp 49), type := 0, pos := "ref.go:109", after := #[{ on := 20, ground := Ground.data }, { on := 19, ground := Ground.data }, { on := 19, ground := Ground.chain }, { on := 0, ground := Ground.phase }, { on := 1, ground := Ground.phase }, { on := 2, ground := Ground.phase }, { on := 3, ground := Ground.phase }, { on := 4, ground := Ground.phase }, { on := 5, ground := Ground.phase }, { on := 6, ground := Ground.phase }, { on := 7, ground := Ground.phase }, { on := 8, ground := Ground.phase }, { on := 9, ground := Ground.phase }, { on := 10, ground := Ground.phase }, { on := 11, ground := Ground.phase }, { on := 12, ground := Ground.phase }, { on := 13, ground := Ground.phase }, { on := 14, ground := Ground.phase }, { on := 15, ground := Ground.phase }, { on := 16, ground := Ground.phase }, { on := 17, ground := Ground.phase }, { on := 18, ground := Ground.phase }, { on := 19, ground := Ground.phase }], guard := none } rfl (by kernel_rfl) (by kernel_rfl) ((fun w' => w'.cell? ⟨C, 0, none⟩ = some (.int .i64 (X : Int)) ∧ w'.cell? ⟨C, 1, none⟩ = some (.int .i64 (Y : Int)) ∧ w'.cell? ⟨g, k, none⟩ = some (U6 cur) ∧ w'.frozen? ⟨g, k, none⟩ = false ∧ w'.cell? ⟨g1, o1 + p, none⟩ = some (U6 r))) ?_ (fun hHeld => ?_)
            · exact HKD.out
            refine wpAnyH_take (i := 0) (oi := { dst := some 30, op := Op.move (Operand.tmp 6), type := 32, pos := "ref.go:109", after := #[], guard := none }) (v := ?_) rfl (by kernel_rfl) (by kernel_rfl) (by kernel_rfl) (fun _ _ _ h => h) (Or.inl ⟨by rfl, ?_⟩) (by assumption) ?_
            rotate_left
            · ((intro w hSw; (try dsimp only at hSw); go_simp; (try rw [if_neg (by omega)])); try with_reducible rfl)
            (try simp only [Act.put, List.setIfInBounds_toArray, List.set_cons_zero, List.set_cons_succ])
            refine wpAnyH_take (i := 1) (oi := { dst := some 31, op := Op.move (Operand.tmp 7), type := 3, pos := "ref.go:109", after := #[], guard := none }) (v := ?_) rfl (by kernel_rfl) (by kernel_rfl) (by kernel_rfl) (fun _ _ _ h => h) (Or.inl ⟨by rfl, ?_⟩) (by assumption) ?_
            rotate_left
            · ((intro w hSw; (try dsimp only at hSw); go_simp; (try rw [if_neg (by omega)])); try with_reducible rfl)
            (try simp only [Act.put, List.setIfInBounds_toArray, List.set_cons_zero, List.set_cons_succ])
            refine wpAnyH_take (i := 2) (oi := { dst := some 32, op := Op.move (Operand.tmp 6), type := 32, pos := "ref.go:109", after := #[], guard := none }) (v := ?_) rfl (by kernel_rfl) (by kernel_rfl) (by kernel_rfl) (fun _ _ _ h => h) (Or.inl ⟨by rfl, ?_⟩) (by assumption) ?_
            rotate_left
            · ((intro w hSw; (try dsimp only at hSw); go_simp; (try rw [if_neg (by omega)])); try with_reducible rfl)
            (try simp only [Act.put, List.setIfInBounds_toArray, List.set_cons_zero, List.set_cons_succ])
            refine wpAnyH_take (i := 3) (oi := { dst := some 33, op := Op.move (Operand.tmp 7), type := 3, pos := "ref.go:109", after := #[], guard := none }) (v := ?_) rfl (by kernel_rfl) (by kernel_rfl) (by kernel_rfl) (fun _ _ _ h => h) (Or.inl ⟨by rfl, ?_⟩) (by assumption) ?_
            rotate_left
            · ((intro w hSw; (try dsimp only at hSw); go_simp; (try rw [if_neg (by omega)])); try with_reducible rfl)
            (try simp only [Act.put, List.setIfInBounds_toArray, List.set_cons_zero, List.set_cons_succ])
            refine wpAnyH_take (i := 4) (oi := { dst := some 34, op := Op.indexAddr 32 (Operand.tmp 32) (Operand.tmp 33), type := 0, pos := "ref.go:109", after := #[{ on := 2, ground := Ground.data }, { on := 3, ground := Ground.data }], guard := none }) (v := ?_) rfl (by kernel_rfl) (by kernel_rfl) (by kernel_rfl) (fun _ _ _ h => h) (Or.inl ⟨by rfl, ?_⟩) (by assumption) ?_
            rotate_left
            · ((intro w hSw; (try dsimp only at hSw); go_simp; (try rw [if_neg (by omega)])); try with_reducible rfl)
            (try simp only [Act.put, List.setIfInBounds_toArray, List.set_cons_zero, List.set_cons_succ])
            refine wpAnyH_take (i := 5) (oi := { dst := some 35, op := Op.load 63 (Operand.tmp 34), type := 63, pos := "ref.go:109", after := #[{ on := 4, ground := Ground.data }], guard := none }) (v := ?_) rfl (by kernel_rfl) (by kernel_rfl) (by kernel_rfl) (fun _ _ _ h => h) (Or.inl ⟨by rfl, ?_⟩) (by assumption) ?_
            rotate_left
            · ((intro w hSw; (try dsimp only at hSw); go_simp; (try rw [if_neg (by omega)])); try with_reducible rfl)
            (try simp only [Act.put, List.setIfInBounds_toArray, List.set_cons_zero, List.set_cons_succ])
            refine wpAnyH_take (i := 6) (oi := { dst := some 36, op := Op.move (Operand.tmp 8), type := 3, pos := "ref.go:109", after := #[], guard := none }) (v := ?_) rfl (by kernel_rfl) (by kernel_rfl) (by kernel_rfl) (fun _ _ _ h => h) (Or.inl ⟨by rfl, ?_⟩) (by assumption) ?_
            rotate_left
            · ((intro w hSw; (try dsimp only at hSw); go_simp; (try rw [if_neg (by omega)])); try with_reducible rfl)
            (try simp only [Act.put, List.setIfInBounds_toArray, List.set_cons_zero, List.set_cons_succ])
            refine wpAnyH_take (i := 7) (oi := { dst := some 37, op := Op.move (Operand.tmp 0), type := 32, pos := "ref.go:109", after := #[], guard := none }) (v := ?_) rfl (by kernel_rfl) (by kernel_rfl) (by kernel_rfl) (fun _ _ _ h => h) (Or.inl ⟨by rfl, ?_⟩) (by assumption) ?_
            rotate_left
            · ((intro w hSw; (try dsimp only at hSw); go_simp; (try rw [if_neg (by omega)])); try with_reducible rfl)
            (try simp only [Act.put, List.setIfInBounds_toArray, List.set_cons_zero, List.set_cons_succ])
            refine wpAnyH_take (i := 8) (oi := { dst := some 38, op := Op.fieldAddr 31 (Operand.tmp 3) 1, type := 0, pos := "ref.go:109", after := #[], guard := none }) (v := ?_) rfl (by kernel_rfl) (by kernel_rfl) (by kernel_rfl) (fun _ _ _ h => h) (Or.inl ⟨by rfl, ?_⟩) (by assumption) ?_
            rotate_left
            · ((intro w hSw; (try dsimp only at hSw); go_simp; (try rw [if_neg (by omega)])); try with_reducible rfl)
            (try simp only [Act.put, List.setIfInBounds_toArray, List.set_cons_zero, List.set_cons_succ])
            refine wpAnyH_take (i := 9) (oi := { dst := some 39, op := Op.load 3 (Operand.tmp 38), type := 3, pos := "ref.go:109", after := #[{ on := 8, ground := Ground.data }], guard := none }) (v := ?_) rfl (by kernel_rfl) (by kernel_rfl) (by kernel_rfl) (fun _ _ _ h => h) (Or.inl ⟨by rfl, ?_⟩) (by assumption) ?_
            rotate_left
            · ((intro w hSw; (try dsimp only at hSw); go_simp; (try rw [if_neg (by omega)])); try with_reducible rfl)
            (try simp only [Act.put, List.setIfInBounds_toArray, List.set_cons_zero, List.set_cons_succ])
            refine wpAnyH_take (i := 10) (oi := { dst := some 40, op := Op.move (Operand.tmp 7), type := 3, pos := "ref.go:109", after := #[], guard := none }) (v := ?_) rfl (by kernel_rfl) (by kernel_rfl) (by kernel_rfl) (fun _ _ _ h => h) (Or.inl ⟨by rfl, ?_⟩) (by assumption) ?_
            rotate_left
            · ((intro w hSw; (try dsimp only at hSw); go_simp; (try rw [if_neg (by omega)])); try with_reducible rfl)
            (try simp only [Act.put, List.setIfInBounds_toArray, List.set_cons_zero, List.set_cons_succ])
            refine wpAnyH_take (i := 11) (oi := { dst := some 41, op := Op.binOp BinOp.add 3 (Operand.tmp 39) (Operand.tmp 40) 3, type := 3, pos := "ref.go:109", after := #[{ on := 9, ground := Ground.data }, { on := 10, ground := Ground.data }], guard := none }) (v := ?_) rfl (by kernel_rfl) (by kernel_rfl) (by kernel_rfl) (fun _ _ _ h => h) (Or.inl ⟨by rfl, ?_⟩) (by assumption) ?_
            rotate_left
            · ((intro w hSw; (try dsimp only at hSw); go_simp; (try rw [if_neg (by omega)])); try with_reducible rfl)
            (try simp only [Act.put, List.setIfInBounds_toArray, List.set_cons_zero, List.set_cons_succ])
            refine wpAnyH_take (i := 12) (oi := { dst := some 42, op := Op.indexAddr 32 (Operand.tmp 37) (Operand.tmp 41), type := 0, pos := "ref.go:109", after := #[{ on := 7, ground := Ground.data }, { on := 11, ground := Ground.data }], guard := none }) (v := ?_) rfl (by kernel_rfl) (by kernel_rfl) (by kernel_rfl) (fun _ _ _ h => h) (Or.inl ⟨by rfl, ?_⟩) (by assumption) ?_
            rotate_left
            · ((intro w hSw; (try dsimp only at hSw); go_simp; (try rw [if_neg (by omega)])); try with_reducible rfl)
            (try simp only [Act.put, List.setIfInBounds_toArray, List.set_cons_zero, List.set_cons_succ])
            refine wpAnyH_take (i := 13) (oi := { dst := some 43, op := Op.load 63 (Operand.tmp 42), type := 63, pos := "ref.go:109", after := #[{ on := 12, ground := Ground.data }], guard := none }) (v := ?_) rfl (by kernel_rfl) (by kernel_rfl) (by kernel_rfl) (fun _ _ _ h => h) (Or.inl ⟨by rfl, ?_⟩) (by assumption) ?_
            rotate_left
            · ((intro w hSw; (try dsimp only at hSw); go_simp; (try rw [if_neg (by omega)])); try with_reducible rfl)
            (try simp only [Act.put, List.setIfInBounds_toArray, List.set_cons_zero, List.set_cons_succ])
            refine wpAnyH_take (i := 14) (oi := { dst := some 44, op := Op.fieldAddr 31 (Operand.tmp 3) 0, type := 0, pos := "ref.go:109", after := #[], guard := none }) (v := ?_) rfl (by kernel_rfl) (by kernel_rfl) (by kernel_rfl) (fun _ _ _ h => h) (Or.inl ⟨by rfl, ?_⟩) (by assumption) ?_
            rotate_left
            · ((intro w hSw; (try dsimp only at hSw); go_simp; (try rw [if_neg (by omega)])); try with_reducible rfl)
            (try simp only [Act.put, List.setIfInBounds_toArray, List.set_cons_zero, List.set_cons_succ])
            refine wpAnyH_take (i := 15) (oi := { dst := some 45, op := Op.load 3 (Operand.tmp 44), type := 3, pos := "ref.go:109", after := #[{ on := 14, ground := Ground.data }], guard := none }) (v := ?_) rfl (by kernel_rfl) (by kernel_rfl) (by kernel_rfl) (fun _ _ _ h => h) (Or.inl ⟨by rfl, ?_⟩) (by assumption) ?_
            rotate_left
            · ((intro w hSw; (try dsimp only at hSw); go_simp; (try rw [if_neg (by omega)])); try with_reducible rfl)
            (try simp only [Act.put, List.setIfInBounds_toArray, List.set_cons_zero, List.set_cons_succ])
            refine wpAnyH_take (i := 16) (oi := { dst := some 46, op := Op.move (Operand.tmp 8), type := 3, pos := "ref.go:109", after := #[], guard := none }) (v := ?_) rfl (by kernel_rfl) (by kernel_rfl) (by kernel_rfl) (fun _ _ _ h => h) (Or.inl ⟨by rfl, ?_⟩) (by assumption) ?_
            rotate_left
            · ((intro w hSw; (try dsimp only at hSw); go_simp; (try rw [if_neg (by omega)])); try with_reducible rfl)
            (try simp only [Act.put, List.setIfInBounds_toArray, List.set_cons_zero, List.set_cons_succ])
            refine wpAnyH_take (i := 17) (oi := { dst := some 47, op := Op.binOp BinOp.add 3 (Operand.tmp 45) (Operand.tmp 46) 3, type := 3, pos := "ref.go:109", after := #[{ on := 15, ground := Ground.data }, { on := 16, ground := Ground.data }], guard := none }) (v := ?_) rfl (by kernel_rfl) (by kernel_rfl) (by kernel_rfl) (fun _ _ _ h => h) (Or.inl ⟨by rfl, ?_⟩) (by assumption) ?_
            rotate_left
            · ((intro w hSw; (try dsimp only at hSw); go_simp; (try rw [if_neg (by omega)])); try with_reducible rfl)
            (try simp only [Act.put, List.setIfInBounds_toArray, List.set_cons_zero, List.set_cons_succ])
            refine wpAnyH_ready (rs := [18]) (by kernel_rfl) (by simp) ?_
            refine AllReadyH.cons (o := { dst := some 48, op := Op.call { callee := Callee.value (Operand.func 50), args := #[Operand.tmp 43, Operand.tmp 47], argTypes := #[63, 3] }, type := 4, pos := "ref.go:109", after := #[{ on := 13, ground := Ground.data }, { on := 17, ground := Ground.data }], guard := none }) rfl (fun K hK => ?_) AllReadyH.nil
            (go_simp; go_at_call 50; refine (HBI.out _).mono ?_; rintro u wz ⟨rfl, he⟩; have he' := he.symm; subst he'; dsimp only)
            refine hK.out _ _ ?_ (fun hHeld => ?_)
            · exact HKD.out
            clear hK K
            (try simp only [Act.put, List.setIfInBounds_toArray, List.set_cons_zero, List.set_cons_succ])
            refine wpAnyH_ready (rs := [19]) (by kernel_rfl) (by simp) ?_
            refine AllReadyH.cons (o := { dst := some 49, op := Op.call { callee := Callee.value (Operand.func 49), args := #[Operand.tmp 35, Operand.tmp 36, Operand.tmp 48], argTypes := #[63, 3, 4] }, type := 63, pos := "ref.go:109", after := #[{ on := 5, ground := Ground.data }, { on := 6, ground := Ground.data }, { on := 18, ground := Ground.data }, { on := 18, ground := Ground.chain }], guard := none }) rfl (fun K hK => ?_) AllReadyH.nil
            (go_simp; go_at_call 49; refine (HWT.out _).mono ?_; rintro u wz ⟨rfl, he⟩; have he' := he.symm; subst he'; dsimp only)
            refine hK.out _ _ ?_ (fun hHeld => ?_)
            · exact HKD.out
            clear hK K
            (try simp only [Act.put, List.setIfInBounds_toArray, List.set_cons_zero, List.set_cons_succ])
            refine wpAnyH_take (i := 20) (oi := { dst := some 50, op := Op.indexAddr 32 (Operand.tmp 30) (Operand.tmp 31), type := 0, pos := "ref.go:109", after := #[{ on := 0, ground := Ground.data }, { on := 1, ground := Ground.data }, { on := 0, ground := Ground.phase }, { on := 1, ground := Ground.phase }, { on := 2, ground := Ground.phase }, { on := 3, ground := Ground.phase }, { on := 4, ground := Ground.phase }, { on := 5, ground := Ground.phase }, { on := 6, ground := Ground.phase }, { on := 7, ground := Ground.phase }, { on := 8, ground := Ground.phase }, { on := 9, ground := Ground.phase }, { on := 10, ground := Ground.phase }, { on := 11, ground := Ground.phase }, { on := 12, ground := Ground.phase }, { on := 13, ground := Ground.phase }, { on := 14, ground := Ground.phase }, { on := 15, ground := Ground.phase }, { on := 16, ground := Ground.phase }, { on := 17, ground := Ground.phase }, { on := 18, ground := Ground.phase }, { on := 19, ground := Ground.phase }], guard := none }) (v := ?_) rfl (by kernel_rfl) (by kernel_rfl) (by kernel_rfl) (fun _ _ _ h => h) (Or.inl ⟨by rfl, ?_⟩) (by assumption) ?_
            rotate_left
            · ((intro w hSw; (try dsimp only at hSw); go_simp; (try rw [if_neg (by omega)])); try with_reducible rfl)
            (try simp only [Act.put, List.setIfInBounds_toArray, List.set_cons_zero, List.set_cons_succ])
            refine wpAnyH_done (by kernel_rfl) ?_ _
            show Oper.wp _ _ _ _ _ _
            have HE : Hid ((wr.drew.setCell ⟨g, k, none⟩ (U6 q)).heap[g]? = some (.cells ((PN.rcO R X Y CW CH k (i + 1)).map U6).toArray 63 (0, 0))) := Lib.hid (by rw [heap_setCell_same _ g k _ _ _ HGX.out, HSET.out])
            have HEX : Hid ((wr.drew.setCell ⟨g, k, none⟩ (U6 q)).heap[C]? = some (.cells #[.int .i64 (X : Int), .int .i64 (Y : Int), .int .i64 (CW : Int), .int .i64 (CH : Int)] 31 (0, 0))) := Lib.hid (by rw [Below.heap_setCell _ ⟨g, k, none⟩ _ C (fun e => by have := hgC.out; have e2 : C = g := e; omega)]; exact HXX.out)
            have HEB : Hid (Below V1.heap.size V1 (wr.drew.setCell ⟨g, k, none⟩ (U6 q))) := Lib.hid (bset HBD.out HGV.out _)
            obtain ⟨-, -, y2, y3, -⟩ := HKD.out
            clear hHeld
            go_simp
            clear y2 y3
            go_wp2
            go_roundw
            case rel => exact ⟨i + 1, by go_num, hic, HE, HEX, HEB⟩
            case measure => simp [intOf]; omega
          · obtain rfl : i = CW := by omega
            have hicz : ¬ (i : Int) < (i : Int) := by omega
            have HG2 : Hid (wr.heap[g]? = some (.cells ((PN.rcO R X Y i CH (k + 1) 0).map U6).toArray 63 (0, 0))) := Lib.hid (by rw [← PN.rcO_next]; exact HG.out)
            clear hic
            go_wp2
            go_roundw
            case rel => exact ⟨k + 1, by go_num, hkc, HG2, HX, HBW⟩
            case measure => simp [intOf]; omega
      · obtain rfl : k = CH := by omega
        have hkz : ¬ (k : Int) < (k : Int) := by omega
        have HE : Hid (wr.ownsRow W.heap.size 63 1 (.slice (some ⟨g, 0, none⟩) k k) k ((cutR R X Y CW k).map U6)) := Lib.hid (own_blk (by rw [← PN.rcO_end]; exact HG.out) (Nat.le_trans HB1.out.size HGV.out) (cutR_len _ _ _ _ _) (by omega))
        clear hkc
        go_wp2
        go_ret
        exact ⟨_, rfl, by rw [HCE.out, cutR_len]; exact HE.out, bnext HB1.out HBW.out⟩
  · have hdw : decide (wiP ⟨x, y, cw, ch⟩ 64 (N : Int)) = false := decide_eq_false hw
    have HCE : Hid (CL = []) := Lib.hid (by rw [← HCL.out]; unfold cutL; rw [if_neg (by rw [HN.out]; exact hw)])
    rw [hdw]
    clear hdw hw
    go_wp2
    go_ret
    exact ⟨_, rfl, by rw [HCE.out]; exact World.ownsRow_nil _ _ _ _, bnext HB1.out HBW.out⟩
end Go.Proofs.YtmiennkldkcnfaaDoor

