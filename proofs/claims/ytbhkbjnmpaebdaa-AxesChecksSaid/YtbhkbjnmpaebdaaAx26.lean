/- The regions of a case. No conditions. -/
import Derived.Test.YtbhkbjnmpaebdaaAx25
namespace Go.Proofs.Ytbhkbjnmpaebdaa
set_option maxRecDepth 100000
set_option linter.unusedVariables false
open Go.RowKit Go.Deep
/-- A list of lists of numbers. -/
def LnAt (W : World) (v : Value) (LL : List (List Int)) : Prop := ∃ a cap, v = .slice a LL.length cap ∧ (LL = [] ∨ ∃ g o, a = some ⟨g, o, none⟩ ∧ g < W.heap.size ∧ ∀ i L, LL[i]? = some L → ∃ la lc, W.cell? ⟨g, o + i, none⟩ = some (.slice la L.length lc) ∧ L.length ≤ maxLen ∧ InAt W (.slice la L.length lc) L)
theorem LnAt.keep {W W' : World} {v : Value} {LL : List (List Int)} (h : LnAt W v LL) (hb : Below W.heap.size W W') : LnAt W' v LL := by
  obtain ⟨a, cap, e, h⟩ := h
  refine ⟨a, cap, e, ?_⟩
  rcases h with h | ⟨g, o, e2, hg, hc⟩
  · exact .inl h
  · refine .inr ⟨g, o, e2, Nat.lt_of_lt_of_le hg hb.size, fun i L hL => ?_⟩
    obtain ⟨la, lc, c1, c2, c3⟩ := hc i L hL
    exact ⟨la, lc, (hb.cell (p := ⟨g, o + i, none⟩) hg).trans c1, c2, c3.keep hb⟩
/-- A row of regions of our own: their tents lie in other blocks. -/
def RgO (W : World) (B : Nat) (v : Value) (vs : List Value) (R : List (List AX.Tn)) : Prop := W.ownsRow B 42 1 v R.length vs ∧ ∀ (i : Nat) (r : List AX.Tn), R[i]? = some r → ∃ (ra : Option Addr) (rc : Nat), vs[i]? = some (.slice ra r.length rc) ∧ (r = [] ∨ ∃ g o, ra = some ⟨g, o, none⟩ ∧ g < W.heap.size ∧ v.ownBlock ≠ some g ∧ ∀ (j : Nat) (z : AX.Tn), r[j]? = some z → W.cell? ⟨g, o + j * 3, none⟩ = some (.int .i64 z.1) ∧ W.cell? ⟨g, o + j * 3 + 1, none⟩ = some (.int .i64 z.2.1) ∧ W.cell? ⟨g, o + j * 3 + 2, none⟩ = some (.int .i64 z.2.2))
theorem RgO.nil (W : World) (B : Nat) : RgO W B (.slice none 0 0) [] [] := ⟨⟨rfl, .inl ⟨rfl, rfl⟩⟩, fun i r h => by simp at h⟩
theorem RgO.keep {W W' : World} {B : Nat} {v : Value} {vs : List Value} {R : List (List AX.Tn)} (h : RgO W B v vs R) (hb : Below W.heap.size W W') : RgO W' B v vs R := by
  refine ⟨own_below h.1 hb, fun i r hr => ?_⟩
  obtain ⟨ra, rc, e, h2⟩ := h.2 i r hr
  refine ⟨ra, rc, e, ?_⟩
  rcases h2 with h2 | ⟨g, o, e2, hg, hne, hc⟩
  · exact .inl h2
  · exact .inr ⟨g, o, e2, Nat.lt_of_lt_of_le hg hb.size, hne, fun j z hz => ⟨(hb.cell (p := ⟨g, o + j * 3, none⟩) hg).trans (hc j z hz).1, (hb.cell (p := ⟨g, o + j * 3 + 1, none⟩) hg).trans (hc j z hz).2.1, (hb.cell (p := ⟨g, o + j * 3 + 2, none⟩) hg).trans (hc j z hz).2.2⟩⟩
theorem RgO.base {W : World} {B B' : Nat} {v : Value} {vs : List Value} {R : List (List AX.Tn)} (h : RgO W B v vs R) (hB : B' ≤ B) : RgO W B' v vs R := ⟨own_base h.1 hB, h.2⟩
theorem RgO.at {W : World} {B : Nat} {v : Value} {vs : List Value} {R : List (List AX.Tn)} (h : RgO W B v vs R) : RgAt W v R := by
  obtain ⟨a, c, rfl⟩ := own_shape h.1
  refine ⟨a, c, rfl, ?_⟩
  cases hR : R with
  | nil => exact .inl rfl
  | cons r0 R0 =>
    right
    obtain ⟨g, cap, e, hb, hg, hcl⟩ := own_at h.1 (by rw [hR]; simp)
    injection e with e1
    subst e1
    rw [← hR]
    refine ⟨g, 0, rfl, hg, fun i r hr => ?_⟩
    obtain ⟨ra, rc, e2, h2⟩ := h.2 i r hr
    refine ⟨ra, rc, by rw [Nat.zero_add]; exact hcl i _ e2, ra, rc, rfl, ?_⟩
    rcases h2 with h2 | ⟨g', o', e3, hg', -, hc⟩
    · exact .inl h2
    · exact .inr ⟨g', o', e3, hg', hc⟩
theorem RgO.push {W W1 W2 : World} {B : Nat} {v v' : Value} {vs : List Value} {R : List (List AX.Tn)} {r : List AX.Tn} {n : Nat} {ua : Option Addr} {uc : Nat} (h : RgO W B v vs R) (hn : r.length = n) (hb : Below W.heap.size W W1) (hu : W1.ownsRow W.heap.size 71 3 (.slice ua n uc) n (AX.tnc r)) (o : Obj)
    (hg : (W1.alloc o).grownBy W2 v.ownBlock) (hown : W2.ownsRow B 42 1 v' (R.length + 1) (vs ++ [.slice ua n uc])) (hat : v'.ownBlock = v.ownBlock ∨ v'.ownBlock = some (W1.alloc o).heap.size) : RgO W2 B v' (vs ++ [.slice ua n uc]) (R ++ [r]) := by
  subst hn
  have hvl : vs.length = R.length := by have := h.1.1; omega
  refine ⟨by rw [List.length_append]; exact hown, fun i r' hr => ?_⟩
  have hkeep : ∀ q, q < W1.heap.size → v.ownBlock ≠ some q → W2.heap[q]? = W1.heap[q]? := fun q hq hne => (hg.block q (by simp; omega) hne.symm).trans (Below.block (balloc (Below.refl _ W1) o) _ hq)
  have hcell : ∀ q (p : Nat), q < W1.heap.size → v.ownBlock ≠ some q → W2.cell? ⟨q, p, none⟩ = W1.cell? ⟨q, p, none⟩ := fun q p hq hne => World.cell?_of_block (a := ⟨q, p, none⟩) (hkeep q hq hne)
  have hs2 : W1.heap.size ≤ W2.heap.size := by have := hg.size; simp at this; omega
  have hnew : ∀ q, q < W1.heap.size → v.ownBlock ≠ some q → v'.ownBlock ≠ some q := fun q hq hne e => by
    rcases hat with h1 | h1
    · exact hne (h1.symm.trans e)
    · have := Option.some.inj (h1.symm.trans e)
      simp at this
      omega
  by_cases hi : i < R.length
  · rw [List.getElem?_append_left hi] at hr
    obtain ⟨ra, rc, e, h2⟩ := h.2 i r' hr
    refine ⟨ra, rc, by rw [List.getElem?_append_left (by omega)]; exact e, ?_⟩
    rcases h2 with h2 | ⟨g, o', e2, hg', hne, hc⟩
    · exact .inl h2
    · have hg1 : g < W1.heap.size := Nat.lt_of_lt_of_le hg' hb.size
      refine .inr ⟨g, o', e2, by omega, hnew g hg1 hne, fun j z hz => ?_⟩
      rw [hcell g _ hg1 hne, hcell g _ hg1 hne, hcell g _ hg1 hne, hb.cell (p := ⟨g, o' + j * 3, none⟩) hg', hb.cell (p := ⟨g, o' + j * 3 + 1, none⟩) hg', hb.cell (p := ⟨g, o' + j * 3 + 2, none⟩) hg']
      exact hc j z hz
  · rw [List.getElem?_append_right (by omega)] at hr
    obtain ⟨hi0, rfl⟩ : i - R.length = 0 ∧ r = r' := by
      cases hd : i - R.length with
      | zero => rw [hd] at hr; exact ⟨rfl, by simpa using hr⟩
      | succ j => rw [hd] at hr; simp at hr
    refine ⟨ua, uc, by rw [List.getElem?_append_right (by omega), hvl, hi0]; rfl, ?_⟩
    obtain ⟨a, c, e, h3⟩ := (own_srcN hu).tn
    injection e with e1 e2 e3
    subst e1
    rcases h3 with h3 | ⟨g, o', e2, hg', hc⟩
    · exact .inl h3
    · have hne : v.ownBlock ≠ some g := fun e => by
        have h1 := (h.1.lt g e).2
        have h2 := (hu.lt g (by rw [e2]; rfl)).1
        omega
      refine .inr ⟨g, o', e2, by omega, hnew g hg' hne, fun j z hz => ?_⟩
      rw [hcell g _ hg' hne, hcell g _ hg' hne, hcell g _ hg' hne]
      exact hc j z hz
theorem info_rg : (Try.prog.info? 42).map (fun i => (i.zero, i.size, i.bytes)) = some (some (.agg #[.slice none 0 0]), 1, 24) := by kernel_rfl
/-- A case as an argument. -/
def CaV (ar : Option Addr) (nr cr : Nat) (aa : Option Addr) (na ca : Nat) (ag : Option Addr) (ng cg : Nat) (aw : Option Addr) (nw cw : Nat) (x : Int) : Value := .agg #[.slice ar nr cr, .slice aa na ca, .slice ag ng cg, .slice aw nw cw, .int .u8 x]
theorem axesOf_c {x : Int} {n : Nat} (h : x % 4 = (n : Int)) (ar : Option Addr) (nr cr : Nat) (aa : Option Addr) (na ca : Nat) (ag : Option Addr) (ng cg : Nat) (aw : Option Addr) (nw cw : Nat) (h0 : 0 ≤ x) (h1 : x ≤ 255) (w : World) :
    Calls Try.prog 28 #[CaV ar nr cr aa na ca ag ng cg aw nw cw x] w fun e w' => e = .returned (.int .i64 (n : Int)) ∧ Below w.heap.size w w' := by
  show Calls _ _ #[.agg #[.slice ar nr cr, .slice aa na ca, .slice ag ng cg, .slice aw nw cw, .int .u8 x]] _ _
  go_enter Try.func28, Try.ntmps28
  go_wp2
  go_ret
  exact ⟨ret1 h, balloc (Below.refl _ _) _⟩
def regs (LL : List (List Int)) (n : Nat) : List (List AX.Tn) := (LL.take 4).map fun l => AX.mkReg l n
set_option maxHeartbeats 8000000 in
theorem regions_any (LL : List (List Int)) (ar : Option Addr) (nr cr : Nat) (aa : Option Addr) (na ca : Nat) (ag : Option Addr) (ng cg : Nat) (aw : Option Addr) (nw cw : Nat) (x : Int) (n : Nat) (w : World) (hv : LnAt w (.slice ar nr cr) LL) (hlen : LL.length ≤ maxLen) (hx : x % 4 = (n : Int)) (hx0 : 0 ≤ x) (hx1 : x ≤ 255) :
    Calls Try.prog 27 #[CaV ar nr cr aa na ca ag ng cg aw nw cw x] w fun e w' => ∃ v' vs, e = .returned v' ∧ RgO w' w.heap.size v' vs (regs LL n) ∧ Below w.heap.size w w' := by
  obtain ⟨i0, hi0, hz0, hz1, hz2⟩ := info_parts info_rg
  have hn3 : n ≤ 3 := by omega
  have HLL : Hid (∀ V, Below w.heap.size w V → LnAt V (.slice ar nr cr) LL) := Lib.hid fun V hV => hv.keep hV
  obtain ⟨a, cap, e, hc⟩ := hv
  injection e with e1 e2 e3
  subst e1 e2 e3
  clear hc
  obtain ⟨nr, hnr⟩ : ∃ nr, LL.length = nr := ⟨_, rfl⟩
  have HN := Lib.hid hnr
  rw [hnr] at hlen HLL ⊢
  unfold maxLen at hlen
  have HX := Lib.hid hx
  show Calls _ _ #[.agg #[.slice ar nr cr, .slice aa na ca, .slice ag ng cg, .slice aw nw cw, .int .u8 x]] _ _
  obtain ⟨B, hB⟩ : ∃ B, w.heap.size = B := ⟨_, rfl⟩
  obtain ⟨W0, hW0⟩ : ∃ W0, w.alloc (.cells #[.slice ar nr cr, .slice aa na ca, .slice ag ng cg, .slice aw nw cw, .int .u8 x] 56) = W0 := ⟨_, rfl⟩
  have hbx : W0.heap[B]? = some (.cells #[.slice ar nr cr, .slice aa na ca, .slice ag ng cg, .slice aw nw cw, .int .u8 x] 56 (0, 0)) := by rw [← hW0, ← hB]; exact heap_alloc_new w _
  have hb0 : Below w.heap.size w W0 := by rw [← hW0]; exact balloc (Below.refl _ _) _
  have HBX : Hid (∀ V, Below W0.heap.size W0 V → V.heap[B]? = some (.cells #[.slice ar nr cr, .slice aa na ca, .slice ag ng cg, .slice aw nw cw, .int .u8 x] 56 (0, 0))) := Lib.hid fun V hV => (hV.block B (Array.getElem?_eq_some_iff.1 hbx).1).trans hbx
  have HLT : Hid (B < W0.heap.size ∧ W0.heap.size = B + 1) := Lib.hid ⟨(Array.getElem?_eq_some_iff.1 hbx).1, by rw [← hW0, ← hB]; simp⟩
  have HB := Lib.hid hB
  have HB0 := Lib.hid hb0
  clear hnr hx hbx hb0
  go_enter Try.func27, Try.ntmps27
  go_wp2_with fail
  try rw [hW0]
  try rw [hB]
  clear hW0 hB
  go_loopw [3, 4] (fun v3 v4 wr => ∃ (k : Nat) (vs : List Value), v4 = .int .i64 (k : Int) ∧ k ≤ nr ∧ k ≤ 4 ∧ RgO wr (B + 1) v3 vs ((LL.take k).map fun l => AX.mkReg l n) ∧ Below W0.heap.size W0 wr) (fun _ v _ => nr - (intOf v).toNat)
  case atStart => exact ⟨0, [], rfl, Nat.zero_le _, by omega, RgO.nil _ _, Below.refl _ _⟩
  case round =>
    obtain ⟨k, vs, rfl, hk, hk4, hrg, hb⟩ := hrel
    have hRl : ((LL.take k).map fun l => AX.mkReg l n).length = k := by rw [List.length_map, List.length_take, HN.out]; omega
    have hown := hrg.1
    rw [hRl] at hown
    obtain ⟨oa, oc, rfl⟩ := own_shape hown
    obtain ⟨wo, hwo⟩ : ∃ wo, wo = wr := ⟨_, rfl⟩
    subst hwo
    have HB2 := Lib.hid hb
    have HBL : Hid (B + 1 ≤ wo.heap.size) := Lib.hid (by have := hb.size; have := HLT.out.1; omega)
    have hbx := HBX.out wo hb
    have c0 := cell_of hbx (i := 0) rfl
    by_cases hin : k < nr
    · have hii : (k : Int) < (nr : Int) := by omega
      have hi0' : (0 : Int) ≤ (k : Int) := by omega
      by_cases hin4 : k < 4
      · have hii4 : (k : Int) < 4 := by omega
        obtain ⟨L, hLk⟩ : ∃ L, LL[k]? = some L := ⟨LL[k]'(by rw [HN.out]; exact hin), List.getElem?_eq_getElem _⟩
        have HT : Hid ((LL.take (k + 1)).map (fun l => AX.mkReg l n) = (LL.take k).map (fun l => AX.mkReg l n) ++ [AX.mkReg L n]) := Lib.hid (by rw [List.take_add_one, hLk]; simp)
        obtain ⟨aw', cw', e1, hcw⟩ := HLL.out w (Below.refl _ _)
        rw [HN.out] at e1
        injection e1 with e1 e2 e3
        subst e1 e3
        rcases hcw with h | ⟨g, o, rfl, hg, hcl⟩
        · rw [h] at hLk
          simp at hLk
        obtain ⟨la, lc, cl, hLm, hrow⟩ := hcl k L hLk
        replace cl := ((bnext HB0.out hb).cell (p := ⟨g, o + k, none⟩) hg).trans cl
        replace hrow := hrow.keep (bnext HB0.out hb)
        obtain ⟨ln, hln⟩ : ∃ ln, L.length = ln := ⟨_, rfl⟩
        rw [hln] at cl hrow
        have HL : Hid (∀ V, Below wo.heap.size wo V → InAt V (.slice la ln lc) L) := Lib.hid fun V hV => hrow.keep hV
        have c1 := cell_of hbx (i := 1) rfl
        have c2 := cell_of hbx (i := 2) rfl
        have c3 := cell_of hbx (i := 3) rfl
        have c4 := cell_of hbx (i := 4) rfl
        have hBlt : B < wo.heap.size := (Array.getElem?_eq_some_iff.1 hbx).1
        have HS : Hid (∀ V, Below wo.heap.size wo V → V.cell? ⟨B, 0, none⟩ = some (.slice (some ⟨g, o, none⟩) nr cr) ∧ V.cell? ⟨B, 1, none⟩ = some (.slice aa na ca) ∧ V.cell? ⟨B, 2, none⟩ = some (.slice ag ng cg) ∧ V.cell? ⟨B, 3, none⟩ = some (.slice aw nw cw) ∧ V.cell? ⟨B, 4, none⟩ = some (.int .u8 x) ∧ V.cell? ⟨g, o + k, none⟩ = some (.slice la ln lc)) := Lib.hid fun V hV =>
          ⟨(hV.cell (p := ⟨B, 0, none⟩) hBlt).trans c0, (hV.cell (p := ⟨B, 1, none⟩) hBlt).trans c1, (hV.cell (p := ⟨B, 2, none⟩) hBlt).trans c2, (hV.cell (p := ⟨B, 3, none⟩) hBlt).trans c3, (hV.cell (p := ⟨B, 4, none⟩) hBlt).trans c4, (hV.cell (p := ⟨g, o + k, none⟩) (Nat.lt_of_lt_of_le hg (bnext HB0.out hb).size)).trans cl⟩
        have HSQ : Hid (∀ V : World, (∀ q, q ≤ B → V.heap[q]? = wo.heap[q]?) → V.cell? ⟨B, 0, none⟩ = some (.slice (some ⟨g, o, none⟩) nr cr) ∧ V.cell? ⟨B, 1, none⟩ = some (.slice aa na ca) ∧ V.cell? ⟨B, 2, none⟩ = some (.slice ag ng cg) ∧ V.cell? ⟨B, 3, none⟩ = some (.slice aw nw cw) ∧ V.cell? ⟨B, 4, none⟩ = some (.int .u8 x) ∧ V.cell? ⟨g, o + k, none⟩ = some (.slice la ln lc)) := Lib.hid fun V hV =>
          ⟨(World.cell?_of_block (a := ⟨B, 0, none⟩) (hV B (Nat.le_refl _))).trans c0, (World.cell?_of_block (a := ⟨B, 1, none⟩) (hV B (Nat.le_refl _))).trans c1, (World.cell?_of_block (a := ⟨B, 2, none⟩) (hV B (Nat.le_refl _))).trans c2, (World.cell?_of_block (a := ⟨B, 3, none⟩) (hV B (Nat.le_refl _))).trans c3, (World.cell?_of_block (a := ⟨B, 4, none⟩) (hV B (Nat.le_refl _))).trans c4, (World.cell?_of_block (a := ⟨g, o + k, none⟩) (hV g (by have := HB.out; show g ≤ B; omega))).trans cl⟩
        have HRG : Hid (wo.ownsRow (B + 1) 42 1 (.slice oa k oc) k vs ∧ RgO wo (B + 1) (.slice oa k oc) vs ((LL.take k).map fun l => AX.mkReg l n)) := Lib.hid ⟨hown, hrg⟩
        have HRL := Lib.hid hRl
        have hi0'' := hi0
        have HLN := Lib.hid hln
        generalize ((LL.take k).map fun l => AX.mkReg l n) = RR at HRG HT HRL
        clear hcl hLk hrow hb hbx hrg hown hRl hln
        go_upto_region 5 with fail
        refine wp_region_last #[{ dst := some 16, op := Op.move (Operand.tmp 3), type := 47, pos := "law.go:157", after := #[], guard := none }, { dst := some 17, op := Op.fieldAddr 56 (Operand.tmp 1) 0, type := 0, pos := "law.go:157", after := #[], guard := none }, { dst := some 18, op := Op.load 54 (Operand.tmp 17), type := 54, pos := "law.go:157", after := #[{ on := 1, ground := Ground.data }], guard := none }, { dst := some 19, op := Op.move (Operand.tmp 4), type := 3, pos := "law.go:157", after := #[], guard := none }, { dst := some 20, op := Op.indexAddr 54 (Operand.tmp 18) (Operand.tmp 19), type := 0, pos := "law.go:157", after := #[{ on := 2, ground := Ground.data }, { on := 3, ground := Ground.data }], guard := none }, { dst := some 21, op := Op.load 25 (Operand.tmp 20), type := 25, pos := "law.go:157", after := #[{ on := 4, ground := Ground.data }], guard := none }, { dst := some 22, op := Op.load 56 (Operand.tmp 1), type := 56, pos := "law.go:157", after := #[], guard := none }, { dst := some 23, op := Op.call { callee := Callee.value (Operand.func 28), args := #[Operand.tmp 22], argTypes := #[56] }, type := 3, pos := "law.go:157", after := #[{ on := 6, ground := Ground.data }], guard := none }, { dst := some 24, op := Op.call { callee := Callee.value (Operand.func 21), args := #[Operand.tmp 21, Operand.tmp 23], argTypes := #[25, 3] }, type := 42, pos := "law.go:157", after := #[{ on := 5, ground := Ground.data }, { on := 7, ground := Ground.data }, { on := 7, ground := Ground.chain }], guard := none }, { dst := some 25, op := Op.buildSlice 47 1 #[(0, Operand.tmp 24)], type := 47, pos := "law.go:157", after := #[{ on := 8, ground := Ground.data }], guard := none }, { dst := some 26, op := Op.call { callee := Callee.builtin Builtin.append, args := #[Operand.tmp 16, Operand.tmp 25], argTypes := #[47, 47] }, type := 47, pos := "law.go:157", after := #[{ on := 0, ground := Ground.data }, { on := 9, ground := Ground.data }, { on := 8, ground := Ground.chain }], guard := none }] { dst := some 3, op := Op.assign (Operand.tmp 26), type := 47, pos := "law.go:157", after := #[{ on := 10, ground := Ground.data }, { on := 10, ground := Ground.chain }, { on := 0, ground := Ground.phase }, { on := 1, ground := Ground.phase }, { on := 2, ground := Ground.phase }, { on := 3, ground := Ground.phase }, { on := 4, ground := Ground.phase }, { on := 5, ground := Ground.phase }, { on := 6, ground := Ground.phase }, { on := 7, ground := Ground.phase }, { on := 8, ground := Ground.phase }, { on := 9, ground := Ground.phase }, { on := 10, ground := Ground.phase }], guard := none } rfl (by kernel_rfl) (by kernel_rfl) (fun w' => w'.cell? ⟨B, 0, none⟩ = some (.slice (some ⟨g, o, none⟩) nr cr) ∧ w'.cell? ⟨B, 1, none⟩ = some (.slice aa na ca) ∧ w'.cell? ⟨B, 2, none⟩ = some (.slice ag ng cg) ∧ w'.cell? ⟨B, 3, none⟩ = some (.slice aw nw cw) ∧ w'.cell? ⟨B, 4, none⟩ = some (.int .u8 x) ∧ w'.cell? ⟨g, o + k, none⟩ = some (.slice la ln lc)) ?_ (fun hHeld => ?_)
        · first | exact hS9 | exact HS.out _ (balloc a8 _) | exact HS.out _ a8 | exact HS.out _ a7 | exact HS.out _ (Below.drew (Below.refl _ wo))
        refine wpAnyH_take (i := 0) (oi := { dst := some 16, op := Op.move (Operand.tmp 3), type := 47, pos := "law.go:157", after := #[], guard := none }) (v := ?_) rfl (by kernel_rfl) (by kernel_rfl) (by kernel_rfl) (fun _ _ _ h => h) (Or.inl ⟨by rfl, ?_⟩) (by assumption) ?_
        rotate_left
        · ((intro w hSw; (try dsimp only at hSw); go_simp; (try rw [if_neg (by omega)])); try with_reducible rfl)
        (try simp only [Act.put, List.setIfInBounds_toArray, List.set_cons_zero, List.set_cons_succ])
        refine wpAnyH_take (i := 1) (oi := { dst := some 17, op := Op.fieldAddr 56 (Operand.tmp 1) 0, type := 0, pos := "law.go:157", after := #[], guard := none }) (v := ?_) rfl (by kernel_rfl) (by kernel_rfl) (by kernel_rfl) (fun _ _ _ h => h) (Or.inl ⟨by rfl, ?_⟩) (by assumption) ?_
        rotate_left
        · ((intro w hSw; (try dsimp only at hSw); go_simp; (try rw [if_neg (by omega)])); try with_reducible rfl)
        (try simp only [Act.put, List.setIfInBounds_toArray, List.set_cons_zero, List.set_cons_succ])
        refine wpAnyH_take (i := 2) (oi := { dst := some 18, op := Op.load 54 (Operand.tmp 17), type := 54, pos := "law.go:157", after := #[{ on := 1, ground := Ground.data }], guard := none }) (v := ?_) rfl (by kernel_rfl) (by kernel_rfl) (by kernel_rfl) (fun _ _ _ h => h) (Or.inl ⟨by rfl, ?_⟩) (by assumption) ?_
        rotate_left
        · ((intro w hSw; obtain ⟨s0, s1, s2, s3, s4, s5⟩ := hSw; go_simp); try with_reducible rfl)
        (try simp only [Act.put, List.setIfInBounds_toArray, List.set_cons_zero, List.set_cons_succ])
        refine wpAnyH_take (i := 3) (oi := { dst := some 19, op := Op.move (Operand.tmp 4), type := 3, pos := "law.go:157", after := #[], guard := none }) (v := ?_) rfl (by kernel_rfl) (by kernel_rfl) (by kernel_rfl) (fun _ _ _ h => h) (Or.inl ⟨by rfl, ?_⟩) (by assumption) ?_
        rotate_left
        · ((intro w hSw; (try dsimp only at hSw); go_simp; (try rw [if_neg (by omega)])); try with_reducible rfl)
        (try simp only [Act.put, List.setIfInBounds_toArray, List.set_cons_zero, List.set_cons_succ])
        refine wpAnyH_take (i := 4) (oi := { dst := some 20, op := Op.indexAddr 54 (Operand.tmp 18) (Operand.tmp 19), type := 0, pos := "law.go:157", after := #[{ on := 2, ground := Ground.data }, { on := 3, ground := Ground.data }], guard := none }) (v := ?_) rfl (by kernel_rfl) (by kernel_rfl) (by kernel_rfl) (fun _ _ _ h => h) (Or.inl ⟨by rfl, ?_⟩) (by assumption) ?_
        rotate_left
        · ((intro w hSw; (try dsimp only at hSw); go_simp; (try rw [if_neg (by omega)])); try with_reducible rfl)
        (try simp only [Act.put, List.setIfInBounds_toArray, List.set_cons_zero, List.set_cons_succ])
        refine wpAnyH_take (i := 5) (oi := { dst := some 21, op := Op.load 25 (Operand.tmp 20), type := 25, pos := "law.go:157", after := #[{ on := 4, ground := Ground.data }], guard := none }) (v := ?_) rfl (by kernel_rfl) (by kernel_rfl) (by kernel_rfl) (fun _ _ _ h => h) (Or.inl ⟨by rfl, ?_⟩) (by assumption) ?_
        rotate_left
        · ((intro w hSw; obtain ⟨s0, s1, s2, s3, s4, s5⟩ := hSw; go_simp); try with_reducible rfl)
        (try simp only [Act.put, List.setIfInBounds_toArray, List.set_cons_zero, List.set_cons_succ])
        refine wpAnyH_take (i := 6) (oi := { dst := some 22, op := Op.load 56 (Operand.tmp 1), type := 56, pos := "law.go:157", after := #[], guard := none }) (v := ?_) rfl (by kernel_rfl) (by kernel_rfl) (by kernel_rfl) (fun _ _ _ h => h) (Or.inl ⟨by rfl, ?_⟩) (by assumption) ?_
        rotate_left
        · ((intro w hSw; obtain ⟨s0, s1, s2, s3, s4, s5⟩ := hSw; go_simp); try with_reducible rfl)
        (try simp only [Act.put, List.setIfInBounds_toArray, List.set_cons_zero, List.set_cons_succ])
        refine wpAnyH_ready (rs := [7]) (by kernel_rfl) (by simp) ?_
        refine AllReadyH.cons (o := { dst := some 23, op := Op.call { callee := Callee.value (Operand.func 28), args := #[Operand.tmp 22], argTypes := #[56] }, type := 3, pos := "law.go:157", after := #[{ on := 6, ground := Ground.data }], guard := none }) rfl (fun K hK => ?_) AllReadyH.nil
        (go_simp; go_at_call 28; refine (axesOf_c HX.out (some ⟨g, o, none⟩) nr cr aa na ca ag ng cg aw nw cw hx0 hx1 _).mono ?_; rintro e w7 ⟨rfl, hb7⟩; have a7 := bnext (Below.drew (Below.refl _ wo)) hb7; dsimp only)
        refine hK.out _ _ ?_ (fun hHeld => ?_)
        · first | exact hS9 | exact HS.out _ (balloc a8 _) | exact HS.out _ a8 | exact HS.out _ a7 | exact HS.out _ (Below.drew (Below.refl _ wo))
        clear hK K
        (try simp only [Act.put, List.setIfInBounds_toArray, List.set_cons_zero, List.set_cons_succ])
        refine wpAnyH_ready (rs := [8]) (by kernel_rfl) (by simp) ?_
        refine AllReadyH.cons (o := { dst := some 24, op := Op.call { callee := Callee.value (Operand.func 21), args := #[Operand.tmp 21, Operand.tmp 23], argTypes := #[25, 3] }, type := 42, pos := "law.go:157", after := #[{ on := 5, ground := Ground.data }, { on := 7, ground := Ground.data }, { on := 7, ground := Ground.chain }], guard := none }) rfl (fun K hK => ?_) AllReadyH.nil
        (go_simp; go_at_call 21; refine (maderegion_any L n _ _ (HL.out _ a7) hLm hn3).mono ?_; rintro e w8 ⟨u, rfl, ho8, hb8⟩; have a8 := bnext a7 hb8; obtain ⟨ua, uc, rfl⟩ := own_shape ho8; dsimp only)
        refine hK.out _ _ ?_ (fun hHeld => ?_)
        · first | exact hS9 | exact HS.out _ (balloc a8 _) | exact HS.out _ a8 | exact HS.out _ a7 | exact HS.out _ (Below.drew (Below.refl _ wo))
        clear hK K
        (try simp only [Act.put, List.setIfInBounds_toArray, List.set_cons_zero, List.set_cons_succ])
        refine wpAnyH_ready (rs := [9]) (by kernel_rfl) (by simp) ?_
        refine AllReadyH.cons (o := { dst := some 25, op := Op.buildSlice 47 1 #[(0, Operand.tmp 24)], type := 47, pos := "law.go:157", after := #[{ on := 8, ground := Ground.data }], guard := none }) rfl (fun K hK => ?_) AllReadyH.nil
        go_simp
        refine hK.out _ _ ?_ (fun hHeld => ?_)
        · first | exact hS9 | exact HS.out _ (balloc a8 _) | exact HS.out _ a8 | exact HS.out _ a7 | exact HS.out _ (Below.drew (Below.refl _ wo))
        clear hK K
        (try simp only [Act.put, List.setIfInBounds_toArray, List.set_cons_zero, List.set_cons_succ])
        refine wpAnyH_ready (rs := [10]) (by kernel_rfl) (by simp) ?_
        refine AllReadyH.cons (o := { dst := some 26, op := Op.call { callee := Callee.builtin Builtin.append, args := #[Operand.tmp 16, Operand.tmp 25], argTypes := #[47, 47] }, type := 47, pos := "law.go:157", after := #[{ on := 0, ground := Ground.data }, { on := 9, ground := Ground.data }, { on := 8, ground := Ground.chain }], guard := none }) rfl (fun K hK => ?_) AllReadyH.nil
        (refine step_append_any (by rfl) _ _ _ (by rfl) (B + 1) 42 i0 _ 1 24 Try.underlying47 hi0 hz0 hz1 hz2 rfl (by omega) (.slice oa k oc) k vs (by rfl) (own_below (own_below HRG.out.1 a8) (balloc (Below.refl _ w8) (.cells #[.slice ua n uc] 42))) ⟨w8.heap.size, 0, none⟩ 1 1 [.slice ua n uc] (by rfl) (by rfl) (World.news_of_block (cs := #[.slice ua n uc]) (t := 42) (fr := (0, 0)) (heap_alloc_new w8 _)) (by simp [Value.oneCell']) (by unfold maxLen; omega) (by omega) (by have := a8.size; have := HBL.out; simp; omega) ?_; intro v' w9 hown9 hgrow hat; obtain ⟨gg, cap', rfl⟩ := ownsRow_succ hown9; have hS9 := HSQ.out w9 (fun q hq => (hgrow.block q (by have := a8.size; have := HBL.out; simp; omega) (fun e => by have := (HRG.out.1.lt q e.symm).1; omega)).trans (Below.block (balloc a8 (.cells #[.slice ua n uc] 42)) q (by have := HBL.out; omega))))
        refine hK.out _ _ ?_ (fun hHeld => ?_)
        · first | exact hS9 | exact HS.out _ (balloc a8 _) | exact HS.out _ a8 | exact HS.out _ a7 | exact HS.out _ (Below.drew (Below.refl _ wo))
        clear hK K
        (try simp only [Act.put, List.setIfInBounds_toArray, List.set_cons_zero, List.set_cons_succ])
        refine wpAnyH_done (by kernel_rfl) ?_ _
        show Oper.wp _ _ _ _ _ _
        have hpu := HRG.out.2.push (AX.mkReg_len L n) a8 (own_base ho8 a7.size) (.cells #[.slice ua n uc] 42) hgrow (by rw [HRL.out]; exact hown9) hat
        have HPU := Lib.hid hpu
        have HBW : Hid (Below W0.heap.size W0 w9) := Lib.hid ((balloc (bnext HB2.out a8) (.cells #[.slice ua n uc] 42)).grown hgrow (by have := (bnext HB2.out a8).size; simp; omega) (fun j ej => by have := (HRG.out.1.lt j ej).1; have := HLT.out.2; omega))
        clear hpu hown9 hgrow hat ho8
        go_simp
        go_wp2
        go_roundw
        case rel => exact ⟨k + 1, vs ++ [.slice ua n uc], by go_num, hin, by omega, by rw [HT.out]; exact HPU.out, HBW.out⟩
        case measure => simp [intOf]; omega
      · obtain rfl : k = 4 := by omega
        have HRG := Lib.hid hrg
        clear hrg hown hRl hb hbx
        go_wp2
        go_ret
        exact ⟨_, vs, rfl, HRG.out.base (by have := HB.out; omega), bnext HB0.out HB2.out⟩
    · obtain rfl : k = nr := by omega
      have HRG : Hid (RgO wo (B + 1) (.slice oa k oc) vs (regs LL n)) := Lib.hid (by
        unfold regs
        rw [List.take_of_length_le (by rw [HN.out]; omega)]
        rw [List.take_of_length_le (by rw [HN.out]; omega)] at hrg
        exact hrg)
      clear hrg hown hRl hb hbx
      go_wp2
      go_ret
      exact ⟨_, vs, rfl, HRG.out.base (by have := HB.out; omega), bnext HB0.out HB2.out⟩
end Go.Proofs.Ytbhkbjnmpaebdaa
