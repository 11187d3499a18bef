/- The rows that differ, and the rectangle of some of them. No conditions. -/
import Derived.Test.YtmiennkldkcnfaaDoorPn10
import Derived.Lib.ItoaNum
namespace Go.Proofs.YtmiennkldkcnfaaDoor.PN
theorem row_rb {k d : Nat} (hk : k < 64) (h0 : d ≠ 0) (hd : d < 2 ^ 64) : rb (rowR k d) := by
  obtain ⟨b1, b2, b3⟩ := Lib.bitLenAux_bounds 64 d hd h0
  obtain ⟨-, c2⟩ := Lib.lowest_bit 64 d h0 hd
  have e : Lib.bitLenAux 64 d = Lib.bitLen d := rfl
  rw [e] at b1 b2 b3
  obtain ⟨m, hm, hc⟩ := Lib.ctzFrom_spec 64 d (by omega) hd
  have hcz : Lib.ctz 64 d = Lib.ctzFrom 64 d := by unfold Lib.ctz; rw [if_neg h0]
  rw [hcz] at c2
  have hlt : Lib.ctzFrom 64 d < Lib.bitLen d := by
    have h1 : 2 ^ Lib.ctzFrom 64 d ≤ d := by
      have h3 : 2 ^ Lib.ctzFrom 64 d * 1 ≤ 2 ^ Lib.ctzFrom 64 d * (2 * m + 1) := Nat.mul_le_mul_left _ (by omega)
      rw [← hm] at h3
      omega
    exact (Nat.pow_lt_pow_iff_right (a := 2) (by decide)).1 (Nat.lt_of_le_of_lt h1 b3)
  have hle : Lib.bitLen d ≤ 64 := by
    have h1 := Nat.lt_of_le_of_lt b2 hd
    have := (Nat.pow_lt_pow_iff_right (a := 2) (by decide)).1 h1
    omega
  unfold rb rowR
  rw [hcz]
  dsimp only
  omega
theorem bx_fold (D : List Nat) (f n : Nat) : bx D f n = ((List.range n).map fun j => rowR (f + 1 + j) (D.getD (f + 1 + j) 0)).foldl both (rowR f (D.getD f 0)) := by
  induction n with
  | zero => rfl
  | succ n ih =>
    rw [List.range_succ, List.map_append, List.foldl_append, ← ih]
    show _ = both (bx D f n) (rowR (f + 1 + n) (D.getD (f + 1 + n) 0))
    rw [show f + 1 + n = f + n + 1 by omega]
    rfl
theorem bx_rb (D : List Nat) (f n : Nat) (hf : f + n < 64) (h : ∀ k, f ≤ k → k ≤ f + n → D.getD k 0 ≠ 0 ∧ D.getD k 0 < 2 ^ 64) : rb (bx D f n) := by
  induction n with
  | zero => exact row_rb (by omega) (h f (by omega) (by omega)).1 (h f (by omega) (by omega)).2
  | succ n ih => exact both_rb (ih (by omega) (fun k h1 h2 => h k h1 (by omega))) (row_rb (by omega) (h _ (by omega) (by omega)).1 (h _ (by omega) (by omega)).2)
/-- The rectangles of n rows from f on. -/
def rws (D : List Nat) (f n : Nat) : List Rc := (List.range n).map fun j => rowR (f + j) (D.getD (f + j) 0)
theorem rws_len (D : List Nat) (f n : Nat) : (rws D f n).length = n := by simp [rws]
theorem rws_succ (D : List Nat) (f n : Nat) : rws D f (n + 1) = rws D f n ++ [rowR (f + n) (D.getD (f + n) 0)] := by
  unfold rws
  rw [List.range_succ, List.map_append]
  rfl
theorem rws_cons (D : List Nat) (f n : Nat) : rws D f (n + 1) = rowR f (D.getD f 0) :: (List.range n).map fun j => rowR (f + 1 + j) (D.getD (f + 1 + j) 0) := by
  unfold rws
  rw [List.range_succ_eq_map, List.map_cons, List.map_map]
  congr 1
  exact List.map_congr_left fun j _ => by
    show rowR (f + (j + 1)) (D.getD (f + (j + 1)) 0) = _
    rw [show f + (j + 1) = f + 1 + j by omega]
end Go.Proofs.YtmiennkldkcnfaaDoor.PN
namespace Go.Proofs.YtmiennkldkcnfaaDoor
set_option maxRecDepth 100000
set_option linter.unusedVariables false
open Go.RowKit Go.Deep
/-- The listed table lies as the program's text lays it. -/
def Laid (W : World) (g : Nat × Nat) : Prop := TabAt 0 Lib.deBruijn64tab W ∧ 0 < W.heap.size
theorem Laid.mono {W V : World} {g : Nat × Nat} (h : Laid W g) (hb : Below W.heap.size W V) : Laid V g :=
  ⟨fun j hj => (hb.cell (p := ⟨_, j, none⟩) h.2).trans (h.1 j hj), Nat.lt_of_lt_of_le h.2 hb.size⟩
theorem ua_own {V : World} {B n c g : Nat} {L : List Nat} (h : V.ownsRow B 63 1 (.slice (some ⟨g, 0, none⟩) n c) n (L.map U6)) {k x : Nat} (hk : L[k]? = some x) : V.cell? ⟨g, k, none⟩ = some (U6 x) := by
  have := h.cells (g := g) rfl k (U6 x) (by rw [List.getElem?_map, hk]; rfl)
  rw [show ((⟨g, 0, none⟩ : Addr).add k) = ⟨g, k, none⟩ by cases k <;> simp [Addr.add]] at this
  exact this
set_option maxHeartbeats 2000000 in
theorem diffs_any (W : World) (A B : List Nat) (va vb : Value) (w n : Nat) (hA : A.length = n) (hB : B.length = n) (hn : n ≤ 1000) (hw : w ≤ 64) (ha : UA W va A) (hb : UA W vb B) (hal : ∀ x ∈ A, x < 18446744073709551616) (hbl : ∀ x ∈ B, x < 18446744073709551616) :
    Calls Tryd.prog 40 #[va, vb, .int .i64 (w : Int)] W fun e w' => ∃ g, e = .returned (.slice (some ⟨g, 0, none⟩) n n) ∧ w'.heap[g]? = some (.cells ((PN.df A B w).map U6).toArray 63 (0, 0)) ∧ W.heap.size ≤ g ∧ Below W.heap.size W w' := by
  obtain ⟨aa, ac, rfl⟩ := ha.shape
  obtain ⟨ba, bc, rfl⟩ := hb.shape
  rw [hA] at ha ⊢
  rw [hB] at hb ⊢
  have HA := Lib.hid hA
  have HB := Lib.hid hB
  have HAU : Hid (∀ U, Below W.heap.size W U → UA U (.slice aa n ac) A) := Lib.hid fun U hU => by have := ha.keep hU; exact this
  have HBU : Hid (∀ U, Below W.heap.size W U → UA U (.slice ba n bc) B) := Lib.hid fun U hU => by have := hb.keep hU; exact this
  have HAL := Lib.hid hal
  have HBL := Lib.hid hbl
  have hm := make_u64 W n (by omega)
  have hx := heap_alloc_new W (.cells ((List.replicate n (0 : Nat)).map U6).toArray 63)
  have hb1 := balloc (Below.refl _ W) (.cells ((List.replicate n (0 : Nat)).map U6).toArray 63)
  obtain ⟨g, hg⟩ : ∃ g, W.heap.size = g := ⟨_, rfl⟩
  obtain ⟨V1, hV1⟩ : ∃ V1, W.alloc (.cells ((List.replicate n (0 : Nat)).map U6).toArray 63) = V1 := ⟨_, rfl⟩
  rw [hV1] at hm hx hb1
  have HB1 := Lib.hid hb1
  rw [hg] at hm hx
  have HX := Lib.hid hx
  have HG := Lib.hid hg
  clear ha hb hA hB hal hbl hx hb1 hV1 hg
  go_enter Tryd.func40, Tryd.ntmps40
  go_upto_region 3 with fail
  go_loopw [14] (fun v14 wr => ∃ k : Nat, v14 = .int .i64 (k : Int) ∧ k ≤ n ∧ Hid (wr.heap[g]? = some (.cells (((PN.df A B w).take k ++ List.replicate (n - k) 0).map U6).toArray 63 (0, 0))) ∧ Hid (Below W.heap.size W wr)) (fun v _ => n - (intOf v).toNat)
  case atStart => exact ⟨0, rfl, by omega, Lib.hid HX.out, HB1⟩
  case round =>
    clear HX HB1
    obtain ⟨k, rfl, hk, HX, HBW⟩ := hrel
    by_cases hkn : k < n
    · have hkz : (k : Int) < (n : Int) := by omega
      have hk0 : (0 : Int) ≤ (k : Int) := by omega
      obtain ⟨x, hx⟩ : ∃ x, A[k]? = some x := ⟨_, List.getElem?_eq_getElem (by rw [HA.out]; exact hkn)⟩
      obtain ⟨y, hy⟩ : ∃ y, B[k]? = some y := ⟨_, List.getElem?_eq_getElem (by rw [HB.out]; exact hkn)⟩
      have hxl := HAL.out x (List.mem_of_getElem? hx)
      have hyl := HBL.out y (List.mem_of_getElem? hy)
      have hdf := PN.df_at w hx hy
      have hdl : (PN.df A B w).length = n := by rw [PN.df_len w (by rw [HA.out, HB.out]), HA.out]
      have hdr := Below.drew (Below.refl wr.heap.size wr)
      obtain ⟨g1, o1, rfl, hg1, hc1⟩ := (HAU.out _ (bnext HBW.out hdr)).cell hx
      obtain ⟨g2, o2, rfl, hg2, hc2⟩ := (HBU.out _ (bnext HBW.out hdr)).cell hy
      have HXD : Hid (wr.drew.heap[g]? = some (.cells (((PN.df A B w).take k ++ List.replicate (n - k) 0).map U6).toArray 63 (0, 0))) := Lib.hid ((hdr.block g (Array.getElem?_eq_some_iff.1 HX.out).1).trans HX.out)
      have HBD : Hid (Below W.heap.size W wr.drew) := Lib.hid (bnext HBW.out hdr)
      have hc3 := nd_froz HXD.out k
      have hc4 : wr.drew.cell? ⟨g, k, none⟩ = some (U6 0) := nd_cell HXD.out (by
        rw [List.getElem?_toArray, List.getElem?_map, List.getElem?_append_right (by rw [List.length_take]; omega), List.length_take, hdl, Nat.min_eq_left (by omega), Nat.sub_self, List.getElem?_replicate, if_pos (by omega)]
        rfl)
      have HKD := Lib.hid (And.intro hc1 (And.intro hc2 (And.intro hc3 hc4)))
      have hpW : 2 ^ w ≤ 18446744073709551616 := Nat.pow_le_pow_right (n := 2) (by decide) hw
      have hpW1 : 1 ≤ 2 ^ w := Nat.one_le_two_pow
      have e1 := u64_xor_nat x y hxl hyl
      have hxy : x ^^^ y < 18446744073709551616 := Nat.xor_lt_two_pow (n := 64) hxl hyl
      have e2 := u64_and_nat (x ^^^ y) (2 ^ w - 1) hxy (by omega)
      have HMK := Lib.hid fun U => mask_any U w hw
      obtain ⟨o, ho⟩ : ∃ o, (x ^^^ y) &&& (2 ^ w - 1) = o := ⟨_, rfl⟩
      rw [ho] at e2 hdf
      obtain ⟨m, hm2⟩ : ∃ m, 2 ^ w - 1 = m := ⟨_, rfl⟩
      obtain ⟨q, hq⟩ : ∃ q, x ^^^ y = q := ⟨_, rfl⟩
      rw [hq] at e1 e2
      rw [hm2] at e2 HMK
      have HST : Hid ((((PN.df A B w).take k ++ List.replicate (n - k) 0).map U6).toArray.setIfInBounds k (U6 o) = (((PN.df A B w).take (k + 1) ++ List.replicate (n - (k + 1)) 0).map U6).toArray) := Lib.hid (by
        rw [PN.set_u64]
        congr 2
        rw [List.set_append_right _ _ (by rw [List.length_take]; omega), List.length_take, show n - k = (n - (k + 1)) + 1 by omega, List.replicate_succ, Nat.min_eq_left (by omega), Nat.sub_self, List.set_cons_zero, List.take_add_one, hdf]
        simp)
      clear hx hy hxl hyl hdf hdl hdr hc1 hc2 hc3 hc4 hpW hpW1 hxy ho hm2 hq hg1 hg2
      go_upto_region 5 with fail
      refine wp_region_last #[{ dst := some 17, op := Op.move (Operand.tmp 7), type := 32, pos := "plan.go:26", after := #[], guard := none }, { dst := some 18, op := Op.move (Operand.tmp 8), type := 3, pos := "plan.go:26", after := #[], guard := none }, { dst := some 19, op := Op.move (Operand.tmp 0), type := 32, pos := "plan.go:26", after := #[], guard := none }, { dst := some 20, op := Op.move (Operand.tmp 8), type := 3, pos := "plan.go:26", after := #[], guard := none }, { dst := some 21, op := Op.indexAddr 32 (Operand.tmp 19) (Operand.tmp 20), type := 0, pos := "plan.go:26", after := #[{ on := 2, ground := Ground.data }, { on := 3, ground := Ground.data }], guard := none }, { dst := some 22, op := Op.load 63 (Operand.tmp 21), type := 63, pos := "plan.go:26", after := #[{ on := 4, ground := Ground.data }], guard := none }, { dst := some 23, op := Op.move (Operand.tmp 1), type := 32, pos := "plan.go:26", after := #[], guard := none }, { dst := some 24, op := Op.move (Operand.tmp 8), type := 3, pos := "plan.go:26", after := #[], guard := none }, { dst := some 25, op := Op.indexAddr 32 (Operand.tmp 23) (Operand.tmp 24), type := 0, pos := "plan.go:26", after := #[{ on := 6, ground := Ground.data }, { on := 7, ground := Ground.data }], guard := none }, { dst := some 26, op := Op.load 63 (Operand.tmp 25), type := 63, pos := "plan.go:26", after := #[{ on := 8, ground := Ground.data }], guard := none }, { dst := some 27, op := Op.binOp BinOp.xor 63 (Operand.tmp 22) (Operand.tmp 26) 63, type := 63, pos := "plan.go:26", after := #[{ on := 5, ground := Ground.data }, { on := 9, ground := Ground.data }], guard := none }, { dst := some 28, op := Op.move (Operand.tmp 2), type := 3, pos := "plan.go:26", after := #[], guard := none }, { dst := some 29, op := Op.call { callee := Callee.value (Operand.func 48), args := #[Operand.tmp 28], argTypes := #[3] }, type := 63, pos := "plan.go:26", after := #[{ on := 11, ground := Ground.data }], guard := none }, { dst := some 30, op := Op.binOp BinOp.and 63 (Operand.tmp 27) (Operand.tmp 29) 63, type := 63, pos := "plan.go:26", after := #[{ on := 10, ground := Ground.data }, { on := 12, ground := Ground.data }], guard := none }, { dst := some 31, op := Op.indexAddr 32 (Operand.tmp 17) (Operand.tmp 18), type := 0, pos := "plan.go:26", after := #[{ on := 0, ground := Ground.data }, { on := 1, ground := Ground.data }, { on := 0, ground := Ground.phase }, { on := 1, ground := Ground.phase }, { on := 2, ground := Ground.phase }, { on := 3, ground := Ground.phase }, { on := 4, ground := Ground.phase }, { on := 5, ground := Ground.phase }, { on := 6, ground := Ground.phase }, { on := 7, ground := Ground.phase }, { on := 8, ground := Ground.phase }, { on := 9, ground := Ground.phase }, { on := 10, ground := Ground.phase }, { on := 11, ground := Ground.phase }, { on := 12, ground := Ground.phase }, { on := 13, ground := Ground.phase }], guard := none }] { dst := none, op := Op.store 63 (Operand.tmp 31) (Operand.tmp 30), type := 0, pos := "plan.go:26", after := #[{ on := 14, ground := Ground.data }, { on := 13, ground := Ground.data }, { on := 12, ground := Ground.chain }, { on := 0, ground := Ground.phase }, { on := 1, ground := Ground.phase }, { on := 2, ground := Ground.phase }, { on := 3, ground := Ground.phase }, { on := 4, ground := Ground.phase }, { on := 5, ground := Ground.phase }, { on := 6, ground := Ground.phase }, { on := 7, ground := Ground.phase }, { on := 8, ground := Ground.phase }, { on := 9, ground := Ground.phase }, { on := 10, ground := Ground.phase }, { on := 11, ground := Ground.phase }, { on := 12, ground := Ground.phase }, { on := 13, ground := Ground.phase }], guard := none } rfl (by kernel_rfl) (by kernel_rfl) ((fun w' => w'.cell? ⟨g1, o1 + k, none⟩ = some (U6 x) ∧ w'.cell? ⟨g2, o2 + k, none⟩ = some (U6 y) ∧ w'.frozen? ⟨g, k, none⟩ = false ∧ w'.cell? ⟨g, k, none⟩ = some (U6 0))) ?_ (fun hHeld => ?_)
      · exact HKD.out
      refine wpAnyH_take (i := 0) (oi := { dst := some 17, op := Op.move (Operand.tmp 7), type := 32, pos := "plan.go:26", after := #[], guard := none }) (v := ?_) rfl (by kernel_rfl) (by kernel_rfl) (by kernel_rfl) (fun _ _ _ h => h) (Or.inl ⟨by rfl, ?_⟩) (by assumption) ?_
      rotate_left
      · ((intro w hSw; (try dsimp only at hSw); go_simp; (try rw [if_neg (by omega)])); try with_reducible rfl)
      (try simp only [Act.put, List.setIfInBounds_toArray, List.set_cons_zero, List.set_cons_succ])
      refine wpAnyH_take (i := 1) (oi := { dst := some 18, op := Op.move (Operand.tmp 8), type := 3, pos := "plan.go:26", after := #[], guard := none }) (v := ?_) rfl (by kernel_rfl) (by kernel_rfl) (by kernel_rfl) (fun _ _ _ h => h) (Or.inl ⟨by rfl, ?_⟩) (by assumption) ?_
      rotate_left
      · ((intro w hSw; (try dsimp only at hSw); go_simp; (try rw [if_neg (by omega)])); try with_reducible rfl)
      (try simp only [Act.put, List.setIfInBounds_toArray, List.set_cons_zero, List.set_cons_succ])
      refine wpAnyH_take (i := 2) (oi := { dst := some 19, op := Op.move (Operand.tmp 0), type := 32, pos := "plan.go:26", after := #[], guard := none }) (v := ?_) rfl (by kernel_rfl) (by kernel_rfl) (by kernel_rfl) (fun _ _ _ h => h) (Or.inl ⟨by rfl, ?_⟩) (by assumption) ?_
      rotate_left
      · ((intro w hSw; (try dsimp only at hSw); go_simp; (try rw [if_neg (by omega)])); try with_reducible rfl)
      (try simp only [Act.put, List.setIfInBounds_toArray, List.set_cons_zero, List.set_cons_succ])
      refine wpAnyH_take (i := 3) (oi := { dst := some 20, op := Op.move (Operand.tmp 8), type := 3, pos := "plan.go:26", after := #[], guard := none }) (v := ?_) rfl (by kernel_rfl) (by kernel_rfl) (by kernel_rfl) (fun _ _ _ h => h) (Or.inl ⟨by rfl, ?_⟩) (by assumption) ?_
      rotate_left
      · ((intro w hSw; (try dsimp only at hSw); go_simp; (try rw [if_neg (by omega)])); try with_reducible rfl)
      (try simp only [Act.put, List.setIfInBounds_toArray, List.set_cons_zero, List.set_cons_succ])
      refine wpAnyH_take (i := 4) (oi := { dst := some 21, op := Op.indexAddr 32 (Operand.tmp 19) (Operand.tmp 20), type := 0, pos := "plan.go:26", after := #[{ on := 2, ground := Ground.data }, { on := 3, ground := Ground.data }], guard := none }) (v := ?_) rfl (by kernel_rfl) (by kernel_rfl) (by kernel_rfl) (fun _ _ _ h => h) (Or.inl ⟨by rfl, ?_⟩) (by assumption) ?_
      rotate_left
      · ((intro w hSw; (try dsimp only at hSw); go_simp; (try rw [if_neg (by omega)])); try with_reducible rfl)
      (try simp only [Act.put, List.setIfInBounds_toArray, List.set_cons_zero, List.set_cons_succ])
      refine wpAnyH_take (i := 5) (oi := { dst := some 22, op := Op.load 63 (Operand.tmp 21), type := 63, pos := "plan.go:26", after := #[{ on := 4, ground := Ground.data }], guard := none }) (v := ?_) rfl (by kernel_rfl) (by kernel_rfl) (by kernel_rfl) (fun _ _ _ h => h) (Or.inl ⟨by rfl, ?_⟩) (by assumption) ?_
      rotate_left
      · ((intro w hSw; (try dsimp only at hSw); go_simp; (try rw [if_neg (by omega)])); try with_reducible rfl)
      (try simp only [Act.put, List.setIfInBounds_toArray, List.set_cons_zero, List.set_cons_succ])
      refine wpAnyH_take (i := 6) (oi := { dst := some 23, op := Op.move (Operand.tmp 1), type := 32, pos := "plan.go:26", after := #[], guard := none }) (v := ?_) rfl (by kernel_rfl) (by kernel_rfl) (by kernel_rfl) (fun _ _ _ h => h) (Or.inl ⟨by rfl, ?_⟩) (by assumption) ?_
      rotate_left
      · ((intro w hSw; (try dsimp only at hSw); go_simp; (try rw [if_neg (by omega)])); try with_reducible rfl)
      (try simp only [Act.put, List.setIfInBounds_toArray, List.set_cons_zero, List.set_cons_succ])
      refine wpAnyH_take (i := 7) (oi := { dst := some 24, op := Op.move (Operand.tmp 8), type := 3, pos := "plan.go:26", after := #[], guard := none }) (v := ?_) rfl (by kernel_rfl) (by kernel_rfl) (by kernel_rfl) (fun _ _ _ h => h) (Or.inl ⟨by rfl, ?_⟩) (by assumption) ?_
      rotate_left
      · ((intro w hSw; (try dsimp only at hSw); go_simp; (try rw [if_neg (by omega)])); try with_reducible rfl)
      (try simp only [Act.put, List.setIfInBounds_toArray, List.set_cons_zero, List.set_cons_succ])
      refine wpAnyH_take (i := 8) (oi := { dst := some 25, op := Op.indexAddr 32 (Operand.tmp 23) (Operand.tmp 24), type := 0, pos := "plan.go:26", after := #[{ on := 6, ground := Ground.data }, { on := 7, ground := Ground.data }], guard := none }) (v := ?_) rfl (by kernel_rfl) (by kernel_rfl) (by kernel_rfl) (fun _ _ _ h => h) (Or.inl ⟨by rfl, ?_⟩) (by assumption) ?_
      rotate_left
      · ((intro w hSw; (try dsimp only at hSw); go_simp; (try rw [if_neg (by omega)])); try with_reducible rfl)
      (try simp only [Act.put, List.setIfInBounds_toArray, List.set_cons_zero, List.set_cons_succ])
      refine wpAnyH_take (i := 9) (oi := { dst := some 26, op := Op.load 63 (Operand.tmp 25), type := 63, pos := "plan.go:26", after := #[{ on := 8, ground := Ground.data }], guard := none }) (v := ?_) rfl (by kernel_rfl) (by kernel_rfl) (by kernel_rfl) (fun _ _ _ h => h) (Or.inl ⟨by rfl, ?_⟩) (by assumption) ?_
      rotate_left
      · ((intro w hSw; (try dsimp only at hSw); go_simp; (try rw [if_neg (by omega)])); try with_reducible rfl)
      (try simp only [Act.put, List.setIfInBounds_toArray, List.set_cons_zero, List.set_cons_succ])
      refine wpAnyH_take (i := 10) (oi := { dst := some 27, op := Op.binOp BinOp.xor 63 (Operand.tmp 22) (Operand.tmp 26) 63, type := 63, pos := "plan.go:26", after := #[{ on := 5, ground := Ground.data }, { on := 9, ground := Ground.data }], guard := none }) (v := ?_) rfl (by kernel_rfl) (by kernel_rfl) (by kernel_rfl) (fun _ _ _ h => h) (Or.inl ⟨by rfl, ?_⟩) (by assumption) ?_
      rotate_left
      · ((intro w hSw; (try dsimp only at hSw); go_simp; (try rw [if_neg (by omega)])); try with_reducible rfl)
      (try simp only [Act.put, List.setIfInBounds_toArray, List.set_cons_zero, List.set_cons_succ])
      refine wpAnyH_take (i := 11) (oi := { dst := some 28, op := Op.move (Operand.tmp 2), type := 3, pos := "plan.go:26", after := #[], guard := none }) (v := ?_) rfl (by kernel_rfl) (by kernel_rfl) (by kernel_rfl) (fun _ _ _ h => h) (Or.inl ⟨by rfl, ?_⟩) (by assumption) ?_
      rotate_left
      · ((intro w hSw; (try dsimp only at hSw); go_simp; (try rw [if_neg (by omega)])); try with_reducible rfl)
      (try simp only [Act.put, List.setIfInBounds_toArray, List.set_cons_zero, List.set_cons_succ])
      refine wpAnyH_ready (rs := [12]) (by kernel_rfl) (by simp) ?_
      refine AllReadyH.cons (o := { dst := some 29, op := Op.call { callee := Callee.value (Operand.func 48), args := #[Operand.tmp 28], argTypes := #[3] }, type := 63, pos := "plan.go:26", after := #[{ on := 11, ground := Ground.data }], guard := none }) rfl (fun K hK => ?_) AllReadyH.nil
      (go_simp; go_at_call 48; refine (HMK.out _).mono ?_; rintro u wz ⟨rfl, he⟩; have he' := he.symm; subst he'; dsimp only)
      refine hK.out _ _ ?_ (fun hHeld => ?_)
      · exact HKD.out
      clear hK K
      (try simp only [Act.put, List.setIfInBounds_toArray, List.set_cons_zero, List.set_cons_succ])
      refine wpAnyH_take (i := 13) (oi := { dst := some 30, op := Op.binOp BinOp.and 63 (Operand.tmp 27) (Operand.tmp 29) 63, type := 63, pos := "plan.go:26", after := #[{ on := 10, ground := Ground.data }, { on := 12, ground := Ground.data }], guard := none }) (v := ?_) rfl (by kernel_rfl) (by kernel_rfl) (by kernel_rfl) (fun _ _ _ h => h) (Or.inl ⟨by rfl, ?_⟩) (by assumption) ?_
      rotate_left
      · ((intro w hSw; (try dsimp only at hSw); go_simp; (try rw [if_neg (by omega)])); try with_reducible rfl)
      (try simp only [Act.put, List.setIfInBounds_toArray, List.set_cons_zero, List.set_cons_succ])
      refine wpAnyH_take (i := 14) (oi := { dst := some 31, op := Op.indexAddr 32 (Operand.tmp 17) (Operand.tmp 18), type := 0, pos := "plan.go:26", after := #[{ on := 0, ground := Ground.data }, { on := 1, ground := Ground.data }, { on := 0, ground := Ground.phase }, { on := 1, ground := Ground.phase }, { on := 2, ground := Ground.phase }, { on := 3, ground := Ground.phase }, { on := 4, ground := Ground.phase }, { on := 5, ground := Ground.phase }, { on := 6, ground := Ground.phase }, { on := 7, ground := Ground.phase }, { on := 8, ground := Ground.phase }, { on := 9, ground := Ground.phase }, { on := 10, ground := Ground.phase }, { on := 11, ground := Ground.phase }, { on := 12, ground := Ground.phase }, { on := 13, ground := Ground.phase }], guard := none }) (v := ?_) rfl (by kernel_rfl) (by kernel_rfl) (by kernel_rfl) (fun _ _ _ h => h) (Or.inl ⟨by rfl, ?_⟩) (by assumption) ?_
      rotate_left
      · ((intro w hSw; (try dsimp only at hSw); go_simp; (try rw [if_neg (by omega)])); try with_reducible rfl)
      (try simp only [Act.put, List.setIfInBounds_toArray, List.set_cons_zero, List.set_cons_succ])
      refine wpAnyH_done (by kernel_rfl) ?_ _
      show Oper.wp _ _ _ _ _ _
      have HE : Hid (∀ U : World, U.heap[g]? = some (.cells (((PN.df A B w).take k ++ List.replicate (n - k) 0).map U6).toArray 63 (0, 0)) → (U.setCell ⟨g, k, none⟩ (U6 o)).heap[g]? = some (.cells (((PN.df A B w).take (k + 1) ++ List.replicate (n - (k + 1)) 0).map U6).toArray 63 (0, 0))) := Lib.hid fun U hU => by rw [heap_setCell_same _ g k _ _ _ hU, HST.out]
      clear hHeld
      have hc3 := HKD.out.2.2.1
      have hc4 := HKD.out.2.2.2
      go_simp
      go_wp2
      go_roundw
      case rel => exact ⟨k + 1, by go_num, hkn, Lib.hid (HE.out _ HXD.out), Lib.hid (bset HBD.out (by show _ ≤ g; rw [HG.out]; exact Nat.le_refl _) _)⟩
      case measure => simp [intOf]; omega
    · obtain rfl : k = n := by omega
      have hkz : ¬ (k : Int) < (k : Int) := by omega
      have HE : Hid (wr.heap[g]? = some (.cells ((PN.df A B w).map U6).toArray 63 (0, 0))) := Lib.hid (by
        have h1 := HX.out
        rw [List.take_of_length_le (by rw [PN.df_len w (by rw [HA.out, HB.out]), HA.out]; exact Nat.le_refl _), Nat.sub_self] at h1
        simpa using h1)
      clear hkn
      go_wp2
      go_ret
      exact ⟨g, rfl, HE.out, by rw [HG.out]; exact Nat.le_refl _, HBW.out⟩

theorem info_rect : (Tryd.prog.info? 31).map (fun i => (i.zero, i.size, i.bytes)) = some (some (.agg #[.int .i64 0, .int .i64 0, .int .i64 0, .int .i64 0]), 4, 32) := by kernel_rfl
set_option maxHeartbeats 2000000 in
theorem box_any (W : World) (t0 : Nat × Nat) (hl : Laid W t0) (D : List Nat) (v : Value) (f t : Nat) (hv : UA W v D) (hD : D.length ≤ 64) (hf : f < t) (ht : t ≤ D.length) (hd : ∀ k, f ≤ k → k < t → D.getD k 0 ≠ 0) (hdl : ∀ x ∈ D, x < 18446744073709551616) :
    Calls Tryd.prog 42 #[v, .int .i64 (f : Int), .int .i64 (t : Int)] W fun e w' => e = .returned (rcV (PN.bx D f (t - f - 1))) ∧ Below W.heap.size W w' := by
  obtain ⟨i0, hi0, hz0, hz1, hz2⟩ := info_parts info_rect
  obtain ⟨va, vc, rfl⟩ := hv.shape
  obtain ⟨N, hN⟩ : ∃ N, D.length = N := ⟨_, rfl⟩
  rw [hN] at hv hD ht ⊢
  have HN := Lib.hid hN
  have HLD : Hid (∀ U, Below W.heap.size W U → Laid U t0) := Lib.hid fun U hU => hl.mono hU
  have HV : Hid (∀ U, Below W.heap.size W U → UA U (.slice va N vc) D) := Lib.hid fun U hU => hv.keep hU
  have HD := Lib.hid hd
  have HDL := Lib.hid hdl
  have hb1 := balloc (Below.refl _ W) (.cells #[.int .i64 0, .int .i64 0, .int .i64 0, .int .i64 0] 31)
  have hx1 := heap_alloc_new W (.cells #[.int .i64 0, .int .i64 0, .int .i64 0, .int .i64 0] 31)
  obtain ⟨B, hB⟩ : ∃ B, W.heap.size = B := ⟨_, rfl⟩
  obtain ⟨V1, hV1⟩ : ∃ V1, W.alloc (.cells #[.int .i64 0, .int .i64 0, .int .i64 0, .int .i64 0] 31) = V1 := ⟨_, rfl⟩
  rw [hV1] at hb1 hx1
  have HB1 := Lib.hid hb1
  rw [hB] at hx1
  have HX1 := Lib.hid hx1
  have HB := Lib.hid hB
  have HV1 := Lib.hid hV1
  clear hl hv hN hd hdl hb1 hx1 hV1
  go_enter Tryd.func42, Tryd.ntmps42
  go_upto_region 3 with fail
  rw [HV1.out]
  clear HV1
  go_loopw [7, 8] (fun v7 v8 wr => ∃ n : Nat, v8 = .int .i64 ((f + n : Nat) : Int) ∧ f + n ≤ t ∧ Hid (wr.ownsRow (B + 1) 31 4 v7 n (rcs (PN.rws D f n))) ∧ Hid (wr.heap[B]? = some (.cells #[.int .i64 0, .int .i64 0, .int .i64 0, .int .i64 0] 31 (0, 0))) ∧ Hid (Below W.heap.size W wr)) (fun _ v _ => t - (intOf v).toNat)
  case atStart => exact ⟨0, rfl, by omega, Lib.hid (World.ownsRow_nil _ _ _ _), HX1, HB1⟩
  case round =>
    clear HX1 HB1
    obtain ⟨n, rfl, hn, HOW, HX, HBW⟩ := hrel
    obtain ⟨p, hp⟩ : ∃ p, f + n = p := ⟨_, rfl⟩
    rw [hp] at hn ⊢
    have HP := Lib.hid hp
    obtain ⟨oa, oc, rfl⟩ := own_shape HOW.out
    have hn64 : n ≤ 64 := by omega
    clear hp
    by_cases hpt : p < t
    · have hkz : (p : Int) < (t : Int) := by omega
      have hk0 : (0 : Int) ≤ (p : Int) := by omega
      have hpN : (p : Int) < (N : Int) := by omega
      obtain ⟨d, hd⟩ : ∃ d, D[p]? = some d := ⟨_, List.getElem?_eq_getElem (by rw [HN.out]; omega)⟩
      have hgd : D.getD p 0 = d := by rw [List.getD_eq_getElem?_getD, hd]; rfl
      have hd0 : d ≠ 0 := by rw [← hgd]; exact HD.out p (by have := HP.out; omega) hpt
      have hdl := HDL.out d (List.mem_of_getElem? hd)
      have hrb := PN.row_rb (k := p) (by omega) hd0 hdl
      obtain ⟨g, o, rfl, hg, hc⟩ := (HV.out wr HBW.out).cell hd
      have HTZ : Hid (Calls Tryd.prog 57 #[U6 d] wr fun e w' => e = .returned (.int .i64 (Lib.ctz 64 d)) ∧ w' = wr) := Lib.hid (Tryd.bits_TrailingZeros64 d hdl wr (fun _ => (HLD.out wr HBW.out).1))
      have HLN : Hid (Calls Tryd.prog 58 #[U6 d] wr fun e w' => e = .returned (.int .i64 (Lib.bitLen d)) ∧ w' = wr) := Lib.hid (by
        have := Tryd.bits_Len64 (d : Int) wr (by omega) (by omega)
        rw [Int.toNat_natCast] at this
        exact this)
      unfold PN.rowR rb at hrb
      dsimp only at hrb
      obtain ⟨z, hz⟩ : ∃ z, Lib.ctz 64 d = z := ⟨_, rfl⟩
      obtain ⟨q, hq⟩ : ∃ q, Lib.bitLen d = q := ⟨_, rfl⟩
      rw [hz] at HTZ hrb
      rw [hq] at HLN hrb
      have HSU : Hid (rcs (PN.rws D f (n + 1)) = rcs (PN.rws D f n) ++ [.int .i64 (z : Int), .int .i64 (p : Int), .int .i64 ((q : Int) - (z : Int)), .int .i64 1]) := Lib.hid (by
        rw [PN.rws_succ, rcs_app, HP.out, hgd]
        unfold PN.rowR
        rw [hz, hq]
        rfl)
      have hqz : IntKind.i64.wrap ((q : Int) - (z : Int)) = (q : Int) - (z : Int) := by rw [IntKind.wrap_i64]; omega
      clear hd hgd hd0 hdl hz hq
      go_wp2_with fail
      go_at_call 57
      refine HTZ.out.mono ?_
      rintro e wz ⟨rfl, he⟩
      have he' := he.symm
      subst he'
      go_wp2_with fail
      go_at_call 58
      refine HLN.out.mono ?_
      rintro e wz ⟨rfl, he⟩
      have he' := he.symm
      subst he'
      have hbx := balloc (Below.refl _ wr) (.cells #[.int .i64 (z : Int), .int .i64 (p : Int), .int .i64 ((q : Int) - (z : Int)), .int .i64 1] 31)
      have hbW := HBW.out.size
      go_upto_region 4 with (at_builtin; refine wpList_appN _ rfl _ _ 46 rfl (B + 1) 31 i0 _ 4 32 Tryd.underlying46 hi0 hz0 hz1 hz2 rfl (by decide) (.slice oa n oc) n (rcs (PN.rws D f n)) rfl (own_below HOW.out hbx) _ 1 [.int .i64 (z : Int), .int .i64 (p : Int), .int .i64 ((q : Int) - (z : Int)), .int .i64 1] rfl (srcN_new wr [.int .i64 (z : Int), .int .i64 (p : Int), .int .i64 ((q : Int) - (z : Int)), .int .i64 1] 31 4 1 1 rfl) (by simp [Value.oneCell']) (by unfold maxLen; omega) (by omega) (by have h1 := hbx.size; have h2 := (Array.getElem?_eq_some_iff.1 HX.out).1; omega) ?_; intro v' w7 hown7 hgrow hat)
      have HX7 : Hid (w7.heap[B]? = some (.cells #[.int .i64 0, .int .i64 0, .int .i64 0, .int .i64 0] 31 (0, 0))) := Lib.hid (by
        have h2 := (Array.getElem?_eq_some_iff.1 HX.out).1
        rw [hgrow.block B (Nat.lt_of_lt_of_le h2 hbx.size) (fun e => by have := (HOW.out.lt B e.symm).1; omega), hbx.block B h2]
        exact HX.out)
      have HB7 : Hid (Below W.heap.size W w7) := Lib.hid ((bnext HBW.out hbx).grown hgrow (bnext HBW.out hbx).size (fun q e => by have := (HOW.out.lt q e).1; have := HB.out; omega))
      rw [← HSU.out] at hown7
      have HO7 := Lib.hid hown7
      obtain ⟨pa, pc, rfl⟩ := own_shape hown7
      have HPS : Hid (f + (n + 1) = p + 1) := Lib.hid (by have := HP.out; omega)
      clear hbx hown7 hgrow hat
      go_wp2
      go_roundw
      case rel => exact ⟨n + 1, by rw [HPS.out]; go_num, by rw [HPS.out]; omega, HO7, HX7, HB7⟩
      case measure => simp [intOf]; omega
    · have hkz : ¬ (p : Int) < (t : Int) := by omega
      have HPT : Hid (p = t) := Lib.hid (by omega)
      obtain ⟨m, rfl⟩ : ∃ m, n = m + 1 := ⟨n - 1, by have := HP.out; omega⟩
      have HM : Hid (t - f - 1 = m) := Lib.hid (by have := HP.out; have := HPT.out; omega)
      have h64 : t ≤ 64 := by omega
      have hallrb : ∀ k, f ≤ k → k < t → rb (PN.rowR k (D.getD k 0)) := fun k h1 h2 => PN.row_rb (by omega) (HD.out k h1 h2) (by
        obtain ⟨d, hd⟩ : ∃ d, D[k]? = some d := ⟨_, List.getElem?_eq_getElem (by rw [HN.out]; omega)⟩
        rw [List.getD_eq_getElem?_getD, hd]
        exact HDL.out d (List.mem_of_getElem? hd))
      have hr0 := hallrb f (by omega) (by omega)
      have HRS : Hid (∀ r ∈ (List.range m).map fun j => PN.rowR (f + 1 + j) (D.getD (f + 1 + j) 0), rb r) := Lib.hid fun r hr => by
        obtain ⟨j, hj, rfl⟩ := List.mem_map.1 hr
        have := List.mem_range.1 hj
        exact hallrb _ (by omega) (by have := HP.out; have := HPT.out; omega)
      have HBX : Hid (((List.range m).map fun j => PN.rowR (f + 1 + j) (D.getD (f + 1 + j) 0)).foldl PN.both (PN.rowR f (D.getD f 0)) = PN.bx D f (t - f - 1)) := Lib.hid (by rw [HM.out, PN.bx_fold])
      have hbr : rb (PN.bx D f (t - f - 1)) := PN.bx_rb D f _ (by have := HP.out; omega) (fun k h1 h2 => ⟨HD.out k h1 (by have := HP.out; have := HPT.out; omega), by
        obtain ⟨d, hd⟩ : ∃ d, D[k]? = some d := ⟨_, List.getElem?_eq_getElem (by rw [HN.out]; have := HP.out; have := HPT.out; omega)⟩
        rw [List.getD_eq_getElem?_getD, hd]
        exact HDL.out d (List.mem_of_getElem? hd)⟩)
      have hdr := Below.drew (Below.refl wr.heap.size wr)
      have hsrc := own_srcN (own_below HOW.out hdr)
      rw [PN.rws_cons] at hsrc
      obtain ⟨L2, hL2⟩ : ∃ L2, ((List.range m).map fun j => PN.rowR (f + 1 + j) (D.getD (f + 1 + j) 0)) = L2 := ⟨_, rfl⟩
      have HL2 : Hid (L2.length = m) := Lib.hid (by rw [← hL2]; simp)
      obtain ⟨⟨rx, ry, rw', rh⟩, hR0⟩ : ∃ R, PN.rowR f (D.getD f 0) = R := ⟨_, rfl⟩
      obtain ⟨⟨bx, by', bw, bh⟩, hR1⟩ : ∃ R, PN.bx D f (t - f - 1) = R := ⟨_, rfl⟩
      rw [hL2, hR0] at hsrc HBX
      rw [hL2] at HRS
      rw [hR0] at hr0
      rw [hR1] at HBX hbr
      have HR1 := Lib.hid hR1
      have HR0 := Lib.hid hr0
      obtain ⟨g, o, hoa, hg, k0, k1, k2, k3⟩ := rc_at (i := 0) hsrc rfl
      subst hoa
      have ho0 : o = 0 := by
        rcases HOW.out.2 with ⟨h1, h2⟩ | ⟨g', cap, cur, h1, _⟩
        · cases h1
        · injection h1 with h1 _ _
          injection h1 with h1
          injection h1 with _ h1
      subst ho0
      have hcap : m + 1 ≤ oc := by
        rcases HOW.out.2 with ⟨h1, h2⟩ | ⟨g', cap, cur, h1, _, _, h2, _⟩
        · cases h1
        · injection h1 with _ _ h1
          omega
      obtain ⟨ad, had⟩ : ∃ ad : Option Addr, (if oc = 1 then some (⟨g, 0, none⟩ : Addr) else some ⟨g, 4, none⟩) = ad := ⟨_, rfl⟩
      have HSD : Hid (∀ U, Below wr.drew.heap.size wr.drew U → SrcN 4 U (.slice ad m (oc - 1)) m (rcs L2)) := Lib.hid fun U hU => by
        obtain ⟨ao, c', e1, hl1, h1⟩ := hsrc
        injection e1 with e1 _ e3
        subst e1 e3
        refine SrcN.keep ⟨ad, oc - 1, rfl, by rw [rcs_len, HL2.out], ?_⟩ hU
        by_cases hm : m = 0
        · refine .inl ⟨hm, fun e => ?_⟩
          rw [← had] at e
          split at e <;> cases e
        · rcases h1 with ⟨h1, -⟩ | ⟨g', o', e, hg', hcell⟩
          · omega
          · injection e with e
            injection e with e1 e2
            subst e1 e2
            refine .inr ⟨g, 4, by rw [← had, if_neg (by omega)], hg', fun j u hu => ?_⟩
            have h4 := hcell (j + 4) u (by
              show (rcL _ ++ rcs L2)[j + 4]? = _
              rw [List.getElem?_append_right (by rw [rcL_len]; omega), rcL_len, Nat.add_sub_cancel]
              exact hu)
            rw [show 4 + j = 0 + (j + 4) by omega]
            exact h4
      have HXD : Hid (wr.drew.heap[B]? = some (.cells #[.int .i64 0, .int .i64 0, .int .i64 0, .int .i64 0] 31 (0, 0))) := Lib.hid ((hdr.block B (Array.getElem?_eq_some_iff.1 HX.out).1).trans HX.out)
      have HBD : Hid (Below W.heap.size W wr.drew) := Lib.hid (bnext HBW.out hdr)
      have HKD := Lib.hid (And.intro k0 (And.intro k1 (And.intro k2 k3)))
      simp only [Nat.zero_add, Nat.zero_mul] at HKD
      have HAR : Hid (∀ U, Below wr.drew.heap.size wr.drew U → Calls Tryd.prog 59 #[rcV ⟨rx, ry, rw', rh⟩, .slice ad m (oc - 1)] U fun e w' => e = .returned (rcV ⟨bx, by', bw, bh⟩) ∧ Below U.heap.size U w') := Lib.hid fun U hU => by
        have := around_any U ⟨rx, ry, rw', rh⟩ L2 (.slice ad m (oc - 1)) m HL2.out (HSD.out U hU) HR0.out HRS.out (by omega)
        rw [HBX.out] at this
        exact this
      have hml : (0 : Int) < ((m + 1 : Nat) : Int) := by omega
      have hml2 : (0 : Int) < (m : Int) + 1 := by omega
      have HGL := Lib.hid hg
      clear hallrb hdr hsrc hL2 hR0 hR1 hr0 hbr k0 k1 k2 k3 hg
      go_upto_region 7 with fail
      refine wp_region_last #[{ dst := some 34, op := Op.move (Operand.tmp 7), type := 46, pos := "plan.go:54", after := #[], guard := none }, { dst := some 35, op := Op.indexAddr 46 (Operand.tmp 34) (Operand.const (Value.int IntKind.i64 0)), type := 0, pos := "plan.go:54", after := #[{ on := 0, ground := Ground.data }], guard := none }, { dst := some 36, op := Op.load 31 (Operand.tmp 35), type := 31, pos := "plan.go:54", after := #[{ on := 1, ground := Ground.data }], guard := none }, { dst := some 37, op := Op.move (Operand.tmp 7), type := 46, pos := "plan.go:54", after := #[], guard := none }, { dst := some 38, op := Op.slice 46 (Operand.tmp 37) (some (Operand.const (Value.int IntKind.i64 1))) none none, type := 46, pos := "plan.go:54", after := #[{ on := 3, ground := Ground.data }], guard := none }, { dst := some 39, op := Op.call { callee := Callee.value (Operand.func 59), args := #[Operand.tmp 36, Operand.tmp 38], argTypes := #[31, 46] }, type := 31, pos := "plan.go:54", after := #[{ on := 2, ground := Ground.data }, { on := 4, ground := Ground.data }], guard := none }] { dst := none, op := Op.store 31 (Operand.tmp 6) (Operand.tmp 39), type := 0, pos := "plan.go:54", after := #[{ on := 5, ground := Ground.data }, { on := 5, ground := Ground.chain }, { on := 0, ground := Ground.phase }, { on := 1, ground := Ground.phase }, { on := 2, ground := Ground.phase }, { on := 3, ground := Ground.phase }, { on := 4, ground := Ground.phase }, { on := 5, ground := Ground.phase }], guard := none } rfl (by kernel_rfl) (by kernel_rfl) ((fun w' => w'.cell? ⟨g, 0, none⟩ = some (.int .i64 rx) ∧ w'.cell? ⟨g, 1, none⟩ = some (.int .i64 ry) ∧ w'.cell? ⟨g, 2, none⟩ = some (.int .i64 rw') ∧ w'.cell? ⟨g, 3, none⟩ = some (.int .i64 rh))) ?_ (fun hHeld => ?_)
      · first | exact HKD.out | exact hSk
      refine wpAnyH_take (i := 0) (oi := { dst := some 34, op := Op.move (Operand.tmp 7), type := 46, pos := "plan.go:54", after := #[], guard := none }) (v := ?_) rfl (by kernel_rfl) (by kernel_rfl) (by kernel_rfl) (fun _ _ _ h => h) (Or.inl ⟨by rfl, ?_⟩) (by assumption) ?_
      rotate_left
      · ((intro w hSw; (try dsimp only at hSw); go_simp; (try rw [if_neg (by omega)])); try with_reducible rfl)
      (try simp only [Act.put, List.setIfInBounds_toArray, List.set_cons_zero, List.set_cons_succ])
      refine wpAnyH_take (i := 1) (oi := { dst := some 35, op := Op.indexAddr 46 (Operand.tmp 34) (Operand.const (Value.int IntKind.i64 0)), type := 0, pos := "plan.go:54", after := #[{ on := 0, ground := Ground.data }], guard := none }) (v := ?_) rfl (by kernel_rfl) (by kernel_rfl) (by kernel_rfl) (fun _ _ _ h => h) (Or.inl ⟨by rfl, ?_⟩) (by assumption) ?_
      rotate_left
      · ((intro w hSw; (try dsimp only at hSw); go_simp; (try rw [if_neg (by omega)])); try with_reducible rfl)
      (try simp only [Act.put, List.setIfInBounds_toArray, List.set_cons_zero, List.set_cons_succ])
      refine wpAnyH_take (i := 2) (oi := { dst := some 36, op := Op.load 31 (Operand.tmp 35), type := 31, pos := "plan.go:54", after := #[{ on := 1, ground := Ground.data }], guard := none }) (v := ?_) rfl (by kernel_rfl) (by kernel_rfl) (by kernel_rfl) (fun _ _ _ h => h) (Or.inl ⟨by rfl, ?_⟩) (by assumption) ?_
      rotate_left
      · ((intro w hSw; (try dsimp only at hSw); go_simp; (try rw [if_neg (by omega)])); try with_reducible rfl)
      (try simp only [Act.put, List.setIfInBounds_toArray, List.set_cons_zero, List.set_cons_succ])
      refine wpAnyH_take (i := 3) (oi := { dst := some 37, op := Op.move (Operand.tmp 7), type := 46, pos := "plan.go:54", after := #[], guard := none }) (v := ?_) rfl (by kernel_rfl) (by kernel_rfl) (by kernel_rfl) (fun _ _ _ h => h) (Or.inl ⟨by rfl, ?_⟩) (by assumption) ?_
      rotate_left
      · ((intro w hSw; (try dsimp only at hSw); go_simp; (try rw [if_neg (by omega)])); try with_reducible rfl)
      (try simp only [Act.put, List.setIfInBounds_toArray, List.set_cons_zero, List.set_cons_succ])
      refine wpAnyH_take (i := 4) (oi := { dst := some 38, op := Op.slice 46 (Operand.tmp 37) (some (Operand.const (Value.int IntKind.i64 1))) none none, type := 46, pos := "plan.go:54", after := #[{ on := 3, ground := Ground.data }], guard := none }) (v := ?_) rfl (by kernel_rfl) (by kernel_rfl) (by kernel_rfl) (fun _ _ _ h => h) (Or.inl ⟨by rfl, ?_⟩) (by assumption) ?_
      rotate_left
      · ((intro w hSw; (try dsimp only at hSw); go_simp; (try rw [if_pos (by omega)])); try with_reducible rfl)
      (try simp only [Act.put, List.setIfInBounds_toArray, List.set_cons_zero, List.set_cons_succ])
      refine wpAnyH_ready (rs := [5]) (by kernel_rfl) (by simp) ?_
      refine AllReadyH.cons (o := { dst := some 39, op := Op.call { callee := Callee.value (Operand.func 59), args := #[Operand.tmp 36, Operand.tmp 38], argTypes := #[31, 46] }, type := 31, pos := "plan.go:54", after := #[{ on := 2, ground := Ground.data }, { on := 4, ground := Ground.data }], guard := none }) rfl (fun K hK => ?_) AllReadyH.nil
      (go_simp; go_at_call 59; refine (HAR.out _ (Below.refl _ _)).mono ?_; rintro u wz ⟨rfl, bz⟩; have hSk := And.intro ((bz.cell (p := ⟨g, 0, none⟩) HGL.out).trans HKD.out.1) (And.intro ((bz.cell (p := ⟨g, 1, none⟩) HGL.out).trans HKD.out.2.1) (And.intro ((bz.cell (p := ⟨g, 2, none⟩) HGL.out).trans HKD.out.2.2.1) ((bz.cell (p := ⟨g, 3, none⟩) HGL.out).trans HKD.out.2.2.2))); dsimp only)
      refine hK.out _ _ ?_ (fun hHeld => ?_)
      · first | exact HKD.out | exact hSk
      clear hK K
      (try simp only [Act.put, List.setIfInBounds_toArray, List.set_cons_zero, List.set_cons_succ])
      refine wpAnyH_done (by kernel_rfl) ?_ _
      show Oper.wp _ _ _ _ _ _
      obtain ⟨z0, z1, z2, z3⟩ : wz.frozen? ⟨B, 0, none⟩ = false ∧ wz.frozen? ⟨B, 1, none⟩ = false ∧ wz.frozen? ⟨B, 2, none⟩ = false ∧ wz.frozen? ⟨B, 3, none⟩ = false := by
        have h1 := (bz.block B (Array.getElem?_eq_some_iff.1 HXD.out).1).trans HXD.out
        exact ⟨nd_froz h1 0, nd_froz h1 1, nd_froz h1 2, nd_froz h1 3⟩
      have hxz := (bz.block B (Array.getElem?_eq_some_iff.1 HXD.out).1).trans HXD.out
      have y0 : wz.cell? ⟨B, 0, none⟩ = some (.int .i64 0) := nd_cell hxz rfl
      have y1 : wz.cell? ⟨B, 1, none⟩ = some (.int .i64 0) := nd_cell hxz rfl
      have y2 : wz.cell? ⟨B, 2, none⟩ = some (.int .i64 0) := nd_cell hxz rfl
      have y3 : wz.cell? ⟨B, 3, none⟩ = some (.int .i64 0) := nd_cell hxz rfl
      obtain ⟨w5, hw5, hx5, hf5⟩ := set4 hxz (.int .i64 bx) (.int .i64 by') (.int .i64 bw) (.int .i64 bh)
      have HX5 := Lib.hid hx5
      have HB5 : Hid (Below W.heap.size W w5) := Lib.hid (hf5.below W (bnext HBD.out bz) (fun b hb => by rw [hb, HB.out]; omega))
      have HW5 := Lib.hid hw5
      clear hHeld hxz hw5 hx5 hf5
      go_simp
      go_wp2
      try rw [HW5.out]
      refine bodyPost_ret (v := rcV ⟨bx, by', bw, bh⟩) (results_cell_row Tryd.results42 _ _ B 31 _ (0, 0) _ rfl HX5.out Tryd.underlying31 rfl (by kernel_rfl)) rfl ?_
      exact ⟨by rw [HR1.out], by first | exact HB5.out | (rw [← HB.out]; exact HB5.out)⟩

end Go.Proofs.YtmiennkldkcnfaaDoor
