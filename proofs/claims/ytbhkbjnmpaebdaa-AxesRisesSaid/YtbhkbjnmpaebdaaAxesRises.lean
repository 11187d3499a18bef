/- For all numbers of an axis and two choices AxesRises returns true: the coordinate is that of each point, lies between those of two points between them, does not decrease, and is 0 for Default. No conditions. -/
import Derived.Test.YtbhkbjnmpaebdaaAx34
import Derived.Test.YtbhkbjnmpaebdaaLast
import Derived.Test.YtbhkbjnmpaebdaaHeldIn
namespace Go.Proofs.Ytbhkbjnmpaebdaa.axesRises
open Go.ChangeShapes Go.WideShapes Go.ChangeAt Go.RowKit Go.Joins Go.Deep
set_option linter.unusedVariables false

theorem one_block (w : World) (o : Obj) (B : Nat) (hB : w.heap.size = B) : ∃ W0, w.alloc o = W0 ∧ W0.heap[B]? = some o ∧ Below w.heap.size w W0 ∧ W0.heap.size = B + 1 := by
  subst hB
  exact ⟨_, rfl, heap_alloc_new w o, balloc (Below.refl _ _) _, by simp⟩
set_option maxRecDepth 100000 in
set_option maxHeartbeats 16000000 in
theorem walk (v0 : Value) (a0 : List Int) (a1 : Int) (b1 : Int) (wa1 : (Lit.int .i64 a1).wf = true) (wb1 : (Lit.int .i64 b1).wf = true) (w : World) (H0 : InArg w v0 a0) :
    Calls Try.prog 4 #[v0, .agg #[.int .i64 a1, .int .i64 b1]] w fun e w' => e = .returned (.bool true) ∧ Below w.heap.size w w' := by
  have HL0 := Lib.hid H0
  clear H0
  obtain ⟨B, hB⟩ : ∃ B, w.heap.size = B := ⟨_, rfl⟩
  obtain ⟨W0, hW0, b1x, bel0, hsz0⟩ := one_block w (.cells #[.int .i64 a1, .int .i64 b1] 30) B hB
  have HVX0 : Hid (∀ V, Below W0.heap.size W0 V → V.heap[B]? = some (.cells #[.int .i64 a1, .int .i64 b1] 30 (0, 0))) := Lib.hid fun V hV => (hV.block B (Array.getElem?_eq_some_iff.1 b1x).1).trans b1x
  have HB0 := Lib.hid bel0
  clear b1x bel0 hsz0
  have hba := bd64 wa1
  have hbb := bd64 wb1
  go_enter Try.func4, Try.ntmps4
  go_upto_region 1 with fail
  try rw [hW0]
  try rw [hB]
  clear hW0 hB
  go_wp2_with fail
  refine (sane_any _).mono ?_
  rintro e w1 ⟨rfl, hb1⟩
  have HB1 := Lib.hid hb1
  clear hb1
  go_wp2_with fail
  refine (madeaxis_any a0 ⟨#[120]⟩ _ _ (HL0.out.keep (bnext HB0.out HB1.out)).1 HL0.out.2.1).mono ?_
  rintro e w2 ⟨vm, rfl, hom, hb2⟩
  have HCK := Lib.hid (AX.mkAxis_check a0 (s := ⟨#[120]⟩) (by decide +kernel))
  have HML := Lib.hid (AX.mkAxis_len a0 ⟨#[120]⟩)
  have HNM : Hid ((AX.mkAxis a0 ⟨#[120]⟩).name.size = 1) := Lib.hid rfl
  generalize AX.mkAxis a0 ⟨#[120]⟩ = x at hom HCK HML HNM ⊢
  obtain ⟨nm, lo, de, hi, P⟩ := x
  obtain ⟨ma, mc, rfl⟩ := own_shape hom
  simp only at hom HML HNM
  have hpm := (own_srcN hom).pr
  obtain ⟨pn, hpn⟩ : ∃ pn, P.length = pn := ⟨_, rfl⟩
  have HPN0 := Lib.hid hpn
  rw [hpn] at hpm HML
  have hpn5 : 1 ≤ pn ∧ pn ≤ 5 := HML.out
  rw [hpn]
  have hck := AX.check_zero HCK.out
  simp only at hck
  unfold AxV
  go_upto_region 3 with fail
  obtain ⟨X, hX⟩ : ∃ X, w2.heap.size = X := ⟨_, rfl⟩
  obtain ⟨WX, hWX, hbx, hbelx, -⟩ := one_block w2 (.cells #[.string nm, .int .i64 lo, .int .i64 de, .int .i64 hi, .slice ma pn mc] 24) X hX
  try rw [hX]
  try rw [hWX]
  have HAX : Hid (∀ V, Below WX.heap.size WX V → V.heap[X]? = some (.cells #[.string nm, .int .i64 lo, .int .i64 de, .int .i64 hi, .slice ma pn mc] 24 (0, 0))) := Lib.hid fun V hV => (hV.block X (Array.getElem?_eq_some_iff.1 hbx).1).trans hbx
  have HSA : Hid (∀ V, Below WX.heap.size WX V → (fun w' => w'.cell? ⟨X, 0, none⟩ = some (.string nm) ∧ w'.cell? ⟨X, 1, none⟩ = some (.int .i64 lo) ∧ w'.cell? ⟨X, 2, none⟩ = some (.int .i64 de) ∧ w'.cell? ⟨X, 3, none⟩ = some (.int .i64 hi) ∧ w'.cell? ⟨X, 4, none⟩ = some (.slice ma pn mc)) V) := Lib.hid fun V hV => by
    have h := HAX.out V hV
    exact ⟨cell_of h rfl, cell_of h rfl, cell_of h rfl, cell_of h rfl, cell_of h rfl⟩
  have hpm' := hpm.keep hbelx
  have HPM : Hid (∀ V, Below WX.heap.size WX V → PrAt V (.slice ma pn mc) P) := Lib.hid fun V hV => hpm'.keep hV
  have HBX := Lib.hid (bnext HB0.out (bnext HB1.out (bnext hb2 hbelx)))
  have HVB : Hid (∀ V, Below WX.heap.size WX V → V.cell? ⟨B, 0, none⟩ = some (.int .i64 a1) ∧ V.cell? ⟨B, 1, none⟩ = some (.int .i64 b1)) := Lib.hid fun V hV => by
    have h := HVX0.out V (bnext HB1.out (bnext (bnext hb2 hbelx) hV))
    exact ⟨cell_of h rfl, cell_of h rfl⟩
  have HNC : Hid (∀ (u r : Int) (V : World), AX.normal ⟨nm, lo, de, hi, P⟩ u = r → Below WX.heap.size WX V → Calls Try.prog 16 #[.agg #[.string nm, .int .i64 lo, .int .i64 de, .int .i64 hi, .slice ma pn mc], .int .i64 u] V fun e w' => e = .returned (.int .i64 r) ∧ Below V.heap.size V w') := Lib.hid fun u r V hr hV =>
    normal_c (x := ⟨nm, lo, de, hi, P⟩) hr (.slice ma pn mc) V (by show P.length ≤ _; rw [HPN0.out]; omega) (by rw [HNM.out]; omega) (HPM.out V hV)
  clear hX hWX hbx hbelx hpm hpm' hb2 hom hpn
  obtain ⟨low, hlow⟩ : ∃ low, (if b1 < a1 then b1 else a1) = low := ⟨_, rfl⟩
  obtain ⟨high, hhigh⟩ : ∃ high, (if a1 < b1 then b1 else a1) = high := ⟨_, rfl⟩
  have HLH : Hid (low ≤ high) := Lib.hid (by rw [← hlow, ← hhigh]; split <;> split <;> omega)
  go_wp2_with fail
  go_loopw [7] (fun v7 wr => ∃ k : Nat, v7 = .int .i64 (k : Int) ∧ k ≤ pn ∧ Below WX.heap.size WX wr) (fun v _ => pn - (intOf v).toNat)
  case atStart => exact ⟨0, rfl, Nat.zero_le _, Below.refl _ _⟩
  case round =>
    obtain ⟨k, rfl, hk, hb⟩ := hrel
    obtain ⟨wo, hwo⟩ : ∃ wo, wo = wr := ⟨_, rfl⟩
    subst hwo
    have HBK := Lib.hid hb
    obtain ⟨x0, x1, x2, x3, x4⟩ := HSA.out wo hb
    by_cases hkp : k < pn
    · have hkk : (k : Int) < (pn : Int) := by omega
      have hk0 : (0 : Int) ≤ (k : Int) := by omega
      obtain ⟨p, hp⟩ : ∃ p, P[k]? = some p := ⟨P[k]'(by rw [HPN0.out]; exact hkp), List.getElem?_eq_getElem _⟩
      have HPN := Lib.hid (AX.normal_pt HCK.out (k := k) (p := p) hp)
      obtain ⟨a', c', e1, hcw⟩ := HPM.out WX (Below.refl _ _)
      rw [HPN0.out] at e1
      injection e1 with e1 e2 e3
      subst e1 e3
      rcases hcw with h | ⟨g, o, rfl, hg, hcl⟩
      · rw [h] at hp
        simp at hp
      obtain ⟨z0, z1⟩ := hcl k p hp
      have HS6 : Hid (∀ V, Below WX.heap.size WX V → (fun w' => w'.cell? ⟨X, 0, none⟩ = some (.string nm) ∧ w'.cell? ⟨X, 1, none⟩ = some (.int .i64 lo) ∧ w'.cell? ⟨X, 2, none⟩ = some (.int .i64 de) ∧ w'.cell? ⟨X, 3, none⟩ = some (.int .i64 hi) ∧ w'.cell? ⟨X, 4, none⟩ = some (.slice (some ⟨g, o, none⟩) pn mc) ∧ w'.cell? ⟨g, o + k * 2, none⟩ = some (.int .i64 p.1) ∧ w'.cell? ⟨g, o + k * 2 + 1, none⟩ = some (.int .i64 p.2)) V) := Lib.hid fun V hV => by
        obtain ⟨y0, y1, y2, y3, y4⟩ := HSA.out V hV
        exact ⟨y0, y1, y2, y3, y4, (hV.cell (p := ⟨g, o + k * 2, none⟩) hg).trans z0, (hV.cell (p := ⟨g, o + k * 2 + 1, none⟩) hg).trans z1⟩
      have hneq : (p.2 != p.2) = false := by simp
      clear hcl hp z0 z1 hb
      go_upto_region 6 with fail
      refine wp_region_last #[{ dst := some 26, op := Op.load 24 (Operand.tmp 6), type := 24, pos := "law.go:95", after := #[], guard := none }, { dst := some 27, op := Op.fieldAddr 24 (Operand.tmp 6) 4, type := 0, pos := "law.go:95", after := #[], guard := none }, { dst := some 28, op := Op.load 22 (Operand.tmp 27), type := 22, pos := "law.go:95", after := #[{ on := 1, ground := Ground.data }], guard := none }, { dst := some 29, op := Op.move (Operand.tmp 7), type := 3, pos := "law.go:95", after := #[], guard := none }, { dst := some 30, op := Op.indexAddr 22 (Operand.tmp 28) (Operand.tmp 29), type := 0, pos := "law.go:95", after := #[{ on := 2, ground := Ground.data }, { on := 3, ground := Ground.data }], guard := none }, { dst := some 31, op := Op.indexAddr 30 (Operand.tmp 30) (Operand.const (Value.int IntKind.i64 0)), type := 0, pos := "law.go:95", after := #[{ on := 4, ground := Ground.data }], guard := none }, { dst := some 32, op := Op.load 3 (Operand.tmp 31), type := 3, pos := "law.go:95", after := #[{ on := 5, ground := Ground.data }], guard := none }, { dst := some 33, op := Op.call { callee := Callee.value (Operand.func 16), args := #[Operand.tmp 26, Operand.tmp 32], argTypes := #[24, 3] }, type := 3, pos := "law.go:95", after := #[{ on := 0, ground := Ground.data }, { on := 6, ground := Ground.data }], guard := none }, { dst := some 34, op := Op.fieldAddr 24 (Operand.tmp 6) 4, type := 0, pos := "law.go:95", after := #[], guard := none }, { dst := some 35, op := Op.load 22 (Operand.tmp 34), type := 22, pos := "law.go:95", after := #[{ on := 8, ground := Ground.data }], guard := none }, { dst := some 36, op := Op.move (Operand.tmp 7), type := 3, pos := "law.go:95", after := #[], guard := none }, { dst := some 37, op := Op.indexAddr 22 (Operand.tmp 35) (Operand.tmp 36), type := 0, pos := "law.go:95", after := #[{ on := 9, ground := Ground.data }, { on := 10, ground := Ground.data }], guard := none }, { dst := some 38, op := Op.indexAddr 30 (Operand.tmp 37) (Operand.const (Value.int IntKind.i64 1)), type := 0, pos := "law.go:95", after := #[{ on := 11, ground := Ground.data }], guard := none }, { dst := some 39, op := Op.load 3 (Operand.tmp 38), type := 3, pos := "law.go:95", after := #[{ on := 12, ground := Ground.data }], guard := none }] { dst := some 40, op := Op.binOp BinOp.neq 3 (Operand.tmp 33) (Operand.tmp 39) 3, type := 4, pos := "law.go:95", after := #[{ on := 7, ground := Ground.data }, { on := 13, ground := Ground.data }], guard := none } rfl (by kernel_rfl) (by kernel_rfl) (fun w' => w'.cell? ⟨X, 0, none⟩ = some (.string nm) ∧ w'.cell? ⟨X, 1, none⟩ = some (.int .i64 lo) ∧ w'.cell? ⟨X, 2, none⟩ = some (.int .i64 de) ∧ w'.cell? ⟨X, 3, none⟩ = some (.int .i64 hi) ∧ w'.cell? ⟨X, 4, none⟩ = some (.slice (some ⟨g, o, none⟩) pn mc) ∧ w'.cell? ⟨g, o + k * 2, none⟩ = some (.int .i64 p.1) ∧ w'.cell? ⟨g, o + k * 2 + 1, none⟩ = some (.int .i64 p.2)) ?_ (fun hHeld => ?_)
      · first | exact HS6.out _ d10 | exact HS6.out _ (bnext HBK.out (Below.drew (Below.refl _ wo)))
      refine wpAnyH_take (i := 0) (oi := { dst := some 26, op := Op.load 24 (Operand.tmp 6), type := 24, pos := "law.go:95", after := #[], guard := none }) (v := ?_) rfl (by kernel_rfl) (by kernel_rfl) (by kernel_rfl) (fun _ _ _ h => h) (Or.inl ⟨by rfl, ?_⟩) (by assumption) ?_
      rotate_left
      · ((intro w hSw; obtain ⟨s0, s1, s2, s3, s4, s5, s6⟩ := hSw; go_simp); try with_reducible rfl)
      (try simp only [Act.put, List.setIfInBounds_toArray, List.set_cons_zero, List.set_cons_succ])
      refine wpAnyH_take (i := 1) (oi := { dst := some 27, op := Op.fieldAddr 24 (Operand.tmp 6) 4, type := 0, pos := "law.go:95", after := #[], guard := none }) (v := ?_) rfl (by kernel_rfl) (by kernel_rfl) (by kernel_rfl) (fun _ _ _ h => h) (Or.inl ⟨by rfl, ?_⟩) (by assumption) ?_
      rotate_left
      · ((intro w hSw; (try dsimp only at hSw); go_simp; (try rw [if_neg (by omega)])); try with_reducible rfl)
      (try simp only [Act.put, List.setIfInBounds_toArray, List.set_cons_zero, List.set_cons_succ])
      refine wpAnyH_take (i := 2) (oi := { dst := some 28, op := Op.load 22 (Operand.tmp 27), type := 22, pos := "law.go:95", after := #[{ on := 1, ground := Ground.data }], guard := none }) (v := ?_) rfl (by kernel_rfl) (by kernel_rfl) (by kernel_rfl) (fun _ _ _ h => h) (Or.inl ⟨by rfl, ?_⟩) (by assumption) ?_
      rotate_left
      · ((intro w hSw; obtain ⟨s0, s1, s2, s3, s4, s5, s6⟩ := hSw; go_simp); try with_reducible rfl)
      (try simp only [Act.put, List.setIfInBounds_toArray, List.set_cons_zero, List.set_cons_succ])
      refine wpAnyH_take (i := 3) (oi := { dst := some 29, op := Op.move (Operand.tmp 7), type := 3, pos := "law.go:95", after := #[], guard := none }) (v := ?_) rfl (by kernel_rfl) (by kernel_rfl) (by kernel_rfl) (fun _ _ _ h => h) (Or.inl ⟨by rfl, ?_⟩) (by assumption) ?_
      rotate_left
      · ((intro w hSw; (try dsimp only at hSw); go_simp; (try rw [if_neg (by omega)])); try with_reducible rfl)
      (try simp only [Act.put, List.setIfInBounds_toArray, List.set_cons_zero, List.set_cons_succ])
      refine wpAnyH_take (i := 4) (oi := { dst := some 30, op := Op.indexAddr 22 (Operand.tmp 28) (Operand.tmp 29), type := 0, pos := "law.go:95", after := #[{ on := 2, ground := Ground.data }, { on := 3, ground := Ground.data }], guard := none }) (v := ?_) rfl (by kernel_rfl) (by kernel_rfl) (by kernel_rfl) (fun _ _ _ h => h) (Or.inl ⟨by rfl, ?_⟩) (by assumption) ?_
      rotate_left
      · ((intro w hSw; (try dsimp only at hSw); go_simp; (try rw [if_neg (by omega)])); try with_reducible rfl)
      (try simp only [Act.put, List.setIfInBounds_toArray, List.set_cons_zero, List.set_cons_succ])
      refine wpAnyH_take (i := 5) (oi := { dst := some 31, op := Op.indexAddr 30 (Operand.tmp 30) (Operand.const (Value.int IntKind.i64 0)), type := 0, pos := "law.go:95", after := #[{ on := 4, ground := Ground.data }], guard := none }) (v := ?_) rfl (by kernel_rfl) (by kernel_rfl) (by kernel_rfl) (fun _ _ _ h => h) (Or.inl ⟨by rfl, ?_⟩) (by assumption) ?_
      rotate_left
      · ((intro w hSw; (try dsimp only at hSw); go_simp; (try rw [if_neg (by omega)])); try with_reducible rfl)
      (try simp only [Act.put, List.setIfInBounds_toArray, List.set_cons_zero, List.set_cons_succ])
      refine wpAnyH_take (i := 6) (oi := { dst := some 32, op := Op.load 3 (Operand.tmp 31), type := 3, pos := "law.go:95", after := #[{ on := 5, ground := Ground.data }], guard := none }) (v := ?_) rfl (by kernel_rfl) (by kernel_rfl) (by kernel_rfl) (fun _ _ _ h => h) (Or.inl ⟨by rfl, ?_⟩) (by assumption) ?_
      rotate_left
      · ((intro w hSw; obtain ⟨s0, s1, s2, s3, s4, s5, s6⟩ := hSw; go_simp); try with_reducible rfl)
      (try simp only [Act.put, List.setIfInBounds_toArray, List.set_cons_zero, List.set_cons_succ])
      refine wpAnyH_take (i := 8) (oi := { dst := some 34, op := Op.fieldAddr 24 (Operand.tmp 6) 4, type := 0, pos := "law.go:95", after := #[], guard := none }) (v := ?_) rfl (by kernel_rfl) (by kernel_rfl) (by kernel_rfl) (fun _ _ _ h => h) (Or.inl ⟨by rfl, ?_⟩) (by assumption) ?_
      rotate_left
      · ((intro w hSw; (try dsimp only at hSw); go_simp; (try rw [if_neg (by omega)])); try with_reducible rfl)
      (try simp only [Act.put, List.setIfInBounds_toArray, List.set_cons_zero, List.set_cons_succ])
      refine wpAnyH_take (i := 9) (oi := { dst := some 35, op := Op.load 22 (Operand.tmp 34), type := 22, pos := "law.go:95", after := #[{ on := 8, ground := Ground.data }], guard := none }) (v := ?_) rfl (by kernel_rfl) (by kernel_rfl) (by kernel_rfl) (fun _ _ _ h => h) (Or.inl ⟨by rfl, ?_⟩) (by assumption) ?_
      rotate_left
      · ((intro w hSw; obtain ⟨s0, s1, s2, s3, s4, s5, s6⟩ := hSw; go_simp); try with_reducible rfl)
      (try simp only [Act.put, List.setIfInBounds_toArray, List.set_cons_zero, List.set_cons_succ])
      refine wpAnyH_take (i := 10) (oi := { dst := some 36, op := Op.move (Operand.tmp 7), type := 3, pos := "law.go:95", after := #[], guard := none }) (v := ?_) rfl (by kernel_rfl) (by kernel_rfl) (by kernel_rfl) (fun _ _ _ h => h) (Or.inl ⟨by rfl, ?_⟩) (by assumption) ?_
      rotate_left
      · ((intro w hSw; (try dsimp only at hSw); go_simp; (try rw [if_neg (by omega)])); try with_reducible rfl)
      (try simp only [Act.put, List.setIfInBounds_toArray, List.set_cons_zero, List.set_cons_succ])
      refine wpAnyH_take (i := 11) (oi := { dst := some 37, op := Op.indexAddr 22 (Operand.tmp 35) (Operand.tmp 36), type := 0, pos := "law.go:95", after := #[{ on := 9, ground := Ground.data }, { on := 10, ground := Ground.data }], guard := none }) (v := ?_) rfl (by kernel_rfl) (by kernel_rfl) (by kernel_rfl) (fun _ _ _ h => h) (Or.inl ⟨by rfl, ?_⟩) (by assumption) ?_
      rotate_left
      · ((intro w hSw; (try dsimp only at hSw); go_simp; (try rw [if_neg (by omega)])); try with_reducible rfl)
      (try simp only [Act.put, List.setIfInBounds_toArray, List.set_cons_zero, List.set_cons_succ])
      refine wpAnyH_take (i := 12) (oi := { dst := some 38, op := Op.indexAddr 30 (Operand.tmp 37) (Operand.const (Value.int IntKind.i64 1)), type := 0, pos := "law.go:95", after := #[{ on := 11, ground := Ground.data }], guard := none }) (v := ?_) rfl (by kernel_rfl) (by kernel_rfl) (by kernel_rfl) (fun _ _ _ h => h) (Or.inl ⟨by rfl, ?_⟩) (by assumption) ?_
      rotate_left
      · ((intro w hSw; (try dsimp only at hSw); go_simp; (try rw [if_neg (by omega)])); try with_reducible rfl)
      (try simp only [Act.put, List.setIfInBounds_toArray, List.set_cons_zero, List.set_cons_succ])
      refine wpAnyH_take (i := 13) (oi := { dst := some 39, op := Op.load 3 (Operand.tmp 38), type := 3, pos := "law.go:95", after := #[{ on := 12, ground := Ground.data }], guard := none }) (v := ?_) rfl (by kernel_rfl) (by kernel_rfl) (by kernel_rfl) (fun _ _ _ h => h) (Or.inl ⟨by rfl, ?_⟩) (by assumption) ?_
      rotate_left
      · ((intro w hSw; obtain ⟨s0, s1, s2, s3, s4, s5, s6⟩ := hSw; go_simp); try with_reducible rfl)
      (try simp only [Act.put, List.setIfInBounds_toArray, List.set_cons_zero, List.set_cons_succ])
      refine wpAnyH_ready (rs := [7]) (by kernel_rfl) (by simp) ?_
      refine AllReadyH.cons (o := { dst := some 33, op := Op.call { callee := Callee.value (Operand.func 16), args := #[Operand.tmp 26, Operand.tmp 32], argTypes := #[24, 3] }, type := 3, pos := "law.go:95", after := #[{ on := 0, ground := Ground.data }, { on := 6, ground := Ground.data }], guard := none }) rfl (fun K hK => ?_) AllReadyH.nil
      (go_simp; go_at_call 16; refine (HNC.out p.1 p.2 _ HPN.out (bnext HBK.out (Below.drew (Below.refl _ wo)))).mono ?_; rintro e w10 ⟨rfl, hb10⟩; have d10 := bnext (bnext HBK.out (Below.drew (Below.refl _ wo))) hb10; dsimp only)
      refine hK.out _ _ ?_ (fun hHeld => ?_)
      · first | exact HS6.out _ d10 | exact HS6.out _ (bnext HBK.out (Below.drew (Below.refl _ wo)))
      clear hK K
      (try simp only [Act.put, List.setIfInBounds_toArray, List.set_cons_zero, List.set_cons_succ])
      refine wpAnyH_done (by kernel_rfl) ?_ _
      show Oper.wp _ _ _ _ _ _
      go_simp
      go_wp2_with fail
      go_roundw
      case rel => exact ⟨k + 1, by go_num, hkp, d10⟩
      case measure => simp [intOf]; omega
    · obtain rfl : pn = k := by omega
      obtain ⟨w8, hw8⟩ : ∃ w8, w8 = wo := ⟨_, rfl⟩
      subst hw8
      have HB8 := Lib.hid hb
      obtain ⟨q0, q1⟩ := HVB.out w8 hb
      clear hb
      go_upto_region 8 with fail
      go_quiet (fail)
      have hb9x := below_drewN HB8.out nq
      generalize w8.drewN nq = w9 at hb9x ⊢
      have HB9 := Lib.hid hb9x
      obtain ⟨x0, x1, x2, x3, x4⟩ := HSA.out w9 hb9x
      obtain ⟨nlo, hnl⟩ : ∃ r, AX.normal ⟨nm, lo, de, hi, P⟩ low = r := ⟨_, rfl⟩
      obtain ⟨nhi, hnh⟩ : ∃ r, AX.normal ⟨nm, lo, de, hi, P⟩ high = r := ⟨_, rfl⟩
      have HNL := Lib.hid hnl
      have HNH := Lib.hid hnh
      have hle := AX.normal_mono HCK.out HLH.out
      rw [hnl, hnh] at hle
      have HCX := Lib.hid (AX.normal_coord HCK.out low)
      have HCY := Lib.hid (AX.normal_coord HCK.out high)
      rw [hnl] at HCX
      rw [hnh] at HCY
      clear hb9x q0 q1 hlow hhigh hnl hnh
      go_upto_region 9 with fail
      refine wp_region_last #[{ dst := some 51, op := Op.load 24 (Operand.tmp 6), type := 24, pos := "law.go:100", after := #[], guard := none }, { dst := some 52, op := Op.move (Operand.tmp 8), type := 3, pos := "law.go:100", after := #[], guard := none }, { dst := some 53, op := Op.call { callee := Callee.value (Operand.func 16), args := #[Operand.tmp 51, Operand.tmp 52], argTypes := #[24, 3] }, type := 3, pos := "law.go:100", after := #[{ on := 0, ground := Ground.data }, { on := 1, ground := Ground.data }], guard := none }, { dst := some 54, op := Op.load 24 (Operand.tmp 6), type := 24, pos := "law.go:100", after := #[], guard := none }, { dst := some 55, op := Op.move (Operand.tmp 9), type := 3, pos := "law.go:100", after := #[], guard := none }, { dst := some 56, op := Op.call { callee := Callee.value (Operand.func 16), args := #[Operand.tmp 54, Operand.tmp 55], argTypes := #[24, 3] }, type := 3, pos := "law.go:100", after := #[{ on := 3, ground := Ground.data }, { on := 4, ground := Ground.data }, { on := 2, ground := Ground.chain }], guard := none }, { dst := some 10, op := Op.assign (Operand.tmp 53), type := 3, pos := "law.go:100", after := #[{ on := 2, ground := Ground.data }, { on := 5, ground := Ground.chain }, { on := 0, ground := Ground.phase }, { on := 1, ground := Ground.phase }, { on := 2, ground := Ground.phase }, { on := 3, ground := Ground.textOnly Departure.lateStores }, { on := 4, ground := Ground.textOnly Departure.lateStores }, { on := 5, ground := Ground.textOnly Departure.lateStoresUnsure }], guard := none }] { dst := some 11, op := Op.assign (Operand.tmp 56), type := 3, pos := "law.go:100", after := #[{ on := 5, ground := Ground.data }, { on := 6, ground := Ground.chain }, { on := 0, ground := Ground.phase }, { on := 1, ground := Ground.phase }, { on := 2, ground := Ground.phase }, { on := 3, ground := Ground.phase }, { on := 4, ground := Ground.phase }, { on := 5, ground := Ground.phase }, { on := 6, ground := Ground.phase }], guard := none } rfl (by kernel_rfl) (by kernel_rfl) (fun w' => w'.cell? ⟨X, 0, none⟩ = some (.string nm) ∧ w'.cell? ⟨X, 1, none⟩ = some (.int .i64 lo) ∧ w'.cell? ⟨X, 2, none⟩ = some (.int .i64 de) ∧ w'.cell? ⟨X, 3, none⟩ = some (.int .i64 hi) ∧ w'.cell? ⟨X, 4, none⟩ = some (.slice ma pn mc)) ?_ (fun hHeld => ?_)
      · first | exact HSA.out _ d12 | exact HSA.out _ d11 | exact HSA.out _ (bnext HB9.out (Below.drew (Below.refl _ w9)))
      refine wpAnyH_take (i := 0) (oi := { dst := some 51, op := Op.load 24 (Operand.tmp 6), type := 24, pos := "law.go:100", after := #[], guard := none }) (v := ?_) rfl (by kernel_rfl) (by kernel_rfl) (by kernel_rfl) (fun _ _ _ h => h) (Or.inl ⟨by rfl, ?_⟩) (by assumption) ?_
      rotate_left
      · ((intro w hSw; obtain ⟨s0, s1, s2, s3, s4⟩ := hSw; go_simp); try with_reducible rfl)
      (try simp only [Act.put, List.setIfInBounds_toArray, List.set_cons_zero, List.set_cons_succ])
      refine wpAnyH_take (i := 1) (oi := { dst := some 52, op := Op.move (Operand.tmp 8), type := 3, pos := "law.go:100", after := #[], guard := none }) (v := ?_) rfl (by kernel_rfl) (by kernel_rfl) (by kernel_rfl) (fun _ _ _ h => h) (Or.inl ⟨by rfl, ?_⟩) (by assumption) ?_
      rotate_left
      · ((intro w hSw; (try dsimp only at hSw); go_simp; (try rw [if_neg (by omega)])); try with_reducible rfl)
      (try simp only [Act.put, List.setIfInBounds_toArray, List.set_cons_zero, List.set_cons_succ])
      refine wpAnyH_take (i := 3) (oi := { dst := some 54, op := Op.load 24 (Operand.tmp 6), type := 24, pos := "law.go:100", after := #[], guard := none }) (v := ?_) rfl (by kernel_rfl) (by kernel_rfl) (by kernel_rfl) (fun _ _ _ h => h) (Or.inl ⟨by rfl, ?_⟩) (by assumption) ?_
      rotate_left
      · ((intro w hSw; obtain ⟨s0, s1, s2, s3, s4⟩ := hSw; go_simp); try with_reducible rfl)
      (try simp only [Act.put, List.setIfInBounds_toArray, List.set_cons_zero, List.set_cons_succ])
      refine wpAnyH_take (i := 4) (oi := { dst := some 55, op := Op.move (Operand.tmp 9), type := 3, pos := "law.go:100", after := #[], guard := none }) (v := ?_) rfl (by kernel_rfl) (by kernel_rfl) (by kernel_rfl) (fun _ _ _ h => h) (Or.inl ⟨by rfl, ?_⟩) (by assumption) ?_
      rotate_left
      · ((intro w hSw; (try dsimp only at hSw); go_simp; (try rw [if_neg (by omega)])); try with_reducible rfl)
      (try simp only [Act.put, List.setIfInBounds_toArray, List.set_cons_zero, List.set_cons_succ])
      refine wpAnyH_ready (rs := [2]) (by kernel_rfl) (by simp) ?_
      refine AllReadyH.cons (o := { dst := some 53, op := Op.call { callee := Callee.value (Operand.func 16), args := #[Operand.tmp 51, Operand.tmp 52], argTypes := #[24, 3] }, type := 3, pos := "law.go:100", after := #[{ on := 0, ground := Ground.data }, { on := 1, ground := Ground.data }], guard := none }) rfl (fun K hK => ?_) AllReadyH.nil
      (go_simp; go_at_call 16; refine (HNC.out low nlo _ HNL.out (bnext HB9.out (Below.drew (Below.refl _ w9)))).mono ?_; rintro e w11 ⟨rfl, hb11⟩; have d11 := bnext (bnext HB9.out (Below.drew (Below.refl _ w9))) hb11; dsimp only)
      refine hK.out _ _ ?_ (fun hHeld => ?_)
      · first | exact HSA.out _ d12 | exact HSA.out _ d11 | exact HSA.out _ (bnext HB9.out (Below.drew (Below.refl _ w9)))
      clear hK K
      (try simp only [Act.put, List.setIfInBounds_toArray, List.set_cons_zero, List.set_cons_succ])
      refine wpAnyH_ready (rs := [5]) (by kernel_rfl) (by simp) ?_
      refine AllReadyH.cons (o := { dst := some 56, op := Op.call { callee := Callee.value (Operand.func 16), args := #[Operand.tmp 54, Operand.tmp 55], argTypes := #[24, 3] }, type := 3, pos := "law.go:100", after := #[{ on := 3, ground := Ground.data }, { on := 4, ground := Ground.data }, { on := 2, ground := Ground.chain }], guard := none }) rfl (fun K hK => ?_) AllReadyH.nil
      (go_simp; go_at_call 16; refine (HNC.out high nhi _ HNH.out d11).mono ?_; rintro e w12 ⟨rfl, hb12⟩; have d12 := bnext d11 hb12; dsimp only)
      refine hK.out _ _ ?_ (fun hHeld => ?_)
      · first | exact HSA.out _ d12 | exact HSA.out _ d11 | exact HSA.out _ (bnext HB9.out (Below.drew (Below.refl _ w9)))
      clear hK K
      (try simp only [Act.put, List.setIfInBounds_toArray, List.set_cons_zero, List.set_cons_succ])
      refine wpAnyH_take (i := 6) (oi := { dst := some 10, op := Op.assign (Operand.tmp 53), type := 3, pos := "law.go:100", after := #[{ on := 2, ground := Ground.data }, { on := 5, ground := Ground.chain }, { on := 0, ground := Ground.phase }, { on := 1, ground := Ground.phase }, { on := 2, ground := Ground.phase }, { on := 3, ground := Ground.textOnly Departure.lateStores }, { on := 4, ground := Ground.textOnly Departure.lateStores }, { on := 5, ground := Ground.textOnly Departure.lateStoresUnsure }], guard := none }) (v := ?_) rfl (by kernel_rfl) (by kernel_rfl) (by kernel_rfl) (fun _ _ _ h => h) (Or.inl ⟨by rfl, ?_⟩) (by assumption) ?_
      rotate_left
      · ((intro w hSw; (try dsimp only at hSw); go_simp; (try rw [if_neg (by omega)])); try with_reducible rfl)
      (try simp only [Act.put, List.setIfInBounds_toArray, List.set_cons_zero, List.set_cons_succ])
      refine wpAnyH_done (by kernel_rfl) ?_ _
      show Oper.wp _ _ _ _ _ _
      go_simp
      have HB12 := Lib.hid d12
      obtain ⟨s', hs'⟩ : ∃ s', bits .and .i64 a1 65535 = s' := ⟨_, rfl⟩
      have hsb : 0 ≤ s' ∧ s' ≤ 65535 := by rw [← hs', i64_and65535]; omega
      obtain ⟨t, ht⟩ : ∃ t, s' % (hi - lo + 1) = t := ⟨_, rfl⟩
      have htb : 0 ≤ t ∧ t < hi - lo + 1 := by rw [← ht]; exact ⟨Int.emod_nonneg _ (by omega), Int.emod_lt_of_pos _ (by omega)⟩
      obtain ⟨y0, y1, y2, y3, y4⟩ := HSA.out w12 d12
      obtain ⟨q0, q1⟩ := HVB.out w12 d12
      clear d11 hb11 hb12 x0 x1 x2 x3 x4
      obtain ⟨near, hnear⟩ : ∃ near, lo + t = near := ⟨_, rfl⟩
      have hnb : lo ≤ near ∧ near ≤ hi := by omega
      have wq1 : IntKind.i64.wrap (hi - lo) = hi - lo := by rw [IntKind.wrap_i64]; omega
      have wq2 : IntKind.i64.wrap (hi - lo + 1) = hi - lo + 1 := by rw [IntKind.wrap_i64]; omega
      have wq3 : s'.tmod (hi - lo + 1) = t := (Int.tmod_eq_emod_of_nonneg hsb.1).trans ht
      have wq4 : IntKind.i64.wrap t = t := by rw [IntKind.wrap_i64]; omega
      have wq5 : IntKind.i64.wrap (lo + t) = near := by rw [IntKind.wrap_i64]; omega
      have wq8 : IntKind.i64.wrap near = near := by rw [IntKind.wrap_i64]; omega
      have wq6 : (hi - lo + 1 == 0) = false := by simp; omega
      have wq7 : ¬ (hi - lo + 1 = 0) := by omega
      have HS10 : Hid ((fun w' => w'.cell? ⟨X, 0, none⟩ = some (.string nm) ∧ w'.cell? ⟨X, 1, none⟩ = some (.int .i64 lo) ∧ w'.cell? ⟨X, 2, none⟩ = some (.int .i64 de) ∧ w'.cell? ⟨X, 3, none⟩ = some (.int .i64 hi) ∧ w'.cell? ⟨X, 4, none⟩ = some (.slice ma pn mc) ∧ w'.cell? ⟨B, 0, none⟩ = some (.int .i64 a1)) w12.drew) := Lib.hid ⟨y0, y1, y2, y3, y4, q0⟩
      have hS10 := HS10.out
      go_upto_region 10 with fail
      refine wp_region_last #[{ dst := some 57, op := Op.fieldAddr 24 (Operand.tmp 6) 1, type := 0, pos := "law.go:101", after := #[], guard := none }, { dst := some 58, op := Op.load 3 (Operand.tmp 57), type := 3, pos := "law.go:101", after := #[{ on := 0, ground := Ground.data }], guard := none }, { dst := some 59, op := Op.indexAddr 30 (Operand.tmp 3) (Operand.const (Value.int IntKind.i64 0)), type := 0, pos := "law.go:101", after := #[], guard := none }, { dst := some 60, op := Op.load 3 (Operand.tmp 59), type := 3, pos := "law.go:101", after := #[{ on := 2, ground := Ground.data }], guard := none }, { dst := some 61, op := Op.binOp BinOp.and 3 (Operand.tmp 60) (Operand.const (Value.int IntKind.i64 65535)) 3, type := 3, pos := "law.go:101", after := #[{ on := 3, ground := Ground.data }], guard := none }, { dst := some 62, op := Op.fieldAddr 24 (Operand.tmp 6) 3, type := 0, pos := "law.go:101", after := #[], guard := none }, { dst := some 63, op := Op.load 3 (Operand.tmp 62), type := 3, pos := "law.go:101", after := #[{ on := 5, ground := Ground.data }], guard := none }, { dst := some 64, op := Op.fieldAddr 24 (Operand.tmp 6) 1, type := 0, pos := "law.go:101", after := #[], guard := none }, { dst := some 65, op := Op.load 3 (Operand.tmp 64), type := 3, pos := "law.go:101", after := #[{ on := 7, ground := Ground.data }], guard := none }, { dst := some 66, op := Op.binOp BinOp.sub 3 (Operand.tmp 63) (Operand.tmp 65) 3, type := 3, pos := "law.go:101", after := #[{ on := 6, ground := Ground.data }, { on := 8, ground := Ground.data }], guard := none }, { dst := some 67, op := Op.binOp BinOp.add 3 (Operand.tmp 66) (Operand.const (Value.int IntKind.i64 1)) 3, type := 3, pos := "law.go:101", after := #[{ on := 9, ground := Ground.data }], guard := none }, { dst := some 68, op := Op.binOp BinOp.rem 3 (Operand.tmp 61) (Operand.tmp 67) 3, type := 3, pos := "law.go:101", after := #[{ on := 4, ground := Ground.data }, { on := 10, ground := Ground.data }], guard := none }, { dst := some 69, op := Op.binOp BinOp.add 3 (Operand.tmp 58) (Operand.tmp 68) 3, type := 3, pos := "law.go:101", after := #[{ on := 1, ground := Ground.data }, { on := 11, ground := Ground.data }], guard := none }] { dst := some 12, op := Op.assign (Operand.tmp 69), type := 3, pos := "law.go:101", after := #[{ on := 12, ground := Ground.data }, { on := 0, ground := Ground.phase }, { on := 1, ground := Ground.phase }, { on := 2, ground := Ground.phase }, { on := 3, ground := Ground.phase }, { on := 4, ground := Ground.phase }, { on := 5, ground := Ground.phase }, { on := 6, ground := Ground.phase }, { on := 7, ground := Ground.phase }, { on := 8, ground := Ground.phase }, { on := 9, ground := Ground.phase }, { on := 10, ground := Ground.phase }, { on := 11, ground := Ground.phase }, { on := 12, ground := Ground.phase }], guard := none } rfl (by kernel_rfl) (by kernel_rfl) (fun w' => w'.cell? ⟨X, 0, none⟩ = some (.string nm) ∧ w'.cell? ⟨X, 1, none⟩ = some (.int .i64 lo) ∧ w'.cell? ⟨X, 2, none⟩ = some (.int .i64 de) ∧ w'.cell? ⟨X, 3, none⟩ = some (.int .i64 hi) ∧ w'.cell? ⟨X, 4, none⟩ = some (.slice ma pn mc) ∧ w'.cell? ⟨B, 0, none⟩ = some (.int .i64 a1)) ?_ (fun hHeld => ?_)
      · exact HS10.out
      refine wpAnyH_take (i := 0) (oi := { dst := some 57, op := Op.fieldAddr 24 (Operand.tmp 6) 1, type := 0, pos := "law.go:101", after := #[], guard := none }) (v := ?_) rfl (by kernel_rfl) (by kernel_rfl) (by kernel_rfl) (fun _ _ _ h => h) (Or.inl ⟨by rfl, ?_⟩) (by assumption) ?_
      rotate_left
      · ((intro w hSw; (try dsimp only at hSw); go_simp; (try rw [if_neg (by omega)])); try with_reducible rfl)
      (try simp only [Act.put, List.setIfInBounds_toArray, List.set_cons_zero, List.set_cons_succ])
      refine wpAnyH_take (i := 1) (oi := { dst := some 58, op := Op.load 3 (Operand.tmp 57), type := 3, pos := "law.go:101", after := #[{ on := 0, ground := Ground.data }], guard := none }) (v := ?_) rfl (by kernel_rfl) (by kernel_rfl) (by kernel_rfl) (fun _ _ _ h => h) (Or.inl ⟨by rfl, ?_⟩) (by assumption) ?_
      rotate_left
      · ((intro w hSw; obtain ⟨s0, s1, s2, s3, s4, s5⟩ := hSw; go_simp); try with_reducible rfl)
      (try simp only [Act.put, List.setIfInBounds_toArray, List.set_cons_zero, List.set_cons_succ])
      refine wpAnyH_take (i := 2) (oi := { dst := some 59, op := Op.indexAddr 30 (Operand.tmp 3) (Operand.const (Value.int IntKind.i64 0)), type := 0, pos := "law.go:101", after := #[], guard := none }) (v := ?_) rfl (by kernel_rfl) (by kernel_rfl) (by kernel_rfl) (fun _ _ _ h => h) (Or.inl ⟨by rfl, ?_⟩) (by assumption) ?_
      rotate_left
      · ((intro w hSw; (try dsimp only at hSw); go_simp; (try rw [if_neg (by omega)])); try with_reducible rfl)
      (try simp only [Act.put, List.setIfInBounds_toArray, List.set_cons_zero, List.set_cons_succ])
      refine wpAnyH_take (i := 3) (oi := { dst := some 60, op := Op.load 3 (Operand.tmp 59), type := 3, pos := "law.go:101", after := #[{ on := 2, ground := Ground.data }], guard := none }) (v := ?_) rfl (by kernel_rfl) (by kernel_rfl) (by kernel_rfl) (fun _ _ _ h => h) (Or.inl ⟨by rfl, ?_⟩) (by assumption) ?_
      rotate_left
      · ((intro w hSw; obtain ⟨s0, s1, s2, s3, s4, s5⟩ := hSw; go_simp); try with_reducible rfl)
      (try simp only [Act.put, List.setIfInBounds_toArray, List.set_cons_zero, List.set_cons_succ])
      refine wpAnyH_take (i := 4) (oi := { dst := some 61, op := Op.binOp BinOp.and 3 (Operand.tmp 60) (Operand.const (Value.int IntKind.i64 65535)) 3, type := 3, pos := "law.go:101", after := #[{ on := 3, ground := Ground.data }], guard := none }) (v := ?_) rfl (by kernel_rfl) (by kernel_rfl) (by kernel_rfl) (fun _ _ _ h => h) (Or.inl ⟨by rfl, ?_⟩) (by assumption) ?_
      rotate_left
      · ((intro w hSw; (try dsimp only at hSw); go_simp; (try rw [if_neg (by omega)])); try with_reducible rfl)
      (try simp only [Act.put, List.setIfInBounds_toArray, List.set_cons_zero, List.set_cons_succ])
      refine wpAnyH_take (i := 5) (oi := { dst := some 62, op := Op.fieldAddr 24 (Operand.tmp 6) 3, type := 0, pos := "law.go:101", after := #[], guard := none }) (v := ?_) rfl (by kernel_rfl) (by kernel_rfl) (by kernel_rfl) (fun _ _ _ h => h) (Or.inl ⟨by rfl, ?_⟩) (by assumption) ?_
      rotate_left
      · ((intro w hSw; (try dsimp only at hSw); go_simp; (try rw [if_neg (by omega)])); try with_reducible rfl)
      (try simp only [Act.put, List.setIfInBounds_toArray, List.set_cons_zero, List.set_cons_succ])
      refine wpAnyH_take (i := 6) (oi := { dst := some 63, op := Op.load 3 (Operand.tmp 62), type := 3, pos := "law.go:101", after := #[{ on := 5, ground := Ground.data }], guard := none }) (v := ?_) rfl (by kernel_rfl) (by kernel_rfl) (by kernel_rfl) (fun _ _ _ h => h) (Or.inl ⟨by rfl, ?_⟩) (by assumption) ?_
      rotate_left
      · ((intro w hSw; obtain ⟨s0, s1, s2, s3, s4, s5⟩ := hSw; go_simp); try with_reducible rfl)
      (try simp only [Act.put, List.setIfInBounds_toArray, List.set_cons_zero, List.set_cons_succ])
      refine wpAnyH_take (i := 7) (oi := { dst := some 64, op := Op.fieldAddr 24 (Operand.tmp 6) 1, type := 0, pos := "law.go:101", after := #[], guard := none }) (v := ?_) rfl (by kernel_rfl) (by kernel_rfl) (by kernel_rfl) (fun _ _ _ h => h) (Or.inl ⟨by rfl, ?_⟩) (by assumption) ?_
      rotate_left
      · ((intro w hSw; (try dsimp only at hSw); go_simp; (try rw [if_neg (by omega)])); try with_reducible rfl)
      (try simp only [Act.put, List.setIfInBounds_toArray, List.set_cons_zero, List.set_cons_succ])
      refine wpAnyH_take (i := 8) (oi := { dst := some 65, op := Op.load 3 (Operand.tmp 64), type := 3, pos := "law.go:101", after := #[{ on := 7, ground := Ground.data }], guard := none }) (v := ?_) rfl (by kernel_rfl) (by kernel_rfl) (by kernel_rfl) (fun _ _ _ h => h) (Or.inl ⟨by rfl, ?_⟩) (by assumption) ?_
      rotate_left
      · ((intro w hSw; obtain ⟨s0, s1, s2, s3, s4, s5⟩ := hSw; go_simp); try with_reducible rfl)
      (try simp only [Act.put, List.setIfInBounds_toArray, List.set_cons_zero, List.set_cons_succ])
      refine wpAnyH_take (i := 9) (oi := { dst := some 66, op := Op.binOp BinOp.sub 3 (Operand.tmp 63) (Operand.tmp 65) 3, type := 3, pos := "law.go:101", after := #[{ on := 6, ground := Ground.data }, { on := 8, ground := Ground.data }], guard := none }) (v := ?_) rfl (by kernel_rfl) (by kernel_rfl) (by kernel_rfl) (fun _ _ _ h => h) (Or.inl ⟨by rfl, ?_⟩) (by assumption) ?_
      rotate_left
      · ((intro w hSw; (try dsimp only at hSw); go_simp; (try rw [if_neg (by omega)])); try with_reducible rfl)
      (try simp only [Act.put, List.setIfInBounds_toArray, List.set_cons_zero, List.set_cons_succ])
      refine wpAnyH_take (i := 10) (oi := { dst := some 67, op := Op.binOp BinOp.add 3 (Operand.tmp 66) (Operand.const (Value.int IntKind.i64 1)) 3, type := 3, pos := "law.go:101", after := #[{ on := 9, ground := Ground.data }], guard := none }) (v := ?_) rfl (by kernel_rfl) (by kernel_rfl) (by kernel_rfl) (fun _ _ _ h => h) (Or.inl ⟨by rfl, ?_⟩) (by assumption) ?_
      rotate_left
      · ((intro w hSw; (try dsimp only at hSw); go_simp; (try rw [if_neg (by omega)])); try with_reducible rfl)
      (try simp only [Act.put, List.setIfInBounds_toArray, List.set_cons_zero, List.set_cons_succ])
      refine wpAnyH_take (i := 11) (oi := { dst := some 68, op := Op.binOp BinOp.rem 3 (Operand.tmp 61) (Operand.tmp 67) 3, type := 3, pos := "law.go:101", after := #[{ on := 4, ground := Ground.data }, { on := 10, ground := Ground.data }], guard := none }) (v := ?_) rfl (by kernel_rfl) (by kernel_rfl) (by kernel_rfl) (fun _ _ _ h => h) (Or.inl ⟨by rfl, ?_⟩) (by assumption) ?_
      rotate_left
      · ((intro w hSw; (try dsimp only at hSw); go_simp; (try rw [if_neg (by omega)])); try with_reducible rfl)
      (try simp only [Act.put, List.setIfInBounds_toArray, List.set_cons_zero, List.set_cons_succ])
      refine wpAnyH_take (i := 12) (oi := { dst := some 69, op := Op.binOp BinOp.add 3 (Operand.tmp 58) (Operand.tmp 68) 3, type := 3, pos := "law.go:101", after := #[{ on := 1, ground := Ground.data }, { on := 11, ground := Ground.data }], guard := none }) (v := ?_) rfl (by kernel_rfl) (by kernel_rfl) (by kernel_rfl) (fun _ _ _ h => h) (Or.inl ⟨by rfl, ?_⟩) (by assumption) ?_
      rotate_left
      · ((intro w hSw; (try dsimp only at hSw); go_simp; (try rw [if_neg (by omega)])); try with_reducible rfl)
      (try simp only [Act.put, List.setIfInBounds_toArray, List.set_cons_zero, List.set_cons_succ])
      refine wpAnyH_done (by kernel_rfl) ?_ _
      show Oper.wp _ _ _ _ _ _
      go_simp
      obtain ⟨w13, hw13⟩ : ∃ w13, w13 = w12.drew := ⟨_, rfl⟩
      have hb13x : Below WX.heap.size WX w13 := by rw [hw13]; exact d12.drew
      rw [← hw13]
      clear y0 y1 y2 y3 y4 q0 q1 d12 hw13 wq1 wq2 wq3 wq4 wq5 wq6 wq7 hS10
      try simp only [wq8]
      have HB13 := Lib.hid hb13x
      obtain ⟨na, hna⟩ : ∃ r, AX.normal ⟨nm, lo, de, hi, P⟩ near = r := ⟨_, rfl⟩
      obtain ⟨nb, hnbb⟩ : ∃ r, AX.normal ⟨nm, lo, de, hi, P⟩ (near + 1) = r := ⟨_, rfl⟩
      have HNA := Lib.hid hna
      have HNB := Lib.hid hnbb
      have HDE : Hid (AX.normal ⟨nm, lo, de, hi, P⟩ de = 0) := Lib.hid (AX.normal_de HCK.out)
      have hle2 := AX.normal_mono HCK.out (u := near) (v := near + 1) (by omega)
      rw [hna, hnbb] at hle2
      have wq9 : IntKind.i64.wrap (near + 1) = near + 1 := by rw [IntKind.wrap_i64]; omega
      clear hb13x hs' ht hsb htb hnear hna hnbb wq8
      go_wp2_with fail
      go_loopw [13] (fun v13 wr => ∃ k : Nat, v13 = .int .i64 (k : Int) ∧ k + 1 ≤ pn ∧ Below WX.heap.size WX wr) (fun v _ => pn - (intOf v).toNat)
      case atStart => exact ⟨0, rfl, hpn5.1, HB13.out⟩
      case round =>
        obtain ⟨k, rfl, hk2, hb⟩ := hrel
        obtain ⟨wo, hwo⟩ : ∃ wo, wo = wr := ⟨_, rfl⟩
        subst hwo
        have HBK := Lib.hid hb
        obtain ⟨x0, x1, x2, x3, x4⟩ := HSA.out wo hb
        by_cases hkp2 : k + 1 < pn
        · have hkk : (k : Int) + 1 < (pn : Int) := by omega
          have hkk2 : (k : Int) < (pn : Int) := by omega
          have hk0 : (0 : Int) ≤ (k : Int) := by omega
          have hk1 : (0 : Int) ≤ (k : Int) + 1 := by omega
          obtain ⟨p, hp⟩ : ∃ p, P[k]? = some p := ⟨P[k]'(by rw [HPN0.out]; omega), List.getElem?_eq_getElem _⟩
          obtain ⟨q, hq⟩ : ∃ q, P[k + 1]? = some q := ⟨P[k + 1]'(by rw [HPN0.out]; omega), List.getElem?_eq_getElem _⟩
          obtain ⟨a', c', e1, hcw⟩ := HPM.out WX (Below.refl _ _)
          rw [HPN0.out] at e1
          injection e1 with e1 e2 e3
          subst e1 e3
          rcases hcw with h | ⟨g, o, rfl, hg, hcl⟩
          · rw [h] at hp
            simp at hp
          obtain ⟨z0, z1⟩ := hcl k p hp
          obtain ⟨z2, z3⟩ := hcl (k + 1) q hq
          have HWK : Hid (IntKind.i64.wrap ((k : Int) + 1) = (k : Int) + 1 ∧ ((k : Int) + 1).toNat = k + 1) := Lib.hid ⟨by rw [IntKind.wrap_i64]; omega, by omega⟩
          have HS15 : Hid (∀ V, Below WX.heap.size WX V → (fun w' => w'.cell? ⟨X, 0, none⟩ = some (.string nm) ∧ w'.cell? ⟨X, 1, none⟩ = some (.int .i64 lo) ∧ w'.cell? ⟨X, 2, none⟩ = some (.int .i64 de) ∧ w'.cell? ⟨X, 3, none⟩ = some (.int .i64 hi) ∧ w'.cell? ⟨X, 4, none⟩ = some (.slice (some ⟨g, o, none⟩) pn mc) ∧ w'.cell? ⟨g, o + k * 2, none⟩ = some (.int .i64 p.1) ∧ w'.cell? ⟨g, o + k * 2 + 1, none⟩ = some (.int .i64 p.2) ∧ w'.cell? ⟨g, o + (k + 1) * 2, none⟩ = some (.int .i64 q.1) ∧ w'.cell? ⟨g, o + (k + 1) * 2 + 1, none⟩ = some (.int .i64 q.2)) V) := Lib.hid fun V hV => by
            obtain ⟨y0, y1, y2, y3, y4⟩ := HSA.out V hV
            exact ⟨y0, y1, y2, y3, y4, (hV.cell (p := ⟨g, o + k * 2, none⟩) hg).trans z0, (hV.cell (p := ⟨g, o + k * 2 + 1, none⟩) hg).trans z1, (hV.cell (p := ⟨g, o + (k + 1) * 2, none⟩) hg).trans z2, (hV.cell (p := ⟨g, o + (k + 1) * 2 + 1, none⟩) hg).trans z3⟩
          obtain ⟨-, -, -, -, -, c0, c1, c2, c3⟩ := HS15.out wo hb
          have HPK := Lib.hid hp
          have HQK := Lib.hid hq
          clear hcl hp hq z0 z1 z2 z3 hb
          by_cases ha : p.1 ≤ near
          · by_cases hbq : near ≤ q.1
            · obtain ⟨nn, hli, hnn, hn1, hn2⟩ := AX.normal_seg HCK.out (k := k) (p := p) (q := q) HPK.out HQK.out ha hbq
              have HLI := Lib.hid hli
              have HNN := Lib.hid hnn
              have hnl1 : ¬ (nn < p.2) := by omega
              have hnl2 : ¬ (q.2 < nn) := by omega
              have hneq : (nn != nn) = false := by simp
              clear hli hnn
              go_upto_region 15 with fail
              obtain ⟨wk, wkt⟩ := HWK.out
              refine wp_region_held_drew (S := fun w' => w'.cell? ⟨X, 0, none⟩ = some (.string nm) ∧ w'.cell? ⟨X, 1, none⟩ = some (.int .i64 lo) ∧ w'.cell? ⟨X, 2, none⟩ = some (.int .i64 de) ∧ w'.cell? ⟨X, 3, none⟩ = some (.int .i64 hi) ∧ w'.cell? ⟨X, 4, none⟩ = some (.slice (some ⟨g, o, none⟩) pn mc) ∧ w'.cell? ⟨g, o + k * 2, none⟩ = some (.int .i64 p.1) ∧ w'.cell? ⟨g, o + k * 2 + 1, none⟩ = some (.int .i64 p.2) ∧ w'.cell? ⟨g, o + (k + 1) * 2, none⟩ = some (.int .i64 q.1) ∧ w'.cell? ⟨g, o + (k + 1) * 2 + 1, none⟩ = some (.int .i64 q.2)) (by kernel_rfl) ?_ (fun hHeld => ?_)
              · first | exact HS15.out _ d20 | exact HS15.out _ (bnext HBK.out (Below.drew (Below.refl _ wo)))
              refine wpAnyH_take (i := 0) (oi := { dst := some 98, op := Op.move (Operand.tmp 12), type := 3, pos := "law.go:104", after := #[], guard := none }) (v := ?_) rfl (by kernel_rfl) (by kernel_rfl) (by kernel_rfl) (fun _ _ _ h => h) (Or.inl ⟨by rfl, ?_⟩) (by assumption) ?_
              rotate_left
              · ((intro w hSw; (try dsimp only at hSw); go_simp; (try rw [if_neg (by omega)])); try with_reducible rfl)
              (try simp only [Act.put, List.setIfInBounds_toArray, List.set_cons_zero, List.set_cons_succ])
              refine wpAnyH_take (i := 1) (oi := { dst := some 99, op := Op.fieldAddr 24 (Operand.tmp 6) 4, type := 0, pos := "law.go:104", after := #[], guard := none }) (v := ?_) rfl (by kernel_rfl) (by kernel_rfl) (by kernel_rfl) (fun _ _ _ h => h) (Or.inl ⟨by rfl, ?_⟩) (by assumption) ?_
              rotate_left
              · ((intro w hSw; (try dsimp only at hSw); go_simp; (try rw [if_neg (by omega)])); try with_reducible rfl)
              (try simp only [Act.put, List.setIfInBounds_toArray, List.set_cons_zero, List.set_cons_succ])
              refine wpAnyH_take (i := 2) (oi := { dst := some 100, op := Op.load 22 (Operand.tmp 99), type := 22, pos := "law.go:104", after := #[{ on := 1, ground := Ground.data }], guard := none }) (v := ?_) rfl (by kernel_rfl) (by kernel_rfl) (by kernel_rfl) (fun _ _ _ h => h) (Or.inl ⟨by rfl, ?_⟩) (by assumption) ?_
              rotate_left
              · ((intro w hSw; (try dsimp only at hSw); go_simp; (try rw [if_neg (by omega)])); try with_reducible rfl)
              (try simp only [Act.put, List.setIfInBounds_toArray, List.set_cons_zero, List.set_cons_succ])
              refine wpAnyH_take (i := 3) (oi := { dst := some 101, op := Op.move (Operand.tmp 13), type := 3, pos := "law.go:104", after := #[], guard := none }) (v := ?_) rfl (by kernel_rfl) (by kernel_rfl) (by kernel_rfl) (fun _ _ _ h => h) (Or.inl ⟨by rfl, ?_⟩) (by assumption) ?_
              rotate_left
              · ((intro w hSw; (try dsimp only at hSw); go_simp; (try rw [if_neg (by omega)])); try with_reducible rfl)
              (try simp only [Act.put, List.setIfInBounds_toArray, List.set_cons_zero, List.set_cons_succ])
              refine wpAnyH_take (i := 4) (oi := { dst := some 102, op := Op.indexAddr 22 (Operand.tmp 100) (Operand.tmp 101), type := 0, pos := "law.go:104", after := #[{ on := 2, ground := Ground.data }, { on := 3, ground := Ground.data }], guard := none }) (v := ?_) rfl (by kernel_rfl) (by kernel_rfl) (by kernel_rfl) (fun _ _ _ h => h) (Or.inl ⟨by rfl, ?_⟩) (by assumption) ?_
              rotate_left
              · ((intro w hSw; (try dsimp only at hSw); go_simp; (try rw [if_neg (by omega)])); try with_reducible rfl)
              (try simp only [Act.put, List.setIfInBounds_toArray, List.set_cons_zero, List.set_cons_succ])
              refine wpAnyH_take (i := 5) (oi := { dst := some 103, op := Op.load 30 (Operand.tmp 102), type := 30, pos := "law.go:104", after := #[{ on := 4, ground := Ground.data }], guard := none }) (v := ?_) rfl (by kernel_rfl) (by kernel_rfl) (by kernel_rfl) (fun _ _ _ h => h) (Or.inl ⟨by rfl, ?_⟩) (by assumption) ?_
              rotate_left
              · ((intro w hSw; (try dsimp only at hSw); go_simp; (try rw [if_neg (by omega)])); try with_reducible rfl)
              (try simp only [Act.put, List.setIfInBounds_toArray, List.set_cons_zero, List.set_cons_succ])
              refine wpAnyH_take (i := 6) (oi := { dst := some 104, op := Op.fieldAddr 24 (Operand.tmp 6) 4, type := 0, pos := "law.go:104", after := #[], guard := none }) (v := ?_) rfl (by kernel_rfl) (by kernel_rfl) (by kernel_rfl) (fun _ _ _ h => h) (Or.inl ⟨by rfl, ?_⟩) (by assumption) ?_
              rotate_left
              · ((intro w hSw; (try dsimp only at hSw); go_simp; (try rw [if_neg (by omega)])); try with_reducible rfl)
              (try simp only [Act.put, List.setIfInBounds_toArray, List.set_cons_zero, List.set_cons_succ])
              refine wpAnyH_take (i := 7) (oi := { dst := some 105, op := Op.load 22 (Operand.tmp 104), type := 22, pos := "law.go:104", after := #[{ on := 6, ground := Ground.data }], guard := none }) (v := ?_) rfl (by kernel_rfl) (by kernel_rfl) (by kernel_rfl) (fun _ _ _ h => h) (Or.inl ⟨by rfl, ?_⟩) (by assumption) ?_
              rotate_left
              · ((intro w hSw; (try dsimp only at hSw); go_simp; (try rw [if_neg (by omega)])); try with_reducible rfl)
              (try simp only [Act.put, List.setIfInBounds_toArray, List.set_cons_zero, List.set_cons_succ])
              refine wpAnyH_take (i := 8) (oi := { dst := some 106, op := Op.move (Operand.tmp 13), type := 3, pos := "law.go:104", after := #[], guard := none }) (v := ?_) rfl (by kernel_rfl) (by kernel_rfl) (by kernel_rfl) (fun _ _ _ h => h) (Or.inl ⟨by rfl, ?_⟩) (by assumption) ?_
              rotate_left
              · ((intro w hSw; (try dsimp only at hSw); go_simp; (try rw [if_neg (by omega)])); try with_reducible rfl)
              (try simp only [Act.put, List.setIfInBounds_toArray, List.set_cons_zero, List.set_cons_succ])
              refine wpAnyH_take (i := 9) (oi := { dst := some 107, op := Op.binOp BinOp.add 3 (Operand.tmp 106) (Operand.const (Value.int IntKind.i64 1)) 3, type := 3, pos := "law.go:104", after := #[{ on := 8, ground := Ground.data }], guard := none }) (v := ?_) rfl (by kernel_rfl) (by kernel_rfl) (by kernel_rfl) (fun _ _ _ h => h) (Or.inl ⟨by rfl, ?_⟩) (by assumption) ?_
              rotate_left
              · ((intro w hSw; (try dsimp only at hSw); go_simp; (try rw [if_neg (by omega)])); try with_reducible rfl)
              (try simp only [Act.put, List.setIfInBounds_toArray, List.set_cons_zero, List.set_cons_succ])
              refine wpAnyH_take (i := 10) (oi := { dst := some 108, op := Op.indexAddr 22 (Operand.tmp 105) (Operand.tmp 107), type := 0, pos := "law.go:104", after := #[{ on := 7, ground := Ground.data }, { on := 9, ground := Ground.data }], guard := none }) (v := ?_) rfl (by kernel_rfl) (by kernel_rfl) (by kernel_rfl) (fun _ _ _ h => h) (Or.inl ⟨by rfl, ?_⟩) (by assumption) ?_
              rotate_left
              · ((intro w hSw; (try dsimp only at hSw); go_simp; (try rw [if_neg (by omega)])); try with_reducible rfl)
              (try simp only [Act.put, List.setIfInBounds_toArray, List.set_cons_zero, List.set_cons_succ])
              refine wpAnyH_take (i := 11) (oi := { dst := some 109, op := Op.load 30 (Operand.tmp 108), type := 30, pos := "law.go:104", after := #[{ on := 10, ground := Ground.data }], guard := none }) (v := ?_) rfl (by kernel_rfl) (by kernel_rfl) (by kernel_rfl) (fun _ _ _ h => h) (Or.inl ⟨by rfl, ?_⟩) (by assumption) ?_
              rotate_left
              · ((intro w hSw; (try dsimp only at hSw); go_simp; (try rw [if_neg (by omega)])); try with_reducible rfl)
              (try simp only [Act.put, List.setIfInBounds_toArray, List.set_cons_zero, List.set_cons_succ])
              refine wpAnyH_ready (rs := [12]) (by kernel_rfl) (by simp) ?_
              refine AllReadyH.cons (o := { dst := some 110, op := Op.call { callee := Callee.value (Operand.func 18), args := #[Operand.tmp 98, Operand.tmp 103, Operand.tmp 109], argTypes := #[3, 30, 30] }, type := 36, pos := "law.go:104", after := #[{ on := 0, ground := Ground.data }, { on := 5, ground := Ground.data }, { on := 11, ground := Ground.data }], guard := none }) rfl (fun K hK => ?_) ?_
              · go_simp
                go_at_call 18
                refine (line_c HLI.out _).mono ?_
                rintro e w20 ⟨rfl, hb20⟩
                have d20 := bnext (bnext HBK.out (Below.drew (Below.refl _ wo))) hb20
                dsimp only
                refine hK.out _ _ ?_ (fun hHeld => ?_)
                · first | exact HS15.out _ d20 | exact HS15.out _ (bnext HBK.out (Below.drew (Below.refl _ wo)))
                clear hK K
                (try simp only [Act.put, List.setIfInBounds_toArray, List.set_cons_zero, List.set_cons_succ])
                refine wpAnyH_take (i := 13) (oi := { dst := some 97, op := Op.move (Operand.tmp 110), type := 36, pos := "law.go:104", after := #[{ on := 12, ground := Ground.data }], guard := none }) (v := ?_) rfl (by kernel_rfl) (by kernel_rfl) (by kernel_rfl) (fun _ _ _ h => h) (Or.inl ⟨by rfl, ?_⟩) (by assumption) ?_
                rotate_left
                · ((intro w hSw; (try dsimp only at hSw); go_simp; (try rw [if_neg (by omega)])); try with_reducible rfl)
                (try simp only [Act.put, List.setIfInBounds_toArray, List.set_cons_zero, List.set_cons_succ])
                refine wpAnyH_take (i := 14) (oi := { dst := some 111, op := Op.extract (Operand.tmp 97) 0, type := 3, pos := "law.go:104", after := #[{ on := 13, ground := Ground.data }], guard := none }) (v := ?_) rfl (by kernel_rfl) (by kernel_rfl) (by kernel_rfl) (fun _ _ _ h => h) (Or.inl ⟨by rfl, ?_⟩) (by assumption) ?_
                rotate_left
                · ((intro w hSw; (try dsimp only at hSw); go_simp; (try rw [if_neg (by omega)])); try with_reducible rfl)
                (try simp only [Act.put, List.setIfInBounds_toArray, List.set_cons_zero, List.set_cons_succ])
                refine wpAnyH_take (i := 15) (oi := { dst := some 112, op := Op.extract (Operand.tmp 97) 1, type := 4, pos := "law.go:104", after := #[{ on := 13, ground := Ground.data }, { on := 16, ground := Ground.gcOnly Departure.lateStores }], guard := none }) (v := ?_) rfl (by kernel_rfl) (by kernel_rfl) (by kernel_rfl) (fun _ _ _ h => h) (Or.inl ⟨by rfl, ?_⟩) (by assumption) ?_
                rotate_left
                · ((intro w hSw; (try dsimp only at hSw); go_simp; (try rw [if_neg (by omega)])); try with_reducible rfl)
                (try simp only [Act.put, List.setIfInBounds_toArray, List.set_cons_zero, List.set_cons_succ])
                refine wpAnyH_take (i := 16) (oi := { dst := some 14, op := Op.assign (Operand.tmp 111), type := 3, pos := "law.go:104", after := #[{ on := 14, ground := Ground.data }, { on := 12, ground := Ground.chain }, { on := 0, ground := Ground.phase }, { on := 1, ground := Ground.phase }, { on := 2, ground := Ground.phase }, { on := 3, ground := Ground.phase }, { on := 4, ground := Ground.phase }, { on := 5, ground := Ground.phase }, { on := 6, ground := Ground.phase }, { on := 7, ground := Ground.phase }, { on := 8, ground := Ground.phase }, { on := 9, ground := Ground.phase }, { on := 10, ground := Ground.phase }, { on := 11, ground := Ground.phase }, { on := 12, ground := Ground.phase }, { on := 13, ground := Ground.phase }, { on := 14, ground := Ground.phase }, { on := 15, ground := Ground.textOnly Departure.lateStores }], guard := none }) (v := ?_) rfl (by kernel_rfl) (by kernel_rfl) (by kernel_rfl) (fun _ _ _ h => h) (Or.inl ⟨by rfl, ?_⟩) (by assumption) ?_
                rotate_left
                · ((intro w hSw; (try dsimp only at hSw); go_simp; (try rw [if_neg (by omega)])); try with_reducible rfl)
                (try simp only [Act.put, List.setIfInBounds_toArray, List.set_cons_zero, List.set_cons_succ])
                refine wpAnyH_take (i := 17) (oi := { dst := some 15, op := Op.assign (Operand.tmp 112), type := 4, pos := "law.go:104", after := #[{ on := 15, ground := Ground.data }, { on := 16, ground := Ground.chain }, { on := 0, ground := Ground.phase }, { on := 1, ground := Ground.phase }, { on := 2, ground := Ground.phase }, { on := 3, ground := Ground.phase }, { on := 4, ground := Ground.phase }, { on := 5, ground := Ground.phase }, { on := 6, ground := Ground.phase }, { on := 7, ground := Ground.phase }, { on := 8, ground := Ground.phase }, { on := 9, ground := Ground.phase }, { on := 10, ground := Ground.phase }, { on := 11, ground := Ground.phase }, { on := 12, ground := Ground.phase }, { on := 13, ground := Ground.phase }, { on := 14, ground := Ground.phase }, { on := 15, ground := Ground.phase }, { on := 16, ground := Ground.phase }], guard := none }) (v := ?_) rfl (by kernel_rfl) (by kernel_rfl) (by kernel_rfl) (fun _ _ _ h => h) (Or.inl ⟨by rfl, ?_⟩) (by assumption) ?_
                rotate_left
                · ((intro w hSw; (try dsimp only at hSw); go_simp; (try rw [if_neg (by omega)])); try with_reducible rfl)
                (try simp only [Act.put, List.setIfInBounds_toArray, List.set_cons_zero, List.set_cons_succ])
                refine wpAnyH_done (by kernel_rfl) ?_ _
                go_simp
                obtain ⟨x0, x1, x2, x3, x4, c0, c1, c2, c3⟩ := HS15.out w20 d20
                clear wk wkt
                have HD20 := Lib.hid d20
                go_wp2_with fail
                refine (HNC.out near nn _ HNN.out HD20.out).mono ?_
                rintro e w21 ⟨rfl, hb21⟩
                have HD21 := Lib.hid (bnext HD20.out hb21)
                obtain ⟨x0, x1, x2, x3, x4, c0, c1, c2, c3⟩ := HS15.out w21 HD21.out
                clear hb21
                go_wp2_with fail
                go_roundw
                case rel => exact ⟨k + 1, by go_num, hkp2, HD21.out⟩
                case measure => simp [intOf]; omega
              exact AllReadyH.nil
            · go_wp2_with fail
              go_roundw
              case rel => exact ⟨k + 1, by go_num, hkp2, HBK.out⟩
              case measure => simp [intOf]; omega
          · go_wp2_with fail
            go_roundw
            case rel => exact ⟨k + 1, by go_num, hkp2, HBK.out⟩
            case measure => simp [intOf]; omega
        · have hkk : ¬ ((k : Int) + 1 < (pn : Int)) := by omega
          clear hb
          go_upto_region 18 with fail
          refine wp_region_held_drew (S := fun w' => w'.cell? ⟨X, 0, none⟩ = some (.string nm) ∧ w'.cell? ⟨X, 1, none⟩ = some (.int .i64 lo) ∧ w'.cell? ⟨X, 2, none⟩ = some (.int .i64 de) ∧ w'.cell? ⟨X, 3, none⟩ = some (.int .i64 hi) ∧ w'.cell? ⟨X, 4, none⟩ = some (.slice ma pn mc)) (by kernel_rfl) ?_ (fun hHeld => ?_)
          · first | exact HSA.out _ d35 | exact HSA.out _ d34 | exact HSA.out _ d33 | exact HSA.out _ (bnext HBK.out (Below.drew (Below.refl _ wo)))
          refine wpAnyH_take (i := 0) (oi := { dst := some 143, op := Op.move (Operand.tmp 5), type := 4, pos := "law.go:110", after := #[], guard := none }) (v := ?_) rfl (by kernel_rfl) (by kernel_rfl) (by kernel_rfl) (fun _ _ _ h => h) (Or.inl ⟨by rfl, ?_⟩) (by assumption) ?_
          rotate_left
          · ((intro w hSw; (try dsimp only at hSw); go_simp; (try rw [if_neg (by omega)])); try with_reducible rfl)
          (try simp only [Act.put, List.setIfInBounds_toArray, List.set_cons_zero, List.set_cons_succ])
          refine wpAnyH_take (i := 1) (oi := { dst := some 144, op := Op.move (Operand.tmp 143), type := 4, pos := "law.go:110", after := #[{ on := 0, ground := Ground.data }], guard := none }) (v := ?_) rfl (by kernel_rfl) (by kernel_rfl) (by kernel_rfl) (fun _ _ _ h => h) (Or.inl ⟨by rfl, ?_⟩) (by assumption) ?_
          rotate_left
          · ((intro w hSw; (try dsimp only at hSw); go_simp; (try rw [if_neg (by omega)])); try with_reducible rfl)
          (try simp only [Act.put, List.setIfInBounds_toArray, List.set_cons_zero, List.set_cons_succ])
          refine wpAnyH_take (i := 2) (oi := { dst := some 145, op := Op.move (Operand.tmp 10), type := 3, pos := "law.go:110", after := #[{ on := 1, ground := Ground.guard }], guard := some (1, true) }) (v := ?_) rfl (by kernel_rfl) (by kernel_rfl) (by kernel_rfl) (fun _ _ _ h => h) (Or.inl ⟨by rfl, ?_⟩) (by assumption) ?_
          rotate_left
          · ((intro w hSw; (try dsimp only at hSw); go_simp; (try rw [if_neg (by omega)])); try with_reducible rfl)
          (try simp only [Act.put, List.setIfInBounds_toArray, List.set_cons_zero, List.set_cons_succ])
          refine wpAnyH_take (i := 3) (oi := { dst := some 146, op := Op.move (Operand.tmp 11), type := 3, pos := "law.go:110", after := #[{ on := 1, ground := Ground.guard }], guard := some (1, true) }) (v := ?_) rfl (by kernel_rfl) (by kernel_rfl) (by kernel_rfl) (fun _ _ _ h => h) (Or.inl ⟨by rfl, ?_⟩) (by assumption) ?_
          rotate_left
          · ((intro w hSw; (try dsimp only at hSw); go_simp; (try rw [if_neg (by omega)])); try with_reducible rfl)
          (try simp only [Act.put, List.setIfInBounds_toArray, List.set_cons_zero, List.set_cons_succ])
          refine wpAnyH_take (i := 4) (oi := { dst := some 147, op := Op.binOp BinOp.leq 3 (Operand.tmp 145) (Operand.tmp 146) 3, type := 4, pos := "law.go:110", after := #[{ on := 2, ground := Ground.data }, { on := 3, ground := Ground.data }, { on := 1, ground := Ground.guard }], guard := some (1, true) }) (v := ?_) rfl (by kernel_rfl) (by kernel_rfl) (by kernel_rfl) (fun _ _ _ h => h) (Or.inl ⟨by rfl, ?_⟩) (by assumption) ?_
          rotate_left
          · ((intro w hSw; (try dsimp only at hSw); go_simp; (try rw [if_neg (by omega)])); try with_reducible rfl)
          (try simp only [Act.put, List.setIfInBounds_toArray, List.set_cons_zero, List.set_cons_succ])
          refine wpAnyH_take (i := 5) (oi := { dst := some 148, op := Op.pick (Operand.tmp 144) (Operand.tmp 147) (Operand.const (Value.bool false)), type := 4, pos := "law.go:110", after := #[{ on := 1, ground := Ground.data }, { on := 4, ground := Ground.data }], guard := none }) (v := ?_) rfl (by kernel_rfl) (by kernel_rfl) (by kernel_rfl) (fun _ _ _ h => h) (Or.inl ⟨by rfl, ?_⟩) (by assumption) ?_
          rotate_left
          · ((intro w hSw; (try dsimp only at hSw); go_simp; (try rw [if_neg (by omega)])); try with_reducible rfl)
          (try simp only [Act.put, List.setIfInBounds_toArray, List.set_cons_zero, List.set_cons_succ])
          refine wpAnyH_take (i := 6) (oi := { dst := some 149, op := Op.move (Operand.tmp 148), type := 4, pos := "law.go:110", after := #[{ on := 5, ground := Ground.data }, { on := 1, ground := Ground.chain }], guard := none }) (v := ?_) rfl (by kernel_rfl) (by kernel_rfl) (by kernel_rfl) (fun _ _ _ h => h) (Or.inl ⟨by rfl, ?_⟩) (by assumption) ?_
          rotate_left
          · ((intro w hSw; (try dsimp only at hSw); go_simp; (try rw [if_neg (by omega)])); try with_reducible rfl)
          (try simp only [Act.put, List.setIfInBounds_toArray, List.set_cons_zero, List.set_cons_succ])
          refine wpAnyH_take (i := 7) (oi := { dst := some 150, op := Op.move (Operand.tmp 10), type := 3, pos := "law.go:110", after := #[{ on := 6, ground := Ground.guard }], guard := some (6, true) }) (v := ?_) rfl (by kernel_rfl) (by kernel_rfl) (by kernel_rfl) (fun _ _ _ h => h) (Or.inl ⟨by rfl, ?_⟩) (by assumption) ?_
          rotate_left
          · ((intro w hSw; (try dsimp only at hSw); go_simp; (try rw [if_neg (by omega)])); try with_reducible rfl)
          (try simp only [Act.put, List.setIfInBounds_toArray, List.set_cons_zero, List.set_cons_succ])
          refine wpAnyH_ready (rs := [8]) (by kernel_rfl) (by simp) ?_
          refine AllReadyH.cons (o := { dst := some 151, op := Op.call { callee := Callee.value (Operand.func 19), args := #[Operand.tmp 150], argTypes := #[3] }, type := 4, pos := "law.go:110", after := #[{ on := 7, ground := Ground.data }, { on := 6, ground := Ground.chain }, { on := 6, ground := Ground.guard }], guard := some (6, true) }) rfl (fun K hK => ?_) ?_
          · go_simp
            go_at_call 19
            refine (rcoord_c HCX.out _).mono ?_
            rintro e w31 ⟨rfl, he⟩
            have he' := he.symm
            subst he'
            dsimp only
            refine hK.out _ _ ?_ (fun hHeld => ?_)
            · first | exact HSA.out _ d35 | exact HSA.out _ d34 | exact HSA.out _ d33 | exact HSA.out _ (bnext HBK.out (Below.drew (Below.refl _ wo)))
            clear hK K
            (try simp only [Act.put, List.setIfInBounds_toArray, List.set_cons_zero, List.set_cons_succ])
            refine wpAnyH_take (i := 9) (oi := { dst := some 152, op := Op.pick (Operand.tmp 149) (Operand.tmp 151) (Operand.const (Value.bool false)), type := 4, pos := "law.go:110", after := #[{ on := 6, ground := Ground.data }, { on := 8, ground := Ground.data }], guard := none }) (v := ?_) rfl (by kernel_rfl) (by kernel_rfl) (by kernel_rfl) (fun _ _ _ h => h) (Or.inl ⟨by rfl, ?_⟩) (by assumption) ?_
            rotate_left
            · ((intro w hSw; (try dsimp only at hSw); go_simp; (try rw [if_neg (by omega)])); try with_reducible rfl)
            (try simp only [Act.put, List.setIfInBounds_toArray, List.set_cons_zero, List.set_cons_succ])
            refine wpAnyH_take (i := 10) (oi := { dst := some 153, op := Op.move (Operand.tmp 152), type := 4, pos := "law.go:110", after := #[{ on := 9, ground := Ground.data }, { on := 8, ground := Ground.chain }], guard := none }) (v := ?_) rfl (by kernel_rfl) (by kernel_rfl) (by kernel_rfl) (fun _ _ _ h => h) (Or.inl ⟨by rfl, ?_⟩) (by assumption) ?_
            rotate_left
            · ((intro w hSw; (try dsimp only at hSw); go_simp; (try rw [if_neg (by omega)])); try with_reducible rfl)
            (try simp only [Act.put, List.setIfInBounds_toArray, List.set_cons_zero, List.set_cons_succ])
            refine wpAnyH_take (i := 11) (oi := { dst := some 154, op := Op.move (Operand.tmp 11), type := 3, pos := "law.go:110", after := #[{ on := 10, ground := Ground.guard }], guard := some (10, true) }) (v := ?_) rfl (by kernel_rfl) (by kernel_rfl) (by kernel_rfl) (fun _ _ _ h => h) (Or.inl ⟨by rfl, ?_⟩) (by assumption) ?_
            rotate_left
            · ((intro w hSw; (try dsimp only at hSw); go_simp; (try rw [if_neg (by omega)])); try with_reducible rfl)
            (try simp only [Act.put, List.setIfInBounds_toArray, List.set_cons_zero, List.set_cons_succ])
            refine wpAnyH_ready (rs := [12]) (by kernel_rfl) (by simp) ?_
            refine AllReadyH.cons (o := { dst := some 155, op := Op.call { callee := Callee.value (Operand.func 19), args := #[Operand.tmp 154], argTypes := #[3] }, type := 4, pos := "law.go:110", after := #[{ on := 11, ground := Ground.data }, { on := 10, ground := Ground.chain }, { on := 10, ground := Ground.guard }], guard := some (10, true) }) rfl (fun K hK => ?_) ?_
            · go_simp
              go_at_call 19
              refine (rcoord_c HCY.out _).mono ?_
              rintro e w32 ⟨rfl, he⟩
              have he' := he.symm
              subst he'
              dsimp only
              refine hK.out _ _ ?_ (fun hHeld => ?_)
              · first | exact HSA.out _ d35 | exact HSA.out _ d34 | exact HSA.out _ d33 | exact HSA.out _ (bnext HBK.out (Below.drew (Below.refl _ wo)))
              clear hK K
              (try simp only [Act.put, List.setIfInBounds_toArray, List.set_cons_zero, List.set_cons_succ])
              refine wpAnyH_take (i := 13) (oi := { dst := some 156, op := Op.pick (Operand.tmp 153) (Operand.tmp 155) (Operand.const (Value.bool false)), type := 4, pos := "law.go:110", after := #[{ on := 10, ground := Ground.data }, { on := 12, ground := Ground.data }], guard := none }) (v := ?_) rfl (by kernel_rfl) (by kernel_rfl) (by kernel_rfl) (fun _ _ _ h => h) (Or.inl ⟨by rfl, ?_⟩) (by assumption) ?_
              rotate_left
              · ((intro w hSw; (try dsimp only at hSw); go_simp; (try rw [if_neg (by omega)])); try with_reducible rfl)
              (try simp only [Act.put, List.setIfInBounds_toArray, List.set_cons_zero, List.set_cons_succ])
              refine wpAnyH_take (i := 14) (oi := { dst := some 157, op := Op.move (Operand.tmp 156), type := 4, pos := "law.go:110", after := #[{ on := 13, ground := Ground.data }, { on := 12, ground := Ground.chain }], guard := none }) (v := ?_) rfl (by kernel_rfl) (by kernel_rfl) (by kernel_rfl) (fun _ _ _ h => h) (Or.inl ⟨by rfl, ?_⟩) (by assumption) ?_
              rotate_left
              · ((intro w hSw; (try dsimp only at hSw); go_simp; (try rw [if_neg (by omega)])); try with_reducible rfl)
              (try simp only [Act.put, List.setIfInBounds_toArray, List.set_cons_zero, List.set_cons_succ])
              refine wpAnyH_take (i := 15) (oi := { dst := some 158, op := Op.load 24 (Operand.tmp 6), type := 24, pos := "law.go:110", after := #[{ on := 14, ground := Ground.guard }], guard := some (14, true) }) (v := ?_) rfl (by kernel_rfl) (by kernel_rfl) (by kernel_rfl) (fun _ _ _ h => h) (Or.inl ⟨by rfl, ?_⟩) (by assumption) ?_
              rotate_left
              · ((intro w hSw; (try dsimp only at hSw); go_simp; (try rw [if_neg (by omega)])); try with_reducible rfl)
              (try simp only [Act.put, List.setIfInBounds_toArray, List.set_cons_zero, List.set_cons_succ])
              refine wpAnyH_take (i := 16) (oi := { dst := some 159, op := Op.fieldAddr 24 (Operand.tmp 6) 2, type := 0, pos := "law.go:110", after := #[{ on := 14, ground := Ground.guard }], guard := some (14, true) }) (v := ?_) rfl (by kernel_rfl) (by kernel_rfl) (by kernel_rfl) (fun _ _ _ h => h) (Or.inl ⟨by rfl, ?_⟩) (by assumption) ?_
              rotate_left
              · ((intro w hSw; (try dsimp only at hSw); go_simp; (try rw [if_neg (by omega)])); try with_reducible rfl)
              (try simp only [Act.put, List.setIfInBounds_toArray, List.set_cons_zero, List.set_cons_succ])
              refine wpAnyH_take (i := 17) (oi := { dst := some 160, op := Op.load 3 (Operand.tmp 159), type := 3, pos := "law.go:110", after := #[{ on := 16, ground := Ground.data }, { on := 14, ground := Ground.guard }], guard := some (14, true) }) (v := ?_) rfl (by kernel_rfl) (by kernel_rfl) (by kernel_rfl) (fun _ _ _ h => h) (Or.inl ⟨by rfl, ?_⟩) (by assumption) ?_
              rotate_left
              · ((intro w hSw; (try dsimp only at hSw); go_simp; (try rw [if_neg (by omega)])); try with_reducible rfl)
              (try simp only [Act.put, List.setIfInBounds_toArray, List.set_cons_zero, List.set_cons_succ])
              refine wpAnyH_ready (rs := [18]) (by kernel_rfl) (by simp) ?_
              refine AllReadyH.cons (o := { dst := some 161, op := Op.call { callee := Callee.value (Operand.func 16), args := #[Operand.tmp 158, Operand.tmp 160], argTypes := #[24, 3] }, type := 3, pos := "law.go:110", after := #[{ on := 15, ground := Ground.data }, { on := 17, ground := Ground.data }, { on := 14, ground := Ground.chain }, { on := 14, ground := Ground.guard }], guard := some (14, true) }) rfl (fun K hK => ?_) ?_
              · go_simp
                go_at_call 16
                refine (HNC.out de 0 _ HDE.out (bnext HBK.out (Below.drew (Below.refl _ wo)))).mono ?_
                rintro e w33 ⟨rfl, hb33⟩
                have d33 := bnext (bnext HBK.out (Below.drew (Below.refl _ wo))) hb33
                dsimp only
                refine hK.out _ _ ?_ (fun hHeld => ?_)
                · first | exact HSA.out _ d35 | exact HSA.out _ d34 | exact HSA.out _ d33 | exact HSA.out _ (bnext HBK.out (Below.drew (Below.refl _ wo)))
                clear hK K
                (try simp only [Act.put, List.setIfInBounds_toArray, List.set_cons_zero, List.set_cons_succ])
                refine wpAnyH_take (i := 19) (oi := { dst := some 162, op := Op.binOp BinOp.eql 3 (Operand.tmp 161) (Operand.const (Value.int IntKind.i64 0)) 3, type := 4, pos := "law.go:110", after := #[{ on := 18, ground := Ground.data }, { on := 14, ground := Ground.guard }], guard := some (14, true) }) (v := ?_) rfl (by kernel_rfl) (by kernel_rfl) (by kernel_rfl) (fun _ _ _ h => h) (Or.inl ⟨by rfl, ?_⟩) (by assumption) ?_
                rotate_left
                · ((intro w hSw; (try dsimp only at hSw); go_simp; (try rw [if_neg (by omega)])); try with_reducible rfl)
                (try simp only [Act.put, List.setIfInBounds_toArray, List.set_cons_zero, List.set_cons_succ])
                refine wpAnyH_take (i := 20) (oi := { dst := some 163, op := Op.pick (Operand.tmp 157) (Operand.tmp 162) (Operand.const (Value.bool false)), type := 4, pos := "law.go:110", after := #[{ on := 14, ground := Ground.data }, { on := 19, ground := Ground.data }], guard := none }) (v := ?_) rfl (by kernel_rfl) (by kernel_rfl) (by kernel_rfl) (fun _ _ _ h => h) (Or.inl ⟨by rfl, ?_⟩) (by assumption) ?_
                rotate_left
                · ((intro w hSw; (try dsimp only at hSw); go_simp; (try rw [if_neg (by omega)])); try with_reducible rfl)
                (try simp only [Act.put, List.setIfInBounds_toArray, List.set_cons_zero, List.set_cons_succ])
                refine wpAnyH_take (i := 21) (oi := { dst := some 164, op := Op.move (Operand.tmp 163), type := 4, pos := "law.go:110", after := #[{ on := 20, ground := Ground.data }, { on := 18, ground := Ground.chain }], guard := none }) (v := ?_) rfl (by kernel_rfl) (by kernel_rfl) (by kernel_rfl) (fun _ _ _ h => h) (Or.inl ⟨by rfl, ?_⟩) (by assumption) ?_
                rotate_left
                · ((intro w hSw; (try dsimp only at hSw); go_simp; (try rw [if_neg (by omega)])); try with_reducible rfl)
                (try simp only [Act.put, List.setIfInBounds_toArray, List.set_cons_zero, List.set_cons_succ])
                refine wpAnyH_take (i := 22) (oi := { dst := some 165, op := Op.load 24 (Operand.tmp 6), type := 24, pos := "law.go:110", after := #[{ on := 21, ground := Ground.guard }], guard := some (21, true) }) (v := ?_) rfl (by kernel_rfl) (by kernel_rfl) (by kernel_rfl) (fun _ _ _ h => h) (Or.inl ⟨by rfl, ?_⟩) (by assumption) ?_
                rotate_left
                · ((intro w hSw; (try dsimp only at hSw); go_simp; (try rw [if_neg (by omega)])); try with_reducible rfl)
                (try simp only [Act.put, List.setIfInBounds_toArray, List.set_cons_zero, List.set_cons_succ])
                refine wpAnyH_take (i := 23) (oi := { dst := some 166, op := Op.move (Operand.tmp 12), type := 3, pos := "law.go:110", after := #[{ on := 21, ground := Ground.guard }], guard := some (21, true) }) (v := ?_) rfl (by kernel_rfl) (by kernel_rfl) (by kernel_rfl) (fun _ _ _ h => h) (Or.inl ⟨by rfl, ?_⟩) (by assumption) ?_
                rotate_left
                · ((intro w hSw; (try dsimp only at hSw); go_simp; (try rw [if_neg (by omega)])); try with_reducible rfl)
                (try simp only [Act.put, List.setIfInBounds_toArray, List.set_cons_zero, List.set_cons_succ])
                refine wpAnyH_take (i := 25) (oi := { dst := some 168, op := Op.load 24 (Operand.tmp 6), type := 24, pos := "law.go:110", after := #[{ on := 21, ground := Ground.guard }], guard := some (21, true) }) (v := ?_) rfl (by kernel_rfl) (by kernel_rfl) (by kernel_rfl) (fun _ _ _ h => h) (Or.inl ⟨by rfl, ?_⟩) (by assumption) ?_
                rotate_left
                · ((intro w hSw; (try dsimp only at hSw); go_simp; (try rw [if_neg (by omega)])); try with_reducible rfl)
                (try simp only [Act.put, List.setIfInBounds_toArray, List.set_cons_zero, List.set_cons_succ])
                refine wpAnyH_take (i := 26) (oi := { dst := some 169, op := Op.move (Operand.tmp 12), type := 3, pos := "law.go:110", after := #[{ on := 21, ground := Ground.guard }], guard := some (21, true) }) (v := ?_) rfl (by kernel_rfl) (by kernel_rfl) (by kernel_rfl) (fun _ _ _ h => h) (Or.inl ⟨by rfl, ?_⟩) (by assumption) ?_
                rotate_left
                · ((intro w hSw; (try dsimp only at hSw); go_simp; (try rw [if_neg (by omega)])); try with_reducible rfl)
                (try simp only [Act.put, List.setIfInBounds_toArray, List.set_cons_zero, List.set_cons_succ])
                refine wpAnyH_take (i := 27) (oi := { dst := some 170, op := Op.binOp BinOp.add 3 (Operand.tmp 169) (Operand.const (Value.int IntKind.i64 1)) 3, type := 3, pos := "law.go:110", after := #[{ on := 26, ground := Ground.data }, { on := 21, ground := Ground.guard }], guard := some (21, true) }) (v := ?_) rfl (by kernel_rfl) (by kernel_rfl) (by kernel_rfl) (fun _ _ _ h => h) (Or.inl ⟨by rfl, ?_⟩) (by assumption) ?_
                rotate_left
                · ((intro w hSw; (try dsimp only at hSw); go_simp; (try rw [if_neg (by omega)])); try with_reducible rfl)
                (try simp only [Act.put, List.setIfInBounds_toArray, List.set_cons_zero, List.set_cons_succ])
                refine wpAnyH_ready (rs := [24]) (by kernel_rfl) (by simp) ?_
                refine AllReadyH.cons (o := { dst := some 167, op := Op.call { callee := Callee.value (Operand.func 16), args := #[Operand.tmp 165, Operand.tmp 166], argTypes := #[24, 3] }, type := 3, pos := "law.go:110", after := #[{ on := 22, ground := Ground.data }, { on := 23, ground := Ground.data }, { on := 21, ground := Ground.chain }, { on := 21, ground := Ground.guard }], guard := some (21, true) }) rfl (fun K hK => ?_) ?_
                · go_simp
                  go_at_call 16
                  refine (HNC.out near na _ HNA.out d33).mono ?_
                  rintro e w34 ⟨rfl, hb34⟩
                  have d34 := bnext d33 hb34
                  dsimp only
                  refine hK.out _ _ ?_ (fun hHeld => ?_)
                  · first | exact HSA.out _ d35 | exact HSA.out _ d34 | exact HSA.out _ d33 | exact HSA.out _ (bnext HBK.out (Below.drew (Below.refl _ wo)))
                  clear hK K
                  (try simp only [Act.put, List.setIfInBounds_toArray, List.set_cons_zero, List.set_cons_succ])
                  refine wpAnyH_ready (rs := [28]) (by kernel_rfl) (by simp) ?_
                  refine AllReadyH.cons (o := { dst := some 171, op := Op.call { callee := Callee.value (Operand.func 16), args := #[Operand.tmp 168, Operand.tmp 170], argTypes := #[24, 3] }, type := 3, pos := "law.go:110", after := #[{ on := 25, ground := Ground.data }, { on := 27, ground := Ground.data }, { on := 24, ground := Ground.chain }, { on := 21, ground := Ground.guard }], guard := some (21, true) }) rfl (fun K hK => ?_) ?_
                  · go_simp
                    go_at_call 16
                    refine (HNC.out (near + 1) nb _ HNB.out d34).mono ?_
                    rintro e w35 ⟨rfl, hb35⟩
                    have d35 := bnext d34 hb35
                    dsimp only
                    refine hK.out _ _ ?_ (fun hHeld => ?_)
                    · first | exact HSA.out _ d35 | exact HSA.out _ d34 | exact HSA.out _ d33 | exact HSA.out _ (bnext HBK.out (Below.drew (Below.refl _ wo)))
                    clear hK K
                    (try simp only [Act.put, List.setIfInBounds_toArray, List.set_cons_zero, List.set_cons_succ])
                    refine wpAnyH_take (i := 29) (oi := { dst := some 172, op := Op.binOp BinOp.leq 3 (Operand.tmp 167) (Operand.tmp 171) 3, type := 4, pos := "law.go:110", after := #[{ on := 24, ground := Ground.data }, { on := 28, ground := Ground.data }, { on := 21, ground := Ground.guard }], guard := some (21, true) }) (v := ?_) rfl (by kernel_rfl) (by kernel_rfl) (by kernel_rfl) (fun _ _ _ h => h) (Or.inl ⟨by rfl, ?_⟩) (by assumption) ?_
                    rotate_left
                    · ((intro w hSw; (try dsimp only at hSw); go_simp; (try rw [if_neg (by omega)])); try with_reducible rfl)
                    (try simp only [Act.put, List.setIfInBounds_toArray, List.set_cons_zero, List.set_cons_succ])
                    refine wpAnyH_take (i := 30) (oi := { dst := some 173, op := Op.pick (Operand.tmp 164) (Operand.tmp 172) (Operand.const (Value.bool false)), type := 4, pos := "law.go:110", after := #[{ on := 21, ground := Ground.data }, { on := 29, ground := Ground.data }], guard := none }) (v := ?_) rfl (by kernel_rfl) (by kernel_rfl) (by kernel_rfl) (fun _ _ _ h => h) (Or.inl ⟨by rfl, ?_⟩) (by assumption) ?_
                    rotate_left
                    · ((intro w hSw; (try dsimp only at hSw); go_simp; (try rw [if_neg (by omega)])); try with_reducible rfl)
                    (try simp only [Act.put, List.setIfInBounds_toArray, List.set_cons_zero, List.set_cons_succ])
                    refine wpAnyH_take (i := 31) (oi := { dst := some 4, op := Op.assign (Operand.tmp 173), type := 4, pos := "law.go:110", after := #[{ on := 30, ground := Ground.data }, { on := 28, ground := Ground.chain }, { on := 0, ground := Ground.phase }, { on := 1, ground := Ground.phase }, { on := 2, ground := Ground.phase }, { on := 3, ground := Ground.phase }, { on := 4, ground := Ground.phase }, { on := 5, ground := Ground.phase }, { on := 6, ground := Ground.phase }, { on := 7, ground := Ground.phase }, { on := 8, ground := Ground.phase }, { on := 9, ground := Ground.phase }, { on := 10, ground := Ground.phase }, { on := 11, ground := Ground.phase }, { on := 12, ground := Ground.phase }, { on := 13, ground := Ground.phase }, { on := 14, ground := Ground.phase }, { on := 15, ground := Ground.phase }, { on := 16, ground := Ground.phase }, { on := 17, ground := Ground.phase }, { on := 18, ground := Ground.phase }, { on := 19, ground := Ground.phase }, { on := 20, ground := Ground.phase }, { on := 21, ground := Ground.phase }, { on := 22, ground := Ground.phase }, { on := 23, ground := Ground.phase }, { on := 24, ground := Ground.phase }, { on := 25, ground := Ground.phase }, { on := 26, ground := Ground.phase }, { on := 27, ground := Ground.phase }, { on := 28, ground := Ground.phase }, { on := 29, ground := Ground.phase }, { on := 30, ground := Ground.phase }], guard := none }) (v := ?_) rfl (by kernel_rfl) (by kernel_rfl) (by kernel_rfl) (fun _ _ _ h => h) (Or.inl ⟨by rfl, ?_⟩) (by assumption) ?_
                    rotate_left
                    · ((intro w hSw; (try dsimp only at hSw); go_simp; (try rw [if_neg (by omega)])); try with_reducible rfl)
                    (try simp only [Act.put, List.setIfInBounds_toArray, List.set_cons_zero, List.set_cons_succ])
                    refine wpAnyH_done (by kernel_rfl) ?_ _
                    go_simp
                    go_wp2
                    go_ret
                    exact ⟨by rfl, bnext HBX.out d35⟩
                  exact AllReadyH.nil
                exact AllReadyH.nil
              exact AllReadyH.nil
            exact AllReadyH.nil
          exact AllReadyH.nil

set_option maxRecDepth 100000 in
theorem lifted (os : Os) (started : os.Started) (H : Type) (enc : TypeId × Value → H) :
    ReturnsInHanded {} Try.checked os 4 .any (Rows.axesRisesSpec.pre6 enc Try.prog Try.f4 Rows.axesRisesRow.domain false) (Rows.axesRisesSpec.post enc Try.prog Try.f4 false true false false) := by
  refine returnsInHanded_of_change (C := Try.checked) own started (by kernel_rfl) Try.func4
    (ChangeSpec.witness6 (enc := enc) (C := Try.checked) false ⟨#[], #[.slice none 0 0, .agg #[.int .i64 0, .int .i64 0]], []⟩ 8 (by kernel_rfl) (by kernel_rfl) (by kernel_rfl) (by kernel_rfl)) ?_
  intro W base args ds gs before hval0 hW hcnd _
  have hval : ∀ (j : Nat) t v, Try.f4.params[j]? = some t → args[j]? = some v → Value.okWide Try.prog W .any base t v := hval0
  have hW' := hW
  obtain ⟨p, q, hA0, hV, rfl, hfz, hnd⟩ := hW
  have hA : DataW.TrodAll enc Try.prog W 0 (fun _ => true) true Try.f4.params.toList args.toList ds p := hA0
  rw [Try.params4] at hA hval
  obtain ⟨v0, vs0, d0, ds0, p0, q0, hargs, rfl, rfl, h0, r0⟩ := trodAll_cons hA
  obtain ⟨v1, vs1, d1, ds1, p1, q1, rfl, rfl, rfl, h1, r1⟩ := trodAll_cons r0
  obtain ⟨rfl, rfl, rfl⟩ := trodAll_nil r1
  obtain rfl : args = #[v0, v1] := by cases args; simp_all
  obtain ⟨rfl, rfl⟩ := trodVars_none hV
  have k0 := h0
  have lt0 : ∀ x ∈ p0, x.block < W.heap.size := by obtain ⟨m, hm⟩ := k0; exact DataW.trod_lt m _ _ _ hm
  have k1 := h1
  have lt1 : ∀ x ∈ p1, x.block < W.heap.size := by obtain ⟨m, hm⟩ := k1; exact DataW.trod_lt m _ _ _ hm
  obtain ⟨a0, H0⟩ := open_ins (hval 0 25 v0 rfl rfl) h0
  obtain ⟨a1, b1, rfl, wa1, wb1⟩ := open_arr2 Try.underlying30 Try.underlying3 (by kernel_rfl) (by kernel_rfl) (hval 1 30 v1 rfl rfl) h1
  clear hA0 hval0
  refine (walk v0 a0 a1 b1 wa1 wb1 W H0).mono fun e W' ⟨he, bel⟩ => ?_
  subst he
  exact ⟨_, rfl, _, _, _, [], _, [], hW', trodAll_mk1 (shut_bool Try.underlying4 _), (trodAll_cons_mk (Below.trod laidOut (by kernel_rfl) (of_decide_eq_true (by kernel_rfl)) k0 bel lt0) (trodAll_cons_mk (Below.trod laidOut (by kernel_rfl) (of_decide_eq_true (by kernel_rfl)) k1 bel lt1) trodAll_mk0)), rfl, bel.frame _, fun h => by cases h⟩

theorem over : Rows.axesRisesRow.holds Try.pinned (OpenSpec.ofChange Rows.axesRisesSpec) :=
  OpenClaim.holds_of_wide 4 Try.f4 rfl rfl rfl rfl rfl rfl rfl ⟨rfl, rfl, rfl, rfl, rfl⟩ rfl rfl rfl rfl rfl (by kernel_rfl) Try.func4 (by kernel_rfl)
    (of_decide_eq_true (by kernel_rfl)) (by unfold Func.isWrapper; first | (rw [if_pos (by decide +kernel)]; kernel_rfl) | (rw [if_neg (by decide +kernel)]; exact ⟨rfl, rfl⟩))
    (fun os started H enc _ => lifted os started H enc)

end Go.Proofs.Ytbhkbjnmpaebdaa.axesRises
namespace Go.Proofs.Ytbhkbjnmpaebdaa
theorem axesRises_proved : Rows.AxesRisesSaid := axesRises.over
#print axioms axesRises_proved
end Go.Proofs.Ytbhkbjnmpaebdaa
