/- For all rows, widths and numbers PanelPlans returns true: Plan returns what the reference returns. No conditions. -/
import Derived.Test.YtmiennkldkcnfaaDoorPn23
namespace Go.Proofs.YtmiennkldkcnfaaDoor.panelPlans
open Go.ChangeShapes Go.WideShapes Go.ChangeAt Go.RowKit Go.Joins Go.Deep
set_option linter.unusedVariables false

set_option maxRecDepth 100000 in
set_option maxHeartbeats 8000000 in
theorem walk (p0 : Value) (q0 : Value) (l0 : List Nat) (m0 : List Nat) (a1 : Int) (a2 : Int) (g : Nat × Nat) (wa1 : (Lit.int .i64 a1).wf = true) (wa2 : (Lit.int .i64 a2).wf = true) (w : World) (hl : Laid w g) (H0 : UsArg w p0 l0 ∧ UsArg w q0 m0) :
    Calls Tryd.prog 4 #[.agg #[p0, q0], .int .i64 a1, .int .i64 a2] w fun e w' => e = .returned (.bool true) ∧ Below w.heap.size w w' := by
  have HLD := Lib.hid hl
  clear hl
  obtain ⟨Ha, Hb⟩ := H0
  obtain ⟨pa, pc, rfl⟩ := Ha.ua.shape
  obtain ⟨qa, qc, rfl⟩ := Hb.ua.shape
  have HA := Lib.hid Ha
  have HBB := Lib.hid Hb
  clear Ha Hb
  have hm9 := (bdi64 wa2).2
  have HM9 := Lib.hid hm9
  clear hm9
  obtain ⟨B, hB⟩ : ∃ B, w.heap.size = B := ⟨_, rfl⟩
  have hx1 := heap_alloc_new w (.cells #[.slice pa l0.length pc, .slice qa m0.length qc] 41)
  have hb1 := balloc (Below.refl _ w) (.cells #[.slice pa l0.length pc, .slice qa m0.length qc] 41)
  obtain ⟨w1, hw1⟩ : ∃ w1, w.alloc (.cells #[.slice pa l0.length pc, .slice qa m0.length qc] 41) = w1 := ⟨_, rfl⟩
  rw [hw1, hB] at hx1
  rw [hw1] at hb1
  have HB1 := Lib.hid hb1
  have HPS : Hid (∀ U, Below w1.heap.size w1 U → U.cell? ⟨B, 0, none⟩ = some (.slice pa l0.length pc) ∧ U.cell? ⟨B, 1, none⟩ = some (.slice qa m0.length qc)) := Lib.hid fun U hU => by
    have h1 := (hU.block B (Array.getElem?_eq_some_iff.1 hx1).1).trans hx1
    exact ⟨nd_cell h1 rfl, nd_cell h1 rfl⟩
  have HA1 := HA
  clear hx1 hb1
  go_enter Tryd.func4, Tryd.ntmps4
  go_upto_region 1 with fail
  try rw [hw1]
  try rw [hB]
  clear hw1 hB
  go_wp2_with fail
  go_at_call 11
  refine (sanity_any _ g (HLD.out.mono HB1.out)).mono ?_
  rintro e w3 ⟨rfl, k3⟩
  have HB3 := Lib.hid k3
  clear k3 HA1
  have ha3 := HA.out.keep (bnext HB1.out HB3.out)
  have hb3 := HBB.out.keep (bnext HB1.out HB3.out)
  clear HA HBB
  have HA := Lib.hid ha3
  have HBB := Lib.hid hb3
  clear ha3 hb3
  go_upto_region 2 with fail
  obtain ⟨wd, hwd⟩ : ∃ wd, w3.drew = wd := ⟨_, rfl⟩
  have HWD := Lib.hid hwd
  have hbd : Below w3.heap.size w3 wd := by rw [← hwd]; exact Below.drew (Below.refl _ w3)
  have HPS2 := HPS
  clear HPS
  have HPS := Lib.hid (fun (U : World) (hU : Below w3.heap.size w3 U) => HPS2.out U (bnext HB3.out hU))
  have HBD := Lib.hid hbd
  clear hwd hbd HPS2
  refine wp_region_held_drew (S := (fun U => U.cell? ⟨B, 0, none⟩ = some (.slice pa l0.length pc) ∧ U.cell? ⟨B, 1, none⟩ = some (.slice qa m0.length qc))) (by kernel_rfl) ?_ (fun hHeld => ?_)
  · (rw [HWD.out]; exact HPS.out _ (bnext HBD.out (Below.refl _ _)))
  rw [HWD.out] at hHeld ⊢
  refine wpAnyH_take (i := 0) (oi := { dst := some 19, op := Op.fieldAddr 41 (Operand.tmp 3) 0, type := 0, pos := "law.go:82", after := #[], guard := none }) (v := ?_) rfl (by kernel_rfl) (by kernel_rfl) (by kernel_rfl) (fun _ _ _ h => h) (Or.inl ⟨by rfl, ?_⟩) (by assumption) ?_
  rotate_left
  · ((intro w hSw; (try dsimp only at hSw); go_simp; (try rw [if_neg (by omega)])); try with_reducible rfl)
  (try simp only [Act.put, List.setIfInBounds_toArray, List.set_cons_zero, List.set_cons_succ])
  refine wpAnyH_take (i := 1) (oi := { dst := some 20, op := Op.load 32 (Operand.tmp 19), type := 32, pos := "law.go:82", after := #[{ on := 0, ground := Ground.data }], guard := none }) (v := ?_) rfl (by kernel_rfl) (by kernel_rfl) (by kernel_rfl) (fun _ _ _ h => h) (Or.inl ⟨by rfl, ?_⟩) (by assumption) ?_
  rotate_left
  · ((intro w hSw; (try dsimp only at hSw); go_simp; (try rw [if_neg (by omega)])); try with_reducible rfl)
  (try simp only [Act.put, List.setIfInBounds_toArray, List.set_cons_zero, List.set_cons_succ])
  refine wpAnyH_take (i := 3) (oi := { dst := some 22, op := Op.fieldAddr 41 (Operand.tmp 3) 1, type := 0, pos := "law.go:82", after := #[], guard := none }) (v := ?_) rfl (by kernel_rfl) (by kernel_rfl) (by kernel_rfl) (fun _ _ _ h => h) (Or.inl ⟨by rfl, ?_⟩) (by assumption) ?_
  rotate_left
  · ((intro w hSw; (try dsimp only at hSw); go_simp; (try rw [if_neg (by omega)])); try with_reducible rfl)
  (try simp only [Act.put, List.setIfInBounds_toArray, List.set_cons_zero, List.set_cons_succ])
  refine wpAnyH_take (i := 4) (oi := { dst := some 23, op := Op.load 32 (Operand.tmp 22), type := 32, pos := "law.go:82", after := #[{ on := 3, ground := Ground.data }], guard := none }) (v := ?_) rfl (by kernel_rfl) (by kernel_rfl) (by kernel_rfl) (fun _ _ _ h => h) (Or.inl ⟨by rfl, ?_⟩) (by assumption) ?_
  rotate_left
  · ((intro w hSw; (try dsimp only at hSw); go_simp; (try rw [if_neg (by omega)])); try with_reducible rfl)
  (try simp only [Act.put, List.setIfInBounds_toArray, List.set_cons_zero, List.set_cons_succ])
  refine wpAnyH_ready (rs := [2]) (by kernel_rfl) (by simp) ?_
  refine AllReadyH.cons (o := { dst := some 21, op := Op.call { callee := Callee.value (Operand.func 20), args := #[Operand.tmp 20], argTypes := #[32] }, type := 32, pos := "law.go:82", after := #[{ on := 1, ground := Ground.data }], guard := none }) rfl (fun K hK => ?_) ?_
  · (go_simp; go_at_call 20; refine (few_any wd (.slice pa l0.length pc) l0 (HA.out.ua.keep (bnext HBD.out (Below.refl _ wd))) HA.out.cap).mono ?_; rintro u wz1 ⟨v8, rfl, ko1, dz⟩; have bz1 := bnext (Below.refl _ wd) dz; have kko1 := dz; clear dz; dsimp only)
    refine hK.out _ _ ?_ (fun hHeld => ?_)
    · exact HPS.out _ (bnext HBD.out bz1)
    clear hK K
    (try simp only [Act.put, List.setIfInBounds_toArray, List.set_cons_zero, List.set_cons_succ])
    refine wpAnyH_ready (rs := [5]) (by kernel_rfl) (by simp) ?_
    refine AllReadyH.cons (o := { dst := some 24, op := Op.call { callee := Callee.value (Operand.func 20), args := #[Operand.tmp 23], argTypes := #[32] }, type := 32, pos := "law.go:82", after := #[{ on := 4, ground := Ground.data }, { on := 2, ground := Ground.chain }], guard := none }) rfl (fun K hK => ?_) ?_
    · (go_simp; go_at_call 20; refine (few_any wz1 (.slice qa m0.length qc) m0 (HBB.out.ua.keep (bnext HBD.out bz1)) HBB.out.cap).mono ?_; rintro u wz2 ⟨v9, rfl, ko2, dz⟩; have bz2 := bnext bz1 dz; have kko2 := dz; clear dz; dsimp only)
      refine hK.out _ _ ?_ (fun hHeld => ?_)
      · exact HPS.out _ (bnext HBD.out bz2)
      clear hK K
      (try simp only [Act.put, List.setIfInBounds_toArray, List.set_cons_zero, List.set_cons_succ])
      refine wpAnyH_take (i := 6) (oi := { dst := some 8, op := Op.assign (Operand.tmp 21), type := 32, pos := "law.go:82", after := #[{ on := 2, ground := Ground.data }, { on := 5, ground := Ground.chain }, { on := 0, ground := Ground.phase }, { on := 1, ground := Ground.phase }, { on := 2, ground := Ground.phase }, { on := 3, ground := Ground.textOnly Departure.lateStores }, { on := 4, ground := Ground.textOnly Departure.lateStores }, { on := 5, ground := Ground.textOnly Departure.lateStoresUnsure }], guard := none }) (v := ?_) rfl (by kernel_rfl) (by kernel_rfl) (by kernel_rfl) (fun _ _ _ h => h) (Or.inl ⟨by rfl, ?_⟩) (by assumption) ?_
      rotate_left
      · ((intro w hSw; (try dsimp only at hSw); go_simp; (try rw [if_neg (by omega)])); try with_reducible rfl)
      (try simp only [Act.put, List.setIfInBounds_toArray, List.set_cons_zero, List.set_cons_succ])
      refine wpAnyH_take (i := 7) (oi := { dst := some 9, op := Op.assign (Operand.tmp 24), type := 32, pos := "law.go:82", after := #[{ on := 5, ground := Ground.data }, { on := 6, ground := Ground.chain }, { on := 0, ground := Ground.phase }, { on := 1, ground := Ground.phase }, { on := 2, ground := Ground.phase }, { on := 3, ground := Ground.phase }, { on := 4, ground := Ground.phase }, { on := 5, ground := Ground.phase }, { on := 6, ground := Ground.phase }], guard := none }) (v := ?_) rfl (by kernel_rfl) (by kernel_rfl) (by kernel_rfl) (fun _ _ _ h => h) (Or.inl ⟨by rfl, ?_⟩) (by assumption) ?_
      rotate_left
      · ((intro w hSw; (try dsimp only at hSw); go_simp; (try rw [if_neg (by omega)])); try with_reducible rfl)
      (try simp only [Act.put, List.setIfInBounds_toArray, List.set_cons_zero, List.set_cons_succ])
      refine wpAnyH_done (by kernel_rfl) ?_ _
      clear hHeld
      have HB4 := Lib.hid (bnext HBD.out bz2)
      have htl : (l0.take 66).length ≤ 66 ∧ (m0.take 66).length ≤ 66 := by rw [List.length_take, List.length_take]; omega
      have hta : ∀ x ∈ l0.take 66, x < 18446744073709551616 := fun x hx => HA.out.lt x (List.mem_of_mem_take hx)
      have htb : ∀ x ∈ m0.take 66, x < 18446744073709551616 := fun x hx => HBB.out.lt x (List.mem_of_mem_take hx)
      obtain ⟨A, hA⟩ : ∃ A, l0.take 66 = A := ⟨_, rfl⟩
      obtain ⟨E, hE⟩ : ∃ E, m0.take 66 = E := ⟨_, rfl⟩
      rw [hA] at ko1 hta htl
      rw [hE] at ko2 htb htl
      obtain ⟨na, hna⟩ : ∃ n, A.length = n := ⟨_, rfl⟩
      obtain ⟨ne, hne⟩ : ∃ n, E.length = n := ⟨_, rfl⟩
      rw [hna] at ko1 htl
      rw [hne] at ko2 htl
      obtain ⟨fa, ca, rfl⟩ := own_shape ko1
      obtain ⟨fe, ce, rfl⟩ := own_shape ko2
      have hca := own_cap ko1
      have hce := own_cap ko2
      have HRA : Hid (∀ U, Below wz2.heap.size wz2 U → Rw U fa na ca A) := Lib.hid fun U hU => (Rw.mk (own_ua ko1) hna htl.1 hta).keep (bnext kko2 hU)
      have HRE : Hid (∀ U, Below wz2.heap.size wz2 U → Rw U fe ne ce E) := Lib.hid fun U hU => (Rw.mk (own_ua ko2) hne htl.2 htb).keep hU
      clear ko1 ko2 hta htb hA hE hna hne bz1 bz2 kko1 kko2
      go_simp
      go_upto_region 3 with fail
      obtain ⟨h, hh⟩ : ∃ h : Nat, min (min (na : Int) (ne : Int)) 64 = (h : Int) := ⟨min (min na ne) 64, by omega⟩
      have hha : h ≤ na := by omega
      have hhe : h ≤ ne := by omega
      have hh0 : (0 : Int) ≤ (h : Int) := by omega
      have hc1 : h ≤ ca := by omega
      have hc2 : h ≤ ce := by omega
      have HHH := Lib.hid hh
      clear hh
      go_cut [10] from 25 to 30 (fun s10 V => s10 = .int .i64 (h : Int) ∧ V = wz2)
      case first =>
        go_wp2_with fail
        all_goals go_meet
        all_goals exact ⟨by congr 1; have := HHH.out; omega, rfl⟩
      case rest =>
        obtain ⟨rfl, he⟩ := hcut
        have he' := he.symm
        subst he'
        obtain ⟨k, hk63, hk⟩ : ∃ k : Nat, k ≤ 63 ∧ bits .and .i64 a1 63 = (k : Int) := and_small a1 63 (by omega)
        obtain ⟨j, hj7, hj⟩ : ∃ j : Nat, j ≤ 7 ∧ bits .and .i64 a2 7 = (j : Int) := and_small a2 7 (by omega)
        go_upto_region 5 with fail
        obtain ⟨we, hwe⟩ : ∃ we, wz2.drew = we := ⟨_, rfl⟩
        have HWE := Lib.hid hwe
        have hbe : Below wz2.heap.size wz2 we := by rw [← hwe]; exact Below.drew (Below.refl _ wz2)
        have HBE := Lib.hid hbe
        clear hwe hbe
        refine wp_region_held_drew (S := (fun _ => True)) (by kernel_rfl) ?_ (fun hHeld => ?_)
        · exact trivial
        rw [HWE.out]
        refine wpAnyH_take (i := 0) (oi := { dst := some 33, op := Op.move (Operand.tmp 8), type := 32, pos := "law.go:85", after := #[], guard := none }) (v := ?_) rfl (by kernel_rfl) (by kernel_rfl) (by kernel_rfl) (fun _ _ _ h => h) (Or.inl ⟨by rfl, ?_⟩) (by assumption) ?_
        rotate_left
        · ((intro w hSw; (try dsimp only at hSw); go_simp; (try rw [if_neg (by omega)])); try with_reducible rfl)
        (try simp only [Act.put, List.setIfInBounds_toArray, List.set_cons_zero, List.set_cons_succ])
        refine wpAnyH_take (i := 1) (oi := { dst := some 34, op := Op.move (Operand.tmp 9), type := 32, pos := "law.go:85", after := #[], guard := none }) (v := ?_) rfl (by kernel_rfl) (by kernel_rfl) (by kernel_rfl) (fun _ _ _ h => h) (Or.inl ⟨by rfl, ?_⟩) (by assumption) ?_
        rotate_left
        · ((intro w hSw; (try dsimp only at hSw); go_simp; (try rw [if_neg (by omega)])); try with_reducible rfl)
        (try simp only [Act.put, List.setIfInBounds_toArray, List.set_cons_zero, List.set_cons_succ])
        refine wpAnyH_take (i := 2) (oi := { dst := some 35, op := Op.build 41 #[(0, Operand.tmp 33), (1, Operand.tmp 34)], type := 41, pos := "law.go:85", after := #[{ on := 0, ground := Ground.data }, { on := 1, ground := Ground.data }], guard := none }) (v := ?_) rfl (by kernel_rfl) (by kernel_rfl) (by kernel_rfl) (fun _ _ _ h => h) (Or.inl ⟨by rfl, ?_⟩) (by assumption) ?_
        rotate_left
        · ((intro w hSw; (try dsimp only at hSw); go_simp; (try rw [if_neg (by omega)])); try with_reducible rfl)
        (try simp only [Act.put, List.setIfInBounds_toArray, List.set_cons_zero, List.set_cons_succ])
        refine wpAnyH_take (i := 3) (oi := { dst := some 36, op := Op.move (Operand.tmp 8), type := 32, pos := "law.go:85", after := #[], guard := none }) (v := ?_) rfl (by kernel_rfl) (by kernel_rfl) (by kernel_rfl) (fun _ _ _ h => h) (Or.inl ⟨by rfl, ?_⟩) (by assumption) ?_
        rotate_left
        · ((intro w hSw; (try dsimp only at hSw); go_simp; (try rw [if_neg (by omega)])); try with_reducible rfl)
        (try simp only [Act.put, List.setIfInBounds_toArray, List.set_cons_zero, List.set_cons_succ])
        refine wpAnyH_take (i := 4) (oi := { dst := some 37, op := Op.move (Operand.tmp 10), type := 3, pos := "law.go:85", after := #[], guard := none }) (v := ?_) rfl (by kernel_rfl) (by kernel_rfl) (by kernel_rfl) (fun _ _ _ h => h) (Or.inl ⟨by rfl, ?_⟩) (by assumption) ?_
        rotate_left
        · ((intro w hSw; (try dsimp only at hSw); go_simp; (try rw [if_neg (by omega)])); try with_reducible rfl)
        (try simp only [Act.put, List.setIfInBounds_toArray, List.set_cons_zero, List.set_cons_succ])
        refine wpAnyH_take (i := 5) (oi := { dst := some 38, op := Op.slice 32 (Operand.tmp 36) none (some (Operand.tmp 37)) none, type := 32, pos := "law.go:85", after := #[{ on := 3, ground := Ground.data }, { on := 4, ground := Ground.data }], guard := none }) (v := ?_) rfl (by kernel_rfl) (by kernel_rfl) (by kernel_rfl) (fun _ _ _ h => h) (Or.inl ⟨by rfl, ?_⟩) (by assumption) ?_
        rotate_left
        · ((intro w hSw; (try dsimp only at hSw); go_simp; (try rw [if_neg (by omega)])); try with_reducible rfl)
        (try simp only [Act.put, List.setIfInBounds_toArray, List.set_cons_zero, List.set_cons_succ])
        refine wpAnyH_take (i := 6) (oi := { dst := some 39, op := Op.move (Operand.tmp 9), type := 32, pos := "law.go:85", after := #[], guard := none }) (v := ?_) rfl (by kernel_rfl) (by kernel_rfl) (by kernel_rfl) (fun _ _ _ h => h) (Or.inl ⟨by rfl, ?_⟩) (by assumption) ?_
        rotate_left
        · ((intro w hSw; (try dsimp only at hSw); go_simp; (try rw [if_neg (by omega)])); try with_reducible rfl)
        (try simp only [Act.put, List.setIfInBounds_toArray, List.set_cons_zero, List.set_cons_succ])
        refine wpAnyH_take (i := 7) (oi := { dst := some 40, op := Op.move (Operand.tmp 10), type := 3, pos := "law.go:85", after := #[], guard := none }) (v := ?_) rfl (by kernel_rfl) (by kernel_rfl) (by kernel_rfl) (fun _ _ _ h => h) (Or.inl ⟨by rfl, ?_⟩) (by assumption) ?_
        rotate_left
        · ((intro w hSw; (try dsimp only at hSw); go_simp; (try rw [if_neg (by omega)])); try with_reducible rfl)
        (try simp only [Act.put, List.setIfInBounds_toArray, List.set_cons_zero, List.set_cons_succ])
        refine wpAnyH_take (i := 8) (oi := { dst := some 41, op := Op.slice 32 (Operand.tmp 39) none (some (Operand.tmp 40)) none, type := 32, pos := "law.go:85", after := #[{ on := 6, ground := Ground.data }, { on := 7, ground := Ground.data }], guard := none }) (v := ?_) rfl (by kernel_rfl) (by kernel_rfl) (by kernel_rfl) (fun _ _ _ h => h) (Or.inl ⟨by rfl, ?_⟩) (by assumption) ?_
        rotate_left
        · ((intro w hSw; (try dsimp only at hSw); go_simp; (try rw [if_neg (by omega)])); try with_reducible rfl)
        (try simp only [Act.put, List.setIfInBounds_toArray, List.set_cons_zero, List.set_cons_succ])
        refine wpAnyH_take (i := 9) (oi := { dst := some 42, op := Op.build 41 #[(0, Operand.tmp 38), (1, Operand.tmp 41)], type := 41, pos := "law.go:85", after := #[{ on := 5, ground := Ground.data }, { on := 8, ground := Ground.data }], guard := none }) (v := ?_) rfl (by kernel_rfl) (by kernel_rfl) (by kernel_rfl) (fun _ _ _ h => h) (Or.inl ⟨by rfl, ?_⟩) (by assumption) ?_
        rotate_left
        · ((intro w hSw; (try dsimp only at hSw); go_simp; (try rw [if_neg (by omega)])); try with_reducible rfl)
        (try simp only [Act.put, List.setIfInBounds_toArray, List.set_cons_zero, List.set_cons_succ])
        refine wpAnyH_take (i := 10) (oi := { dst := some 43, op := Op.move (Operand.tmp 8), type := 32, pos := "law.go:85", after := #[], guard := none }) (v := ?_) rfl (by kernel_rfl) (by kernel_rfl) (by kernel_rfl) (fun _ _ _ h => h) (Or.inl ⟨by rfl, ?_⟩) (by assumption) ?_
        rotate_left
        · ((intro w hSw; (try dsimp only at hSw); go_simp; (try rw [if_neg (by omega)])); try with_reducible rfl)
        (try simp only [Act.put, List.setIfInBounds_toArray, List.set_cons_zero, List.set_cons_succ])
        refine wpAnyH_take (i := 11) (oi := { dst := some 44, op := Op.move (Operand.tmp 10), type := 3, pos := "law.go:85", after := #[], guard := none }) (v := ?_) rfl (by kernel_rfl) (by kernel_rfl) (by kernel_rfl) (fun _ _ _ h => h) (Or.inl ⟨by rfl, ?_⟩) (by assumption) ?_
        rotate_left
        · ((intro w hSw; (try dsimp only at hSw); go_simp; (try rw [if_neg (by omega)])); try with_reducible rfl)
        (try simp only [Act.put, List.setIfInBounds_toArray, List.set_cons_zero, List.set_cons_succ])
        refine wpAnyH_take (i := 12) (oi := { dst := some 45, op := Op.slice 32 (Operand.tmp 43) none (some (Operand.tmp 44)) none, type := 32, pos := "law.go:85", after := #[{ on := 10, ground := Ground.data }, { on := 11, ground := Ground.data }], guard := none }) (v := ?_) rfl (by kernel_rfl) (by kernel_rfl) (by kernel_rfl) (fun _ _ _ h => h) (Or.inl ⟨by rfl, ?_⟩) (by assumption) ?_
        rotate_left
        · ((intro w hSw; (try dsimp only at hSw); go_simp; (try rw [if_neg (by omega)])); try with_reducible rfl)
        (try simp only [Act.put, List.setIfInBounds_toArray, List.set_cons_zero, List.set_cons_succ])
        refine wpAnyH_take (i := 13) (oi := { dst := some 46, op := Op.move (Operand.tmp 8), type := 32, pos := "law.go:85", after := #[], guard := none }) (v := ?_) rfl (by kernel_rfl) (by kernel_rfl) (by kernel_rfl) (fun _ _ _ h => h) (Or.inl ⟨by rfl, ?_⟩) (by assumption) ?_
        rotate_left
        · ((intro w hSw; (try dsimp only at hSw); go_simp; (try rw [if_neg (by omega)])); try with_reducible rfl)
        (try simp only [Act.put, List.setIfInBounds_toArray, List.set_cons_zero, List.set_cons_succ])
        refine wpAnyH_take (i := 14) (oi := { dst := some 47, op := Op.move (Operand.tmp 10), type := 3, pos := "law.go:85", after := #[], guard := none }) (v := ?_) rfl (by kernel_rfl) (by kernel_rfl) (by kernel_rfl) (fun _ _ _ h => h) (Or.inl ⟨by rfl, ?_⟩) (by assumption) ?_
        rotate_left
        · ((intro w hSw; (try dsimp only at hSw); go_simp; (try rw [if_neg (by omega)])); try with_reducible rfl)
        (try simp only [Act.put, List.setIfInBounds_toArray, List.set_cons_zero, List.set_cons_succ])
        refine wpAnyH_take (i := 15) (oi := { dst := some 48, op := Op.slice 32 (Operand.tmp 46) none (some (Operand.tmp 47)) none, type := 32, pos := "law.go:85", after := #[{ on := 13, ground := Ground.data }, { on := 14, ground := Ground.data }], guard := none }) (v := ?_) rfl (by kernel_rfl) (by kernel_rfl) (by kernel_rfl) (fun _ _ _ h => h) (Or.inl ⟨by rfl, ?_⟩) (by assumption) ?_
        rotate_left
        · ((intro w hSw; (try dsimp only at hSw); go_simp; (try rw [if_neg (by omega)])); try with_reducible rfl)
        (try simp only [Act.put, List.setIfInBounds_toArray, List.set_cons_zero, List.set_cons_succ])
        refine wpAnyH_take (i := 16) (oi := { dst := some 49, op := Op.build 41 #[(0, Operand.tmp 45), (1, Operand.tmp 48)], type := 41, pos := "law.go:85", after := #[{ on := 12, ground := Ground.data }, { on := 15, ground := Ground.data }], guard := none }) (v := ?_) rfl (by kernel_rfl) (by kernel_rfl) (by kernel_rfl) (fun _ _ _ h => h) (Or.inl ⟨by rfl, ?_⟩) (by assumption) ?_
        rotate_left
        · ((intro w hSw; (try dsimp only at hSw); go_simp; (try rw [if_neg (by omega)])); try with_reducible rfl)
        (try simp only [Act.put, List.setIfInBounds_toArray, List.set_cons_zero, List.set_cons_succ])
        refine wpAnyH_take (i := 19) (oi := { dst := some 52, op := Op.move (Operand.const (Value.int IntKind.i64 0)), type := 3, pos := "law.go:85", after := #[], guard := none }) (v := ?_) rfl (by kernel_rfl) (by kernel_rfl) (by kernel_rfl) (fun _ _ _ h => h) (Or.inl ⟨by rfl, ?_⟩) (by assumption) ?_
        rotate_left
        · ((intro w hSw; (try dsimp only at hSw); go_simp; (try rw [if_neg (by omega)])); try with_reducible rfl)
        (try simp only [Act.put, List.setIfInBounds_toArray, List.set_cons_zero, List.set_cons_succ])
        refine wpAnyH_ready (rs := [17]) (by kernel_rfl) (by simp) ?_
        refine AllReadyH.cons (o := { dst := some 50, op := Op.buildSlice 43 3 #[(0, Operand.tmp 35), (1, Operand.tmp 42), (2, Operand.tmp 49)], type := 43, pos := "law.go:85", after := #[{ on := 2, ground := Ground.data }, { on := 9, ground := Ground.data }, { on := 16, ground := Ground.data }], guard := none }) rfl (fun K hK => ?_) ?_
        · (go_simp; have bx1 := balloc (Below.refl _ we) (.cells #[.slice fa na ca, .slice fe ne ce, .slice fa h ca, .slice fe h ce, .slice fa h ca, .slice fa h ca] 41))
          refine hK.out _ _ ?_ (fun hHeld => ?_)
          · exact trivial
          clear hK K
          (try simp only [Act.put, List.setIfInBounds_toArray, List.set_cons_zero, List.set_cons_succ])
          refine wpAnyH_take (i := 18) (oi := { dst := some 51, op := Op.call { callee := Callee.builtin Builtin.len, args := #[Operand.tmp 50], argTypes := #[43] }, type := 3, pos := "law.go:85", after := #[{ on := 17, ground := Ground.data }], guard := none }) (v := ?_) rfl (by kernel_rfl) (by kernel_rfl) (by kernel_rfl) (fun _ _ _ h => h) (Or.inl ⟨by rfl, ?_⟩) (by assumption) ?_
          rotate_left
          · ((intro w hSw; (try dsimp only at hSw); go_simp; (try rw [if_neg (by omega)])); try with_reducible rfl)
          (try simp only [Act.put, List.setIfInBounds_toArray, List.set_cons_zero, List.set_cons_succ])
          refine wpAnyH_done (by kernel_rfl) ?_ _
          clear hHeld
          have hxn := heap_alloc_new we (.cells #[.slice fa na ca, .slice fe ne ce, .slice fa h ca, .slice fe h ce, .slice fa h ca, .slice fa h ca] 41)
          obtain ⟨X, hX⟩ : ∃ X, we.heap.size = X := ⟨_, rfl⟩
          obtain ⟨w6, hw6⟩ : ∃ w6, we.alloc (.cells #[.slice fa na ca, .slice fe ne ce, .slice fa h ca, .slice fe h ce, .slice fa h ca, .slice fa h ca] 41) = w6 := ⟨_, rfl⟩
          rw [hX, hw6] at hxn
          rw [hw6] at bx1
          have HX6 := Lib.hid hxn
          have HB6 := Lib.hid (bnext HBE.out bx1)
          have HBA := Lib.hid (bnext HB1.out (bnext HB3.out (bnext HB4.out HB6.out)))
          have HL6 := Lib.hid (HLD.out.mono HBA.out)
          have HQ : Hid (∀ U, Below w6.heap.size w6 U → ∀ i : Nat, i < 3 → ∃ xa xn xc ya yn yc A' E', U.cell? ⟨X, i * 2, none⟩ = some (.slice xa xn xc) ∧ U.cell? ⟨X, i * 2 + 1, none⟩ = some (.slice ya yn yc) ∧ ∀ V, Below w6.heap.size w6 V → Rw V xa xn xc A' ∧ Rw V ya yn yc E') := Lib.hid fun U hU i hi => by
            have h1 := (hU.block X (Array.getElem?_eq_some_iff.1 HX6.out).1).trans HX6.out
            have ra := fun (V : World) (hV : Below w6.heap.size w6 V) => HRA.out V (bnext HB6.out hV)
            have re := fun (V : World) (hV : Below w6.heap.size w6 V) => HRE.out V (bnext HB6.out hV)
            have h2 : i = 0 ∨ i = 1 ∨ i = 2 := by omega
            rcases h2 with rfl | rfl | rfl
            · exact ⟨_, _, _, _, _, _, _, _, nd_cell h1 rfl, nd_cell h1 rfl, fun V hV => ⟨ra V hV, re V hV⟩⟩
            · exact ⟨_, _, _, _, _, _, _, _, nd_cell h1 rfl, nd_cell h1 rfl, fun V hV => ⟨(ra V hV).take hha, (re V hV).take hhe⟩⟩
            · exact ⟨_, _, _, _, _, _, _, _, nd_cell h1 rfl, nd_cell h1 rfl, fun V hV => ⟨(ra V hV).take hha, (ra V hV).take hha⟩⟩
          clear hxn bx1
          go_simp
          go_upto_region 6 with fail
          try rw [hw6]
          try rw [hX]
          clear hw6 hX hha hhe hc1 hc2 hh0
          go_loopw [52] (fun v52 wr => ∃ i : Nat, v52 = .int .i64 (i : Int) ∧ i ≤ 3 ∧ Hid (Below w6.heap.size w6 wr)) (fun v _ => 3 - (intOf v).toNat)
          case atStart => exact ⟨0, rfl, by omega, Lib.hid (Below.refl _ w6)⟩
          case round =>
            obtain ⟨i, rfl, hi3, HBR⟩ := hrel
            obtain ⟨wo, hwo⟩ : ∃ wo, wo = wr := ⟨_, rfl⟩
            subst hwo
            by_cases hi : i < 3
            · have hii : (i : Int) < 3 := by omega
              have hi0 : (0 : Int) ≤ (i : Int) := by omega
              obtain ⟨xa, xn, xc, ya, yn, yc, A', E', z0, z1, HW⟩ := HQ.out wo HBR.out i hi
              have HRW := Lib.hid HW
              clear HW hi
              have hxn := heap_alloc_new wo (.cells #[.slice none 0 0, .slice none 0 0] 41)
              have hbn := balloc (Below.refl _ wo) (.cells #[.slice none 0 0, .slice none 0 0] 41)
              obtain ⟨Y, hY⟩ : ∃ Y, wo.heap.size = Y := ⟨_, rfl⟩
              obtain ⟨wa, hwa⟩ : ∃ wa, wo.alloc (.cells #[.slice none 0 0, .slice none 0 0] 41) = wa := ⟨_, rfl⟩
              have HYo : Hid (Y = wo.heap.size) := Lib.hid hY.symm
              rw [hY, hwa] at hxn
              rw [hwa] at hbn
              have y0 : wa.cell? ⟨Y, 0, none⟩ = some (.slice none 0 0) := nd_cell hxn rfl
              have y1 : wa.cell? ⟨Y, 1, none⟩ = some (.slice none 0 0) := nd_cell hxn rfl
              have f0 := nd_froz hxn 0
              have f1 := nd_froz hxn 1
              obtain ⟨wy, hwy, hyy, hfy⟩ := set2 hxn (.slice xa xn xc) (.slice ya yn yc)
              have HYY := Lib.hid hyy
              have HBY := Lib.hid (hfy.below wo hbn (fun q hq => by rw [hq, HYo.out]; exact Nat.le_refl _))
              clear hxn hbn hyy hfy
              go_upto_region 8 with fail
              try rw [hwy]
              clear y0 y1 f0 f1 hwy hwa hY z0 z1
              have hxn := heap_alloc_new wy (.cells #[.int .i64 a1, .int .i64 (1 + (k : Int)), .int .i64 64] 3)
              have hbn := balloc (Below.refl _ wy) (.cells #[.int .i64 a1, .int .i64 (1 + (k : Int)), .int .i64 64] 3)
              obtain ⟨M, hM⟩ : ∃ M, wy.heap.size = M := ⟨_, rfl⟩
              obtain ⟨w8, hw8⟩ : ∃ w8, wy.alloc (.cells #[.int .i64 a1, .int .i64 (1 + (k : Int)), .int .i64 64] 3) = w8 := ⟨_, rfl⟩
              rw [hM, hw8] at hxn
              rw [hw8] at hbn
              have HM8 := Lib.hid hxn
              have HB8 := Lib.hid hbn
              have HMM : Hid (∀ U, Below w8.heap.size w8 U → ∀ p : Nat, p < 3 → ∃ z : Int, U.cell? ⟨M, p, none⟩ = some (.int .i64 z)) := Lib.hid fun U hU p hp => by
                have h1 := (hU.block M (Array.getElem?_eq_some_iff.1 HM8.out).1).trans HM8.out
                have h2 : p = 0 ∨ p = 1 ∨ p = 2 := by omega
                rcases h2 with rfl | rfl | rfl <;> exact ⟨_, nd_cell h1 rfl⟩
              clear hxn hbn
              go_upto_region 9 with fail
              try rw [hw8]
              try rw [hM]
              clear hw8 hM
              go_loopw [60] (fun v60 wr => ∃ p : Nat, v60 = .int .i64 (p : Int) ∧ p ≤ 3 ∧ Hid (Below w8.heap.size w8 wr)) (fun v _ => 3 - (intOf v).toNat)
              case atStart => exact ⟨0, rfl, by omega, Lib.hid (Below.refl _ w8)⟩
              case round =>
                obtain ⟨p, rfl, hp3, HBP⟩ := hrel
                obtain ⟨wm, hwm⟩ : ∃ wm, wm = wr := ⟨_, rfl⟩
                subst hwm
                by_cases hp : p < 3
                · have hpp : (p : Int) < 3 := by omega
                  have hp0 : (0 : Int) ≤ (p : Int) := by omega
                  obtain ⟨z, hz⟩ := HMM.out wm HBP.out p hp
                  clear hp
                  go_upto_region 11 with fail
                  clear hz
                  have hxn := heap_alloc_new wm (.cells #[.int .i64 a2, .int .i64 (1 + (j : Int))] 3)
                  have hbn := balloc (Below.refl _ wm) (.cells #[.int .i64 a2, .int .i64 (1 + (j : Int))] 3)
                  obtain ⟨N, hN⟩ : ∃ N, wm.heap.size = N := ⟨_, rfl⟩
                  obtain ⟨wn, hwn⟩ : ∃ wn, wm.alloc (.cells #[.int .i64 a2, .int .i64 (1 + (j : Int))] 3) = wn := ⟨_, rfl⟩
                  rw [hN, hwn] at hxn
                  rw [hwn] at hbn
                  have HN8 := Lib.hid hxn
                  have HBN := Lib.hid hbn
                  have HNN : Hid (∀ U, Below wn.heap.size wn U → ∀ q : Nat, q < 2 → ∃ z : Int, U.cell? ⟨N, q, none⟩ = some (.int .i64 z) ∧ z ≤ 9223372036854775807) := Lib.hid fun U hU q hq => by
                    have h1 := (hU.block N (Array.getElem?_eq_some_iff.1 HN8.out).1).trans HN8.out
                    have h2 : q = 0 ∨ q = 1 := by omega
                    rcases h2 with rfl | rfl
                    · exact ⟨_, nd_cell h1 rfl, HM9.out⟩
                    · exact ⟨_, nd_cell h1 rfl, by omega⟩
                  clear hxn hbn
                  go_upto_region 12 with fail
                  try rw [hwn]
                  try rw [hN]
                  clear hwn hN
                  go_loopw [70] (fun v70 wr => ∃ q : Nat, v70 = .int .i64 (q : Int) ∧ q ≤ 2 ∧ Hid (Below wn.heap.size wn wr)) (fun v _ => 2 - (intOf v).toNat)
                  case atStart => exact ⟨0, rfl, by omega, Lib.hid (Below.refl _ wn)⟩
                  case round =>
                    obtain ⟨q, rfl, hq2, HBQ⟩ := hrel
                    by_cases hq : q < 2
                    · have hqq : (q : Int) < 2 := by omega
                      have hq0 : (0 : Int) ≤ (q : Int) := by omega
                      obtain ⟨z', hz', hzm⟩ := HNN.out wr HBQ.out q hq
                      have HZM := Lib.hid hzm
                      clear hq hzm
                      go_upto_region 14 with fail
                      clear hz'
                      obtain ⟨wf, hwf⟩ : ∃ wf, wr.drew = wf := ⟨_, rfl⟩
                      have HWF := Lib.hid hwf
                      have hbf : Below wr.heap.size wr wf := by rw [← hwf]; exact Below.drew (Below.refl _ wr)
                      have HBF := Lib.hid (bnext HBQ.out hbf)
                      have HYF := Lib.hid (bnext HB8.out (bnext HBP.out (bnext HBN.out HBF.out)))
                      have HBW := Lib.hid (bnext HBR.out (bnext HBY.out HYF.out))
                      have HKS : Hid (∀ U, Below wf.heap.size wf U → U.cell? ⟨Y, 0, none⟩ = some (.slice xa xn xc) ∧ U.cell? ⟨Y, 1, none⟩ = some (.slice ya yn yc)) := Lib.hid fun U hU => by
                        have h1 := ((bnext HYF.out hU).block Y (Array.getElem?_eq_some_iff.1 HYY.out).1).trans HYY.out
                        exact ⟨nd_cell h1 rfl, nd_cell h1 rfl⟩
                      clear hwf hbf
                      refine wp_region_held_drew (S := (fun U => U.cell? ⟨Y, 0, none⟩ = some (.slice xa xn xc) ∧ U.cell? ⟨Y, 1, none⟩ = some (.slice ya yn yc))) (by kernel_rfl) ?_ (fun hHeld => ?_)
                      · (rw [HWF.out]; exact HKS.out _ (Below.refl _ _))
                      rw [HWF.out] at hHeld ⊢
                      refine wpAnyH_take (i := 0) (oi := { dst := some 74, op := Op.fieldAddr 41 (Operand.tmp 13) 0, type := 0, pos := "law.go:88", after := #[], guard := none }) (v := ?_) rfl (by kernel_rfl) (by kernel_rfl) (by kernel_rfl) (fun _ _ _ h => h) (Or.inl ⟨by rfl, ?_⟩) (by assumption) ?_
                      rotate_left
                      · ((intro w hSw; (try dsimp only at hSw); go_simp; (try rw [if_neg (by omega)])); try with_reducible rfl)
                      (try simp only [Act.put, List.setIfInBounds_toArray, List.set_cons_zero, List.set_cons_succ])
                      refine wpAnyH_take (i := 1) (oi := { dst := some 75, op := Op.load 32 (Operand.tmp 74), type := 32, pos := "law.go:88", after := #[{ on := 0, ground := Ground.data }], guard := none }) (v := ?_) rfl (by kernel_rfl) (by kernel_rfl) (by kernel_rfl) (fun _ _ _ h => h) (Or.inl ⟨by rfl, ?_⟩) (by assumption) ?_
                      rotate_left
                      · ((intro w hSw; (try dsimp only at hSw); go_simp; (try rw [if_neg (by omega)])); try with_reducible rfl)
                      (try simp only [Act.put, List.setIfInBounds_toArray, List.set_cons_zero, List.set_cons_succ])
                      refine wpAnyH_take (i := 2) (oi := { dst := some 76, op := Op.fieldAddr 41 (Operand.tmp 13) 1, type := 0, pos := "law.go:88", after := #[], guard := none }) (v := ?_) rfl (by kernel_rfl) (by kernel_rfl) (by kernel_rfl) (fun _ _ _ h => h) (Or.inl ⟨by rfl, ?_⟩) (by assumption) ?_
                      rotate_left
                      · ((intro w hSw; (try dsimp only at hSw); go_simp; (try rw [if_neg (by omega)])); try with_reducible rfl)
                      (try simp only [Act.put, List.setIfInBounds_toArray, List.set_cons_zero, List.set_cons_succ])
                      refine wpAnyH_take (i := 3) (oi := { dst := some 77, op := Op.load 32 (Operand.tmp 76), type := 32, pos := "law.go:88", after := #[{ on := 2, ground := Ground.data }], guard := none }) (v := ?_) rfl (by kernel_rfl) (by kernel_rfl) (by kernel_rfl) (fun _ _ _ h => h) (Or.inl ⟨by rfl, ?_⟩) (by assumption) ?_
                      rotate_left
                      · ((intro w hSw; (try dsimp only at hSw); go_simp; (try rw [if_neg (by omega)])); try with_reducible rfl)
                      (try simp only [Act.put, List.setIfInBounds_toArray, List.set_cons_zero, List.set_cons_succ])
                      refine wpAnyH_take (i := 4) (oi := { dst := some 78, op := Op.move (Operand.tmp 15), type := 3, pos := "law.go:88", after := #[], guard := none }) (v := ?_) rfl (by kernel_rfl) (by kernel_rfl) (by kernel_rfl) (fun _ _ _ h => h) (Or.inl ⟨by rfl, ?_⟩) (by assumption) ?_
                      rotate_left
                      · ((intro w hSw; (try dsimp only at hSw); go_simp; (try rw [if_neg (by omega)])); try with_reducible rfl)
                      (try simp only [Act.put, List.setIfInBounds_toArray, List.set_cons_zero, List.set_cons_succ])
                      refine wpAnyH_take (i := 5) (oi := { dst := some 79, op := Op.move (Operand.tmp 17), type := 3, pos := "law.go:88", after := #[], guard := none }) (v := ?_) rfl (by kernel_rfl) (by kernel_rfl) (by kernel_rfl) (fun _ _ _ h => h) (Or.inl ⟨by rfl, ?_⟩) (by assumption) ?_
                      rotate_left
                      · ((intro w hSw; (try dsimp only at hSw); go_simp; (try rw [if_neg (by omega)])); try with_reducible rfl)
                      (try simp only [Act.put, List.setIfInBounds_toArray, List.set_cons_zero, List.set_cons_succ])
                      refine wpAnyH_take (i := 7) (oi := { dst := some 81, op := Op.fieldAddr 41 (Operand.tmp 13) 0, type := 0, pos := "law.go:88", after := #[], guard := none }) (v := ?_) rfl (by kernel_rfl) (by kernel_rfl) (by kernel_rfl) (fun _ _ _ h => h) (Or.inl ⟨by rfl, ?_⟩) (by assumption) ?_
                      rotate_left
                      · ((intro w hSw; (try dsimp only at hSw); go_simp; (try rw [if_neg (by omega)])); try with_reducible rfl)
                      (try simp only [Act.put, List.setIfInBounds_toArray, List.set_cons_zero, List.set_cons_succ])
                      refine wpAnyH_take (i := 8) (oi := { dst := some 82, op := Op.load 32 (Operand.tmp 81), type := 32, pos := "law.go:88", after := #[{ on := 7, ground := Ground.data }], guard := none }) (v := ?_) rfl (by kernel_rfl) (by kernel_rfl) (by kernel_rfl) (fun _ _ _ h => h) (Or.inl ⟨by rfl, ?_⟩) (by assumption) ?_
                      rotate_left
                      · ((intro w hSw; (try dsimp only at hSw); go_simp; (try rw [if_neg (by omega)])); try with_reducible rfl)
                      (try simp only [Act.put, List.setIfInBounds_toArray, List.set_cons_zero, List.set_cons_succ])
                      refine wpAnyH_take (i := 9) (oi := { dst := some 83, op := Op.fieldAddr 41 (Operand.tmp 13) 1, type := 0, pos := "law.go:88", after := #[], guard := none }) (v := ?_) rfl (by kernel_rfl) (by kernel_rfl) (by kernel_rfl) (fun _ _ _ h => h) (Or.inl ⟨by rfl, ?_⟩) (by assumption) ?_
                      rotate_left
                      · ((intro w hSw; (try dsimp only at hSw); go_simp; (try rw [if_neg (by omega)])); try with_reducible rfl)
                      (try simp only [Act.put, List.setIfInBounds_toArray, List.set_cons_zero, List.set_cons_succ])
                      refine wpAnyH_take (i := 10) (oi := { dst := some 84, op := Op.load 32 (Operand.tmp 83), type := 32, pos := "law.go:88", after := #[{ on := 9, ground := Ground.data }], guard := none }) (v := ?_) rfl (by kernel_rfl) (by kernel_rfl) (by kernel_rfl) (fun _ _ _ h => h) (Or.inl ⟨by rfl, ?_⟩) (by assumption) ?_
                      rotate_left
                      · ((intro w hSw; (try dsimp only at hSw); go_simp; (try rw [if_neg (by omega)])); try with_reducible rfl)
                      (try simp only [Act.put, List.setIfInBounds_toArray, List.set_cons_zero, List.set_cons_succ])
                      refine wpAnyH_take (i := 11) (oi := { dst := some 85, op := Op.move (Operand.tmp 15), type := 3, pos := "law.go:88", after := #[], guard := none }) (v := ?_) rfl (by kernel_rfl) (by kernel_rfl) (by kernel_rfl) (fun _ _ _ h => h) (Or.inl ⟨by rfl, ?_⟩) (by assumption) ?_
                      rotate_left
                      · ((intro w hSw; (try dsimp only at hSw); go_simp; (try rw [if_neg (by omega)])); try with_reducible rfl)
                      (try simp only [Act.put, List.setIfInBounds_toArray, List.set_cons_zero, List.set_cons_succ])
                      refine wpAnyH_take (i := 12) (oi := { dst := some 86, op := Op.move (Operand.tmp 17), type := 3, pos := "law.go:88", after := #[], guard := none }) (v := ?_) rfl (by kernel_rfl) (by kernel_rfl) (by kernel_rfl) (fun _ _ _ h => h) (Or.inl ⟨by rfl, ?_⟩) (by assumption) ?_
                      rotate_left
                      · ((intro w hSw; (try dsimp only at hSw); go_simp; (try rw [if_neg (by omega)])); try with_reducible rfl)
                      (try simp only [Act.put, List.setIfInBounds_toArray, List.set_cons_zero, List.set_cons_succ])
                      refine wpAnyH_ready (rs := [6]) (by kernel_rfl) (by simp) ?_
                      refine AllReadyH.cons (o := { dst := some 80, op := Op.call { callee := Callee.value (Operand.func 22), args := #[Operand.tmp 75, Operand.tmp 77, Operand.tmp 78, Operand.tmp 79], argTypes := #[32, 32, 3, 3] }, type := 46, pos := "law.go:88", after := #[{ on := 1, ground := Ground.data }, { on := 3, ground := Ground.data }, { on := 4, ground := Ground.data }, { on := 5, ground := Ground.data }], guard := none }) rfl (fun K hK => ?_) ?_
                      · (go_simp; go_at_call 22; refine (plan_rw g (HL6.out.mono HBW.out) z z' (HRW.out _ HBW.out).1 (HRW.out _ HBW.out).2 HZM.out).mono ?_; rintro u q1 ⟨vp, rfl, hs1, bq1⟩; have HS1 := Lib.hid hs1; clear hs1; dsimp only)
                        refine hK.out _ _ ?_ (fun hHeld => ?_)
                        · exact HKS.out _ bq1
                        clear hK K
                        (try simp only [Act.put, List.setIfInBounds_toArray, List.set_cons_zero, List.set_cons_succ])
                        refine wpAnyH_ready (rs := [13]) (by kernel_rfl) (by simp) ?_
                        refine AllReadyH.cons (o := { dst := some 87, op := Op.call { callee := Callee.value (Operand.func 23), args := #[Operand.tmp 82, Operand.tmp 84, Operand.tmp 85, Operand.tmp 86], argTypes := #[32, 32, 3, 3] }, type := 46, pos := "law.go:88", after := #[{ on := 8, ground := Ground.data }, { on := 10, ground := Ground.data }, { on := 11, ground := Ground.data }, { on := 12, ground := Ground.data }, { on := 6, ground := Ground.chain }], guard := none }) rfl (fun K hK => ?_) ?_
                        · (go_simp; go_at_call 23; refine (rplan_rw z z' (HRW.out _ (bnext HBW.out bq1)).1 (HRW.out _ (bnext HBW.out bq1)).2 HZM.out).mono ?_; rintro u q2 ⟨vq, rfl, hs2, bq2⟩; have hsm := samer_any q2 _ _ vp vq _ _ rfl rfl (SrcN.keep HS1.out bq2) hs2 (by have := planP_len A' E' z z'; omega) (by have := planP_len A' E' z z'; omega); rw [decide_eq_true rfl] at hsm; have HSM := Lib.hid hsm; clear hsm hs2; have bq3 := bnext bq1 bq2; dsimp only)
                          refine hK.out _ _ ?_ (fun hHeld => ?_)
                          · exact HKS.out _ bq3
                          clear hK K
                          (try simp only [Act.put, List.setIfInBounds_toArray, List.set_cons_zero, List.set_cons_succ])
                          refine wpAnyH_ready (rs := [14]) (by kernel_rfl) (by simp) ?_
                          refine AllReadyH.cons (o := { dst := some 88, op := Op.call { callee := Callee.value (Operand.func 21), args := #[Operand.tmp 80, Operand.tmp 87], argTypes := #[46, 46] }, type := 4, pos := "law.go:88", after := #[{ on := 6, ground := Ground.data }, { on := 13, ground := Ground.data }, { on := 13, ground := Ground.chain }], guard := none }) rfl (fun K hK => ?_) ?_
                          · (go_simp; go_at_call 21; refine HSM.out.mono ?_; rintro u q3 ⟨rfl, bq⟩; have bq4 := bnext bq3 bq; dsimp only)
                            refine hK.out _ _ ?_ (fun hHeld => ?_)
                            · exact HKS.out _ bq4
                            clear hK K
                            (try simp only [Act.put, List.setIfInBounds_toArray, List.set_cons_zero, List.set_cons_succ])
                            refine wpAnyH_take (i := 15) (oi := { dst := some 89, op := Op.unOp UnOp.not 4 (Operand.tmp 88), type := 4, pos := "law.go:88", after := #[{ on := 14, ground := Ground.data }], guard := none }) (v := ?_) rfl (by kernel_rfl) (by kernel_rfl) (by kernel_rfl) (fun _ _ _ h => h) (Or.inl ⟨by rfl, ?_⟩) (by assumption) ?_
                            rotate_left
                            · ((intro w hSw; (try dsimp only at hSw); go_simp; (try rw [if_neg (by omega)])); try with_reducible rfl)
                            (try simp only [Act.put, List.setIfInBounds_toArray, List.set_cons_zero, List.set_cons_succ])
                            refine wpAnyH_done (by kernel_rfl) ?_ _
                            clear hHeld
                            have HBT := Lib.hid (bnext HBF.out bq4)
                            clear bq1 bq2 bq3 bq bq4
                            go_simp
                            go_wp2
                            go_roundw
                            case rel => exact ⟨q + 1, by go_num, by omega, HBT⟩
                            case measure => simp [intOf]; omega
                          exact AllReadyH.nil
                        exact AllReadyH.nil
                      exact AllReadyH.nil
                    · have hqq : ¬ (q : Int) < 2 := by omega
                      clear hq
                      have HBS := Lib.hid (bnext HBP.out (bnext HBN.out HBQ.out))
                      go_wp2
                      go_roundw
                      case rel => exact ⟨p + 1, by go_num, by omega, HBS⟩
                      case measure => simp [intOf]; omega
                · have hpp : ¬ (p : Int) < 3 := by omega
                  clear hp
                  have HBS := Lib.hid (bnext HBR.out (bnext HBY.out (bnext HB8.out HBP.out)))
                  go_wp2
                  go_roundw
                  case rel => exact ⟨i + 1, by go_num, by omega, HBS⟩
                  case measure => simp [intOf]; omega
            · have hii : ¬ (i : Int) < 3 := by omega
              clear hi
              go_wp2
              go_ret
              exact ⟨rfl, bnext HBA.out HBR.out⟩
        exact AllReadyH.nil
    exact AllReadyH.nil
  exact AllReadyH.nil

set_option maxRecDepth 100000 in
theorem lifted (os : Os) (started : os.Started) (H : Type) (enc : TypeId × Value → H) :
    ReturnsInHanded {} Tryd.checked os 4 .any (fun w args => (Rows.panelPlansSpec.pre enc Tryd.prog Tryd.f4 [] false w args ∧ laidMetH Tryd.prog laidL w) ∧ sizedMet enc Tryd.prog Tryd.f4 (OpenSpec.ofChange Rows.panelPlansSpec) false w args)
      (Rows.panelPlansSpec.post enc Tryd.prog Tryd.f4 false true false false) := by
  refine returnsInHanded_of_change_and (C := Tryd.checked) (X := fun w _ => laidMetH Tryd.prog laidL w) (fun _ _ _ hh h => h.of_heap hh) own started (by kernel_rfl) Tryd.func4
    (ChangeSpec.witness_shaped (enc := enc) (C := Tryd.checked) (os := os) (X := fun w _ => laidMetH Tryd.prog laidL w) false (World.doorLaid Tryd.prog 46 os) #[.agg #[.slice none 0 0, .slice none 0 0], .int .i64 0, .int .i64 0] 8 rfl (World.shaped_of_RefB (by kernel_rfl) (by kernel_rfl)) (by kernel_rfl) (by kernel_rfl) (by kernel_rfl) (door_met os _)) ?_
  intro W base args ds gs before hval0 hW _ _ hL _
  have hval : ∀ (j : Nat) t v, Tryd.f4.params[j]? = some t → args[j]? = some v → Value.okWide Tryd.prog W .any base t v := hval0
  have hW' := hW
  obtain ⟨p, q, hA0, hV, rfl, hfz, hnd⟩ := hW
  have hA : DataW.TrodAll enc Tryd.prog W 0 (fun _ => true) true Tryd.f4.params.toList args.toList ds p := hA0
  rw [Tryd.params4] at hA hval
  obtain ⟨v0, vs0, d0, ds0, p0, q0, hargs, rfl, rfl, h0, r0⟩ := trodAll_cons hA
  obtain ⟨v1, vs1, d1, ds1, p1, q1, rfl, rfl, rfl, h1, r1⟩ := trodAll_cons r0
  obtain ⟨v2, vs2, d2, ds2, p2, q2, rfl, rfl, rfl, h2, r2⟩ := trodAll_cons r1
  obtain ⟨rfl, rfl, rfl⟩ := trodAll_nil r2
  obtain rfl : args = #[v0, v1, v2] := by cases args; simp_all
  obtain ⟨rfl, rfl⟩ := trodVars_none hV
  obtain ⟨g, hlaid⟩ := of_laid hL
  have k0 := h0
  have lt0 : ∀ x ∈ p0, x.block < W.heap.size := by obtain ⟨m, hm⟩ := k0; exact DataW.trod_lt m _ _ _ hm
  have k1 := h1
  have lt1 : ∀ x ∈ p1, x.block < W.heap.size := by obtain ⟨m, hm⟩ := k1; exact DataW.trod_lt m _ _ _ hm
  have k2 := h2
  have lt2 : ∀ x ∈ p2, x.block < W.heap.size := by obtain ⟨m, hm⟩ := k2; exact DataW.trod_lt m _ _ _ hm
  obtain ⟨p0, q0, l0, m0, rfl, H0⟩ := open_rows2 (hval 0 41 v0 rfl rfl) h0
  obtain ⟨a1, rfl, rfl, rfl, wa1⟩ := open_int Tryd.underlying3 (hval 1 3 v1 rfl rfl) h1
  obtain ⟨a2, rfl, rfl, rfl, wa2⟩ := open_int Tryd.underlying3 (hval 2 3 v2 rfl rfl) h2
  clear hA0 hval0
  refine (walk p0 q0 l0 m0 a1 a2 g wa1 wa2 W hlaid H0).mono fun e W' ⟨he, bel⟩ => ?_
  subst he
  exact ⟨_, rfl, _, _, _, [], _, [], hW', trodAll_mk1 (shut_bool Tryd.underlying4 _), (trodAll_cons_mk (Below.trod laidOut (by kernel_rfl) (of_decide_eq_true (by kernel_rfl)) k0 bel lt0) (trodAll_cons_mk (Below.trod laidOut (by kernel_rfl) (of_decide_eq_true (by kernel_rfl)) k1 bel lt1) (trodAll_cons_mk (Below.trod laidOut (by kernel_rfl) (of_decide_eq_true (by kernel_rfl)) k2 bel lt2) trodAll_mk0))), rfl, bel.frame _, fun h => by cases h⟩

theorem over : Rows.panelPlansRow.holds Tryd.pinned (OpenSpec.ofChange Rows.panelPlansSpec) :=
  OpenClaim.holds_of_wide 4 Tryd.f4 rfl rfl rfl rfl rfl rfl rfl ⟨rfl, rfl, rfl, rfl, rfl⟩ rfl rfl rfl rfl rfl (by kernel_rfl) Tryd.func4 (by kernel_rfl)
    (of_decide_eq_true (by kernel_rfl)) (by unfold Func.isWrapper; first | (rw [if_pos (by decide +kernel)]; kernel_rfl) | (rw [if_neg (by decide +kernel)]; exact ⟨rfl, rfl⟩))
    (fun os started H enc _ => lifted os started H enc)

/-- The row's card, tied to the program's text. -/
theorem card : Rows.PanelPlansCardSaid :=
  Claim7.holds_tied_plain_at .later [] [.data] true Rows.panelPlansCard.stood.harness false
    over (fun _ h => by cases h) (by kernel_rfl) (fun _ h => by cases h) panelPlans_row_tie rfl ⟨rfl, rfl⟩ (by kernel_rfl) rfl
    (fun f fn hf hfn => by
      obtain rfl : f = 4 := Option.some.inj ((show Tryd.prog.funcNamed "abugida/abugidalaw33.PanelPlans" = some 4 by kernel_rfl).symm.trans hf) |>.symm
      obtain rfl : fn = Tryd.f4 := (Option.some.inj (Tryd.func4.symm.trans hfn)).symm
      exact ⟨by kernel_rfl, fun j t ht => by
        rw [Tryd.params4] at ht
        have hm : t ∈ [41, 3, 3] := by simpa using Array.mem_of_getElem? ht
        have hall : ([41, 3, 3].all fun u => !Tryd.prog.wantsStandIn u) = true := by kernel_rfl
        exact (show Tryd.prog.wantsStandIn t = false by simpa using List.all_eq_true.1 hall t hm)⟩)
    (by kernel_rfl)

end Go.Proofs.YtmiennkldkcnfaaDoor.panelPlans
namespace Go.Proofs.YtmiennkldkcnfaaDoor
theorem panelPlans_proved : Rows.PanelPlansCardSaid := panelPlans.card
#print axioms panelPlans_proved
end Go.Proofs.YtmiennkldkcnfaaDoor
