/- normals and scalar of the laws, where they hold. No conditions. -/
import Derived.Test.YtbhkbjnmpaebdaaAxE
import Derived.Test.YtbhkbjnmpaebdaaAx16
import Derived.Test.YtbhkbjnmpaebdaaAx18
namespace Go.Proofs.Ytbhkbjnmpaebdaa
set_option maxRecDepth 100000
set_option linter.unusedVariables false
open Go.RowKit Go.Deep
theorem normal_c {x : AX.Ax} {n r : Int} (h : AX.normal x n = r) (v : Value) (w : World) (hl : x.map.length ≤ 1000000000000) (hs : x.name.size ≤ 1000000000000) (hv : PrAt w v x.map) :
    Calls Try.prog 16 #[AxV v x, .int .i64 n] w fun e w' => e = .returned (.int .i64 r) ∧ Below w.heap.size w w' := by
  have := normal_any x n v w hl hs hv
  rwa [h] at this
set_option maxHeartbeats 4000000 in
theorem normals_yes (x : AX.Ax) (v vl : Value) (l : List AX.Pr) (w : World) (hv : PrAt w v x.map) (hvl : PrAt w vl l) (hml : x.map.length ≤ 1000000000000) (hnl : x.name.size ≤ 1000000000000) (hll : l.length ≤ 1000000) (h : ∀ p ∈ l, AX.normal x p.1 = p.2) (hck : AX.check x = 0) :
    Calls Try.prog 41 #[AxV v x, vl] w fun e w' => e = .returned (.bool true) ∧ Below w.heap.size w w' := by
  have HPV : Hid (∀ V, Below w.heap.size w V → PrAt V v x.map) := Lib.hid fun V hV => hv.keep hV
  have HPL : Hid (∀ V, Below w.heap.size w V → PrAt V vl l) := Lib.hid fun V hV => hvl.keep hV
  have HH := Lib.hid h
  obtain ⟨la, lc, rfl, -⟩ := hvl
  obtain ⟨ln, hln⟩ : ∃ ln, l.length = ln := ⟨_, rfl⟩
  have HLN := Lib.hid hln
  have HCK := Lib.hid hck
  obtain ⟨ma, mc, hma, -⟩ := hv
  obtain ⟨mn, hmn⟩ : ∃ mn, x.map.length = mn := ⟨_, rfl⟩
  rw [hmn] at hma
  subst hma
  have HXV : Hid (∀ nm lo de hi, x.name = nm → x.lo = lo → x.de = de → x.hi = hi → AxV (.slice ma mn mc) x = .agg #[.string nm, .int .i64 lo, .int .i64 de, .int .i64 hi, .slice ma mn mc]) := Lib.hid fun nm lo de hi h1 h2 h3 h4 => by unfold AxV; rw [h1, h2, h3, h4]
  obtain ⟨nm, h1⟩ : ∃ nm, x.name = nm := ⟨_, rfl⟩
  obtain ⟨lo, h2⟩ : ∃ lo, x.lo = lo := ⟨_, rfl⟩
  obtain ⟨de, h3⟩ : ∃ de, x.de = de := ⟨_, rfl⟩
  obtain ⟨hi, h4⟩ : ∃ hi, x.hi = hi := ⟨_, rfl⟩
  have hxv := HXV.out nm lo de hi h1 h2 h3 h4
  have HNC : Hid (∀ (n r : Int) (V : World), AX.normal x n = r → Below w.heap.size w V → Calls Try.prog 16 #[.agg #[.string nm, .int .i64 lo, .int .i64 de, .int .i64 hi, .slice ma mn mc], .int .i64 n] V fun e w' => e = .returned (.int .i64 r) ∧ Below V.heap.size V w') := Lib.hid fun n r V hn hV => by
    have := normal_c hn (.slice ma mn mc) V hml hnl (HPV.out V hV)
    rwa [hxv] at this
  have HCC : Hid (∀ (V : World), Below w.heap.size w V → Calls Try.prog 14 #[.agg #[.string nm, .int .i64 lo, .int .i64 de, .int .i64 hi, .slice ma mn mc]] V fun e w' => e = .returned (.int .i64 0) ∧ Below V.heap.size V w') := Lib.hid fun V hV => by
    have := check_c HCK.out (.slice ma mn mc) V hml hnl (HPV.out V hV)
    rwa [hxv] at this
  rw [hxv, hln]
  rw [hln] at hll HPL
  clear hxv HXV h1 h2 h3 h4 hmn h hln hck
  obtain ⟨B, hB⟩ : ∃ B, w.heap.size = B := ⟨_, rfl⟩
  obtain ⟨W0, hW0⟩ : ∃ W0, w.alloc (.cells #[.string nm, .int .i64 lo, .int .i64 de, .int .i64 hi, .slice ma mn mc] 24) = W0 := ⟨_, rfl⟩
  have hbx : W0.heap[B]? = some (.cells #[.string nm, .int .i64 lo, .int .i64 de, .int .i64 hi, .slice ma mn mc] 24 (0, 0)) := by rw [← hW0, ← hB]; exact heap_alloc_new w _
  have hb0 : Below w.heap.size w W0 := by rw [← hW0]; exact balloc (Below.refl _ _) _
  have HBX : Hid (∀ V, Below W0.heap.size W0 V → V.heap[B]? = some (.cells #[.string nm, .int .i64 lo, .int .i64 de, .int .i64 hi, .slice ma mn mc] 24 (0, 0))) := Lib.hid fun V hV => (hV.block B (Array.getElem?_eq_some_iff.1 hbx).1).trans hbx
  have HB := Lib.hid hB
  have HB0 := Lib.hid hb0
  clear hbx hb0
  go_enter Try.func41, Try.ntmps41
  go_wp2_with fail
  try rw [hW0]
  try rw [hB]
  clear hW0 hB
  go_loopw [9] (fun v9 wr => ∃ k : Nat, v9 = .int .i64 (k : Int) ∧ k ≤ ln ∧ Below W0.heap.size W0 wr) (fun v _ => ln - (intOf v).toNat)
  case atStart => exact ⟨0, rfl, Nat.zero_le _, Below.refl _ _⟩
  case round =>
    obtain ⟨k, rfl, hk, hb⟩ := hrel
    obtain ⟨wo, hwo⟩ : ∃ wo, wo = wr := ⟨_, rfl⟩
    subst hwo
    have HB2 := Lib.hid hb
    by_cases hin : k < ln
    · have hii : (k : Int) < (ln : Int) := by omega
      have hi0 : (0 : Int) ≤ (k : Int) := by omega
      obtain ⟨p, hp⟩ : ∃ p, l[k]? = some p := ⟨l[k]'(by rw [HLN.out]; exact hin), List.getElem?_eq_getElem _⟩
      obtain ⟨aw, cw, e1, hcw⟩ := HPL.out wo (bnext HB0.out hb)
      rw [HLN.out] at e1
      injection e1 with e1 e2 e3
      subst e1 e3
      rcases hcw with h | ⟨g, o, rfl, hg, hcl⟩
      · rw [h] at hp
        simp at hp
      obtain ⟨c0, c1⟩ := hcl k p hp
      have hpn := HH.out p (List.mem_of_getElem? hp)
      have HNO := Lib.hid hpn
      clear hcl hp hpn
      go_upto_region 4 with fail
      obtain ⟨W1, hW1⟩ : ∃ W1, wo.alloc (.cells #[.int .i64 p.1, .int .i64 p.2] 30) = W1 := ⟨_, rfl⟩
      obtain ⟨P, hP⟩ : ∃ P, wo.heap.size = P := ⟨_, rfl⟩
      have hpx : W1.heap[P]? = some (.cells #[.int .i64 p.1, .int .i64 p.2] 30 (0, 0)) := by rw [← hW1, ← hP]; exact heap_alloc_new wo _
      have hb1 : Below W0.heap.size W0 W1 := by rw [← hW1]; exact balloc hb _
      try rw [hW1]
      try rw [hP]
      have HB1 := Lib.hid hb1
      have hbx := HBX.out W1 hb1
      have c5 := cell_of hpx (i := 0) rfl
      have c6 := cell_of hpx (i := 1) rfl
      have d0 := cell_of hbx (i := 0) rfl
      have d1 := cell_of hbx (i := 1) rfl
      have d2 := cell_of hbx (i := 2) rfl
      have d3 := cell_of hbx (i := 3) rfl
      have d4 := cell_of hbx (i := 4) rfl
      have hlt1 := (Array.getElem?_eq_some_iff.1 hbx).1
      have hlt2 := (Array.getElem?_eq_some_iff.1 hpx).1
      have HS : Hid (∀ V, Below W1.heap.size W1 V → V.cell? ⟨B, 0, none⟩ = some (.string nm) ∧ V.cell? ⟨B, 1, none⟩ = some (.int .i64 lo) ∧ V.cell? ⟨B, 2, none⟩ = some (.int .i64 de) ∧ V.cell? ⟨B, 3, none⟩ = some (.int .i64 hi) ∧ V.cell? ⟨B, 4, none⟩ = some (.slice ma mn mc) ∧ V.cell? ⟨P, 0, none⟩ = some (.int .i64 p.1) ∧ V.cell? ⟨P, 1, none⟩ = some (.int .i64 p.2)) := Lib.hid fun V hV =>
        ⟨(hV.cell (p := ⟨B, 0, none⟩) hlt1).trans d0, (hV.cell (p := ⟨B, 1, none⟩) hlt1).trans d1, (hV.cell (p := ⟨B, 2, none⟩) hlt1).trans d2, (hV.cell (p := ⟨B, 3, none⟩) hlt1).trans d3, (hV.cell (p := ⟨B, 4, none⟩) hlt1).trans d4, (hV.cell (p := ⟨P, 0, none⟩) hlt2).trans c5, (hV.cell (p := ⟨P, 1, none⟩) hlt2).trans c6⟩
      clear hW1 hP hpx hb1 hbx c0 c1 c5 c6 d0 d1 d2 d3 d4 hb
      refine wp_region_last #[{ dst := some 13, op := Op.load 24 (Operand.tmp 2), type := 24, pos := "law.go:20", after := #[], guard := none }, { dst := some 14, op := Op.indexAddr 30 (Operand.tmp 6) (Operand.const (Value.int IntKind.i64 0)), type := 0, pos := "law.go:20", after := #[], guard := none }, { dst := some 15, op := Op.load 3 (Operand.tmp 14), type := 3, pos := "law.go:20", after := #[{ on := 1, ground := Ground.data }], guard := none }, { dst := some 16, op := Op.call { callee := Callee.value (Operand.func 16), args := #[Operand.tmp 13, Operand.tmp 15], argTypes := #[24, 3] }, type := 3, pos := "law.go:20", after := #[{ on := 0, ground := Ground.data }, { on := 2, ground := Ground.data }], guard := none }, { dst := some 17, op := Op.indexAddr 30 (Operand.tmp 6) (Operand.const (Value.int IntKind.i64 1)), type := 0, pos := "law.go:20", after := #[], guard := none }, { dst := some 18, op := Op.load 3 (Operand.tmp 17), type := 3, pos := "law.go:20", after := #[{ on := 4, ground := Ground.data }], guard := none }] { dst := some 19, op := Op.binOp BinOp.neq 3 (Operand.tmp 16) (Operand.tmp 18) 3, type := 4, pos := "law.go:20", after := #[{ on := 3, ground := Ground.data }, { on := 5, ground := Ground.data }], guard := none } rfl (by kernel_rfl) (by kernel_rfl) (fun w' => w'.cell? ⟨B, 0, none⟩ = some (.string nm) ∧ w'.cell? ⟨B, 1, none⟩ = some (.int .i64 lo) ∧ w'.cell? ⟨B, 2, none⟩ = some (.int .i64 de) ∧ w'.cell? ⟨B, 3, none⟩ = some (.int .i64 hi) ∧ w'.cell? ⟨B, 4, none⟩ = some (.slice ma mn mc) ∧ w'.cell? ⟨P, 0, none⟩ = some (.int .i64 p.1) ∧ w'.cell? ⟨P, 1, none⟩ = some (.int .i64 p.2)) ?_ (fun hHeld => ?_)
      · first | exact HS.out _ a3 | exact HS.out _ (Below.drew (Below.refl _ W1))
      refine wpAnyH_take (i := 0) (oi := { dst := some 13, op := Op.load 24 (Operand.tmp 2), type := 24, pos := "law.go:20", after := #[], guard := none }) (v := ?_) rfl (by kernel_rfl) (by kernel_rfl) (by kernel_rfl) (fun _ _ _ h => h) (Or.inl ⟨by rfl, ?_⟩) (by assumption) ?_
      rotate_left
      · ((intro w hSw; obtain ⟨s0, s1, s2, s3, s4, s5, s6⟩ := hSw; go_simp); try with_reducible rfl)
      (try simp only [Act.put, List.setIfInBounds_toArray, List.set_cons_zero, List.set_cons_succ])
      refine wpAnyH_take (i := 1) (oi := { dst := some 14, op := Op.indexAddr 30 (Operand.tmp 6) (Operand.const (Value.int IntKind.i64 0)), type := 0, pos := "law.go:20", after := #[], guard := none }) (v := ?_) rfl (by kernel_rfl) (by kernel_rfl) (by kernel_rfl) (fun _ _ _ h => h) (Or.inl ⟨by rfl, ?_⟩) (by assumption) ?_
      rotate_left
      · ((intro w hSw; (try dsimp only at hSw); go_simp; (try rw [if_neg (by omega)])); try with_reducible rfl)
      (try simp only [Act.put, List.setIfInBounds_toArray, List.set_cons_zero, List.set_cons_succ])
      refine wpAnyH_take (i := 2) (oi := { dst := some 15, op := Op.load 3 (Operand.tmp 14), type := 3, pos := "law.go:20", after := #[{ on := 1, ground := Ground.data }], guard := none }) (v := ?_) rfl (by kernel_rfl) (by kernel_rfl) (by kernel_rfl) (fun _ _ _ h => h) (Or.inl ⟨by rfl, ?_⟩) (by assumption) ?_
      rotate_left
      · ((intro w hSw; obtain ⟨s0, s1, s2, s3, s4, s5, s6⟩ := hSw; go_simp); try with_reducible rfl)
      (try simp only [Act.put, List.setIfInBounds_toArray, List.set_cons_zero, List.set_cons_succ])
      refine wpAnyH_take (i := 4) (oi := { dst := some 17, op := Op.indexAddr 30 (Operand.tmp 6) (Operand.const (Value.int IntKind.i64 1)), type := 0, pos := "law.go:20", after := #[], guard := none }) (v := ?_) rfl (by kernel_rfl) (by kernel_rfl) (by kernel_rfl) (fun _ _ _ h => h) (Or.inl ⟨by rfl, ?_⟩) (by assumption) ?_
      rotate_left
      · ((intro w hSw; (try dsimp only at hSw); go_simp; (try rw [if_neg (by omega)])); try with_reducible rfl)
      (try simp only [Act.put, List.setIfInBounds_toArray, List.set_cons_zero, List.set_cons_succ])
      refine wpAnyH_take (i := 5) (oi := { dst := some 18, op := Op.load 3 (Operand.tmp 17), type := 3, pos := "law.go:20", after := #[{ on := 4, ground := Ground.data }], guard := none }) (v := ?_) rfl (by kernel_rfl) (by kernel_rfl) (by kernel_rfl) (fun _ _ _ h => h) (Or.inl ⟨by rfl, ?_⟩) (by assumption) ?_
      rotate_left
      · ((intro w hSw; obtain ⟨s0, s1, s2, s3, s4, s5, s6⟩ := hSw; go_simp); try with_reducible rfl)
      (try simp only [Act.put, List.setIfInBounds_toArray, List.set_cons_zero, List.set_cons_succ])
      refine wpAnyH_ready (rs := [3]) (by kernel_rfl) (by simp) ?_
      refine AllReadyH.cons (o := { dst := some 16, op := Op.call { callee := Callee.value (Operand.func 16), args := #[Operand.tmp 13, Operand.tmp 15], argTypes := #[24, 3] }, type := 3, pos := "law.go:20", after := #[{ on := 0, ground := Ground.data }, { on := 2, ground := Ground.data }], guard := none }) rfl (fun K hK => ?_) AllReadyH.nil
      (go_simp; go_at_call 16; refine (HNC.out _ _ _ HNO.out (bnext HB0.out (bnext HB1.out (Below.drew (Below.refl _ W1))))).mono ?_; rintro e w3 ⟨rfl, hb3⟩; have a3 := bnext (Below.drew (Below.refl _ W1)) hb3; dsimp only)
      refine hK.out _ _ ?_ (fun hHeld => ?_)
      · first | exact HS.out _ a3 | exact HS.out _ (Below.drew (Below.refl _ W1))
      clear hK K
      (try simp only [Act.put, List.setIfInBounds_toArray, List.set_cons_zero, List.set_cons_succ])
      refine wpAnyH_done (by kernel_rfl) ?_ _
      show Oper.wp _ _ _ _ _ _
      go_simp
      go_wp2_with fail
      go_roundw
      case rel => exact ⟨k + 1, by go_num, hin, bnext HB1.out a3⟩
      case measure => simp [intOf]; omega
    · obtain rfl : k = ln := by omega
      have hbx := HBX.out wo hb
      have d0 := cell_of hbx (i := 0) rfl
      have d1 := cell_of hbx (i := 1) rfl
      have d2 := cell_of hbx (i := 2) rfl
      have d3 := cell_of hbx (i := 3) rfl
      have d4 := cell_of hbx (i := 4) rfl
      clear hbx hb
      go_wp2_with fail
      refine (HCC.out _ (bnext HB0.out HB2.out)).mono ?_
      rintro e w4 ⟨rfl, hb4⟩
      have HB4 := Lib.hid (bnext (bnext HB0.out HB2.out) hb4)
      clear hb4 d0 d1 d2 d3 d4
      go_wp2
      go_ret
      exact ⟨by first | rfl | simp, by rw [HB.out] at *; first | exact HB4.out | (have := HB4.out; rw [HB.out] at this; exact this)⟩
set_option maxHeartbeats 4000000 in
theorem scalar_yes (l : List AX.Tn) (at' : List Int) (a b : Int) (v va : Value) (w : World) (hl : l.length ≤ 1000000000000) (hal : at'.length ≤ 1000000000000) (hv : TnAt w v l) (ha : InAt w va at') (h : AX.scalar l at' = (a, b)) :
    Calls Try.prog 42 #[.agg #[v], .int .i64 a, .int .i64 b, va] w fun e w' => e = .returned (.bool true) ∧ Below w.heap.size w w' := by
  have HC : Hid (∀ V, Below w.heap.size w V → Calls Try.prog 25 #[.agg #[v], va] V fun e w' => e = .returned (.agg #[.int .i64 a, .int .i64 b]) ∧ Below V.heap.size V w') := Lib.hid fun V hV => scalar_c h v va V hl hal (hv.keep hV) (ha.keep hV)
  obtain ⟨ta, tc, rfl, -⟩ := hv
  obtain ⟨aa, ac, rfl, -⟩ := ha
  have hq := fun V => eq_sc V a b a b
  simp only [beq_self_eq_true, Bool.and_self] at hq
  clear h
  go_enter Try.func42, Try.ntmps42
  go_wp2_with fail
  refine (HC.out _ (balloc (Below.refl _ _) _)).mono ?_
  rintro e w4 ⟨rfl, hb4⟩
  have HB4 := Lib.hid (bnext (balloc (Below.refl _ w) _) hb4)
  clear hb4
  go_wp2
  go_ret
  exact ⟨rfl, HB4.out⟩
end Go.Proofs.Ytbhkbjnmpaebdaa
