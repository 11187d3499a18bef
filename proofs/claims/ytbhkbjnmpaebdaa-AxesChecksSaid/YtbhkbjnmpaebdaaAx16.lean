/- The reference: Normal. No conditions. -/
import Derived.Test.YtbhkbjnmpaebdaaAx7
import Derived.Test.YtbhkbjnmpaebdaaAx15
namespace Go.Proofs.Ytbhkbjnmpaebdaa
set_option maxRecDepth 100000
set_option linter.unusedVariables false
open Go.RowKit Go.Deep
theorem rline_c {x f0 f1 t0 t1 : Int} {r : Int × Bool} (e : F.FP.lineS x f0 f1 t0 t1 = r) (w : World) :
    Calls Try.prog 50 #[.int .i64 x, .agg #[.int .i64 f0, .int .i64 f1], .agg #[.int .i64 t0, .int .i64 t1]] w fun e w' => e = .returned (.tuple #[.int .i64 r.1, .bool r.2]) ∧ Below w.heap.size w w' := by
  have := F.rline_any x f0 f1 t0 t1 w
  rwa [e] at this
set_option maxHeartbeats 8000000 in
theorem rnormal_any (x : AX.Ax) (n : Int) (v : Value) (w : World) (hl : x.map.length ≤ 1000000000000) (hs : x.name.size ≤ 1000000000000) (hv : PrAt w v x.map) :
    Calls Try.prog 17 #[AxV v x, .int .i64 n] w fun e w' => e = .returned (.int .i64 (AX.normal x n)) ∧ Below w.heap.size w w' := by
  have HP : Hid (∀ V, Below w.heap.size w V → PrAt V v x.map) := Lib.hid fun V hV => hv.keep hV
  have HCK : Hid (∀ V, Below w.heap.size w V → Calls Try.prog 15 #[AxV v x] V fun e w' => e = .returned (.int .i64 (AX.check x)) ∧ Below V.heap.size V w') := Lib.hid fun V hV => rcheck_any x v V hl hs (hv.keep hV)
  obtain ⟨a, c, rfl, -⟩ := hv
  obtain ⟨A, hA⟩ : ∃ A, AX.check x = A := ⟨_, rfl⟩
  rw [hA] at HCK
  obtain ⟨N, hN⟩ : ∃ N, AX.normal x n = N := ⟨_, rfl⟩
  rw [hN]
  obtain ⟨nm, lo, de, hi, l⟩ := x
  obtain ⟨m, hm⟩ : ∃ m, l.length = m := ⟨_, rfl⟩
  have HM := Lib.hid hm
  simp only [AxV] at HCK HP ⊢
  rw [hm] at HCK HP ⊢
  have HA := Lib.hid hA
  have HN := Lib.hid hN
  simp only at hl
  rw [hm] at hl
  clear hm hA hN hs
  go_enter Try.func17, Try.ntmps17
  go_wp2_with fail
  obtain ⟨B, hB⟩ : ∃ B, w.heap.size = B := ⟨_, rfl⟩
  obtain ⟨W0, hW0⟩ : ∃ W0, w.alloc (.cells #[.string nm, .int .i64 lo, .int .i64 de, .int .i64 hi, .slice a m c] 24) = W0 := ⟨_, rfl⟩
  have hbx : W0.heap[B]? = some (.cells #[.string nm, .int .i64 lo, .int .i64 de, .int .i64 hi, .slice a m c] 24 (0, 0)) := by rw [← hW0, ← hB]; exact heap_alloc_new w _
  have hb0 : Below w.heap.size w W0 := by rw [← hW0]; exact balloc (Below.refl _ _) _
  rw [hW0, hB]
  refine (HCK.out _ hb0).mono ?_
  rintro e w1 ⟨rfl, k1⟩
  have hb1 := bnext hb0 k1
  have hbx1 := (k1.block B (Array.getElem?_eq_some_iff.1 hbx).1).trans hbx
  have HB1 := Lib.hid hb1
  clear hW0 hB
  by_cases hz : A = 0
  · have hzb : (A != 0) = false := by simpa using hz
    have hck := AX.check_zero (by rw [HA.out]; exact hz)
    simp only at hck
    obtain ⟨-, q1, q2, q3, q4, hmap⟩ := hck
    obtain ⟨u, hu⟩ : ∃ u, max lo (min n hi) = u := ⟨_, rfl⟩
    have hu1 : lo ≤ u := by omega
    have hu2 : u ≤ hi := by omega
    have hends := (AX.ends_iff _).1 (AX.map_parts hmap).1
    simp only at hends
    rw [HM.out] at hends
    obtain ⟨m1, m6, h0, h9⟩ := hends
    have hNu : AX.atMap l u = N := by
      have := HN.out
      unfold AX.normal at this
      rw [if_pos (by rw [HA.out]; exact hz)] at this
      simp only at this
      rw [hu] at this
      exact this
    obtain ⟨mn, hmn⟩ : ∃ mn, min n hi = mn := ⟨_, rfl⟩
    rw [hmn] at hu
    have m1' : (if hi < n then hi else n) = mn := by rw [← hmn]; split <;> omega
    have m2' : (if lo < mn then mn else lo) = u := by rw [← hu]; split <;> omega
    have hpt : Hid (∀ i, i < m → l[i]? = some (l.getD i (0, 0))) := Lib.hid fun i hi => by
      have h := List.getElem?_eq_getElem (l := l) (i := i) (by rw [HM.out]; exact hi)
      rw [List.getD_eq_getElem?_getD, h]
      rfl
    have HNU := Lib.hid hNu
    have HMAP := Lib.hid hmap
    have H0 := Lib.hid h0
    have H9 := Lib.hid h9
    have c1 : w1.cell? ⟨B, 1, none⟩ = some (.int .i64 lo) := by simp [World.cell?, hbx1]
    have c3 : w1.cell? ⟨B, 3, none⟩ = some (.int .i64 hi) := by simp [World.cell?, hbx1]
    have HBX1 := Lib.hid hbx1
    have HU1 := Lib.hid hu1
    have HU2 := Lib.hid hu2
    clear hu hNu hz hmap hmn h0 h9
    go_wp2_with fail
    clear c1 c3 m1' m2'
    go_loopw [6] (fun v wr => ∃ i : Nat, v = .int .i64 (i : Int) ∧ i < m ∧ Hid ((l.getD i (0, 0)).1 ≤ u ∧ ∀ j q, j < i → l[j]? = some q → ¬ u ≤ q.1) ∧ Below w1.heap.size w1 wr) (fun v _ => m - (intOf v).toNat)
    case atStart => exact ⟨0, rfl, by omega, Lib.hid ⟨by rw [H0.out]; exact HU1.out, fun j q hj => absurd hj (Nat.not_lt_zero _)⟩, Below.refl _ _⟩
    case round =>
      obtain ⟨i, rfl, him, HI, hb⟩ := hrel
      have hbr := bnext HB1.out hb
      have HBR := Lib.hid hbr
      have hbxr := (hb.block B (Array.getElem?_eq_some_iff.1 HBX1.out).1).trans HBX1.out
      obtain ⟨a', c', e1, hc⟩ := HP.out wr hbr
      rw [HM.out] at e1
      injection e1 with e1 e2 e3
      subst e1 e3
      obtain ⟨p, hp⟩ : ∃ p, l.getD i (0, 0) = p := ⟨_, rfl⟩
      have hpi := hpt.out i him
      rw [hp] at hpi HI
      rcases hc with h | ⟨g, o, rfl, hg, hcl⟩
      · rw [h] at hpi
        simp at hpi
      obtain ⟨p1, p2⟩ := p
      obtain ⟨d0, d1⟩ := hcl i _ hpi
      simp only at d0 d1 HI
      have c4 : wr.cell? ⟨B, 4, none⟩ = some (.slice (some ⟨g, o, none⟩) m c) := by simp [World.cell?, hbxr]
      have hii : (i : Int) < (m : Int) := by omega
      have hi0 : (0 : Int) ≤ (i : Int) := by omega
      by_cases hpu : p1 = u
      · have hpb : (p1 == u) = true := by simpa using hpu
        have hans : N = p2 := by
          rw [← HNU.out]
          unfold AX.atMap
          rw [AX.first_eq hpi (by show u ≤ p1; omega) HI.out.2, hp, if_pos hpu]
        have HANS := Lib.hid hans
        clear hans hpu hb hbr hbxr hcl hpi hp e2
        go_wp2
        go_ret
        exact ⟨by rw [HANS.out]; rfl, HBR.out⟩
      · have hpb : (p1 == u) = false := by simpa using hpu
        have hlt : p1 < u := by have := HI.out.1; omega
        obtain ⟨j, hj⟩ : ∃ j, i + 1 = j := ⟨_, rfl⟩
        have hjm : j < m := by
          rcases Nat.lt_or_ge j m with h | h
          · exact h
          · exfalso
            have h9' := H9.out
            rw [show m - 1 = i by omega, hp] at h9'
            simp only at h9'
            have := HU2.out
            omega
        have hij : (i : Int) + 1 = (j : Int) := by omega
        have hwj : IntKind.i64.wrap (j : Int) = (j : Int) := by rw [IntKind.wrap_i64]; omega
        have hjmi : (j : Int) < (m : Int) := by omega
        have hj0 : (0 : Int) ≤ (j : Int) := by omega
        obtain ⟨y, hy⟩ : ∃ y, l.getD j (0, 0) = y := ⟨_, rfl⟩
        have hyj := hpt.out j hjm
        rw [hy] at hyj
        obtain ⟨y1, y2⟩ := y
        obtain ⟨f0, f1⟩ := hcl j _ hyj
        simp only at f0 f1
        have HALL : Hid (∀ t q, t < j → l[t]? = some q → ¬ u ≤ q.1) := Lib.hid (fun t q ht hq => by
          by_cases e : t = i
          · subst e
            rw [hpi] at hq
            rw [← Option.some.inj hq]
            show ¬ u ≤ p1
            omega
          · exact HI.out.2 t q (by omega) hq)
        by_cases hyu : u < y1
        · obtain ⟨⟨r1, r2⟩, hr⟩ : ∃ r, F.FP.lineS u p1 p2 y1 y2 = r := ⟨_, rfl⟩
          have hans : N = r1 := by
            rw [← HNU.out]
            unfold AX.atMap
            rw [AX.first_eq hyj (by show u ≤ y1; omega) HALL.out, hy, show j - 1 = i by omega, hp]
            simp only
            rw [if_neg (by omega), hr]
          have HANS := Lib.hid hans
          have CL : Hid (∀ V, Calls Try.prog 50 #[.int .i64 u, .agg #[.int .i64 p1, .int .i64 p2], .agg #[.int .i64 y1, .int .i64 y2]] V fun e w' => e = .returned (.tuple #[.int .i64 r1, .bool r2]) ∧ Below V.heap.size V w') := Lib.hid fun V => rline_c hr V
          have HKS : Hid (∀ V, Below wr.heap.size wr V → ((fun w' => w'.cell? ⟨B, 4, none⟩ = some (.slice (some ⟨g, o, none⟩) m c) ∧ w'.cell? ⟨g, o + i * 2, none⟩ = some (.int .i64 p1) ∧ w'.cell? ⟨g, o + i * 2 + 1, none⟩ = some (.int .i64 p2) ∧ w'.cell? ⟨g, o + j * 2, none⟩ = some (.int .i64 y1) ∧ w'.cell? ⟨g, o + j * 2 + 1, none⟩ = some (.int .i64 y2)) V)) := Lib.hid fun V hV => ⟨(hV.cell (World.block_lt_of_cell? wr _ c4)).trans c4, (hV.cell (World.block_lt_of_cell? wr _ d0)).trans d0, (hV.cell (World.block_lt_of_cell? wr _ d1)).trans d1, (hV.cell (World.block_lt_of_cell? wr _ f0)).trans f0, (hV.cell (World.block_lt_of_cell? wr _ f1)).trans f1⟩
          clear hans hpu hb hbr hbxr hcl hpi hp e2 hr hy hyj hj
          go_wp2_with fail
          refine wp_region_held_drew (S := fun w' => w'.cell? ⟨B, 4, none⟩ = some (.slice (some ⟨g, o, none⟩) m c) ∧ w'.cell? ⟨g, o + i * 2, none⟩ = some (.int .i64 p1) ∧ w'.cell? ⟨g, o + i * 2 + 1, none⟩ = some (.int .i64 p2) ∧ w'.cell? ⟨g, o + j * 2, none⟩ = some (.int .i64 y1) ∧ w'.cell? ⟨g, o + j * 2 + 1, none⟩ = some (.int .i64 y2)) (by kernel_rfl) ?_ (fun hHeld => ?_)
          · exact HKS.out _ (by (repeat' (first | exact Below.refl _ _ | (with_reducible assumption) | (refine bnext ?_ (by with_reducible assumption)) | (refine balloc ?_ _) | (refine below_drewN ?_ _) | (refine Below.drew ?_))))
          refine wpAnyH_take (i := 0) (oi := { dst := some 60, op := Op.move (Operand.tmp 5), type := 3, pos := "ref.go:63", after := #[], guard := none }) (v := ?_) rfl (by kernel_rfl) (by kernel_rfl) (by kernel_rfl) (fun _ _ _ h => h) (Or.inl ⟨by rfl, ?_⟩) (by assumption) ?_
          rotate_left
          · ((intro w hSw; (try dsimp only at hSw); go_simp; (try rw [if_neg (by omega)])); try with_reducible rfl)
          (try simp only [Act.put, List.setIfInBounds_toArray, List.set_cons_zero, List.set_cons_succ])
          refine wpAnyH_take (i := 1) (oi := { dst := some 61, op := Op.fieldAddr 24 (Operand.tmp 2) 4, type := 0, pos := "ref.go:63", after := #[], guard := none }) (v := ?_) rfl (by kernel_rfl) (by kernel_rfl) (by kernel_rfl) (fun _ _ _ h => h) (Or.inl ⟨by rfl, ?_⟩) (by assumption) ?_
          rotate_left
          · ((intro w hSw; (try dsimp only at hSw); go_simp; (try rw [if_neg (by omega)])); try with_reducible rfl)
          (try simp only [Act.put, List.setIfInBounds_toArray, List.set_cons_zero, List.set_cons_succ])
          refine wpAnyH_take (i := 2) (oi := { dst := some 62, op := Op.load 22 (Operand.tmp 61), type := 22, pos := "ref.go:63", after := #[{ on := 1, ground := Ground.data }], guard := none }) (v := ?_) rfl (by kernel_rfl) (by kernel_rfl) (by kernel_rfl) (fun _ _ _ h => h) (Or.inl ⟨by rfl, ?_⟩) (by assumption) ?_
          rotate_left
          · ((intro w hSw; (try dsimp only at hSw); go_simp; (try rw [if_neg (by omega)])); try with_reducible rfl)
          (try simp only [Act.put, List.setIfInBounds_toArray, List.set_cons_zero, List.set_cons_succ])
          refine wpAnyH_take (i := 3) (oi := { dst := some 63, op := Op.move (Operand.tmp 6), type := 3, pos := "ref.go:63", after := #[], guard := none }) (v := ?_) rfl (by kernel_rfl) (by kernel_rfl) (by kernel_rfl) (fun _ _ _ h => h) (Or.inl ⟨by rfl, ?_⟩) (by assumption) ?_
          rotate_left
          · ((intro w hSw; (try dsimp only at hSw); go_simp; (try rw [if_neg (by omega)])); try with_reducible rfl)
          (try simp only [Act.put, List.setIfInBounds_toArray, List.set_cons_zero, List.set_cons_succ])
          refine wpAnyH_take (i := 4) (oi := { dst := some 64, op := Op.indexAddr 22 (Operand.tmp 62) (Operand.tmp 63), type := 0, pos := "ref.go:63", after := #[{ on := 2, ground := Ground.data }, { on := 3, ground := Ground.data }], guard := none }) (v := ?_) rfl (by kernel_rfl) (by kernel_rfl) (by kernel_rfl) (fun _ _ _ h => h) (Or.inl ⟨by rfl, ?_⟩) (by assumption) ?_
          rotate_left
          · ((intro w hSw; (try dsimp only at hSw); go_simp; (try rw [if_neg (by omega)])); try with_reducible rfl)
          (try simp only [Act.put, List.setIfInBounds_toArray, List.set_cons_zero, List.set_cons_succ])
          refine wpAnyH_take (i := 5) (oi := { dst := some 65, op := Op.load 30 (Operand.tmp 64), type := 30, pos := "ref.go:63", after := #[{ on := 4, ground := Ground.data }], guard := none }) (v := ?_) rfl (by kernel_rfl) (by kernel_rfl) (by kernel_rfl) (fun _ _ _ h => h) (Or.inl ⟨by rfl, ?_⟩) (by assumption) ?_
          rotate_left
          · ((intro w hSw; (try dsimp only at hSw); go_simp; (try rw [if_neg (by omega)])); try with_reducible rfl)
          (try simp only [Act.put, List.setIfInBounds_toArray, List.set_cons_zero, List.set_cons_succ])
          refine wpAnyH_take (i := 6) (oi := { dst := some 66, op := Op.fieldAddr 24 (Operand.tmp 2) 4, type := 0, pos := "ref.go:63", after := #[], guard := none }) (v := ?_) rfl (by kernel_rfl) (by kernel_rfl) (by kernel_rfl) (fun _ _ _ h => h) (Or.inl ⟨by rfl, ?_⟩) (by assumption) ?_
          rotate_left
          · ((intro w hSw; (try dsimp only at hSw); go_simp; (try rw [if_neg (by omega)])); try with_reducible rfl)
          (try simp only [Act.put, List.setIfInBounds_toArray, List.set_cons_zero, List.set_cons_succ])
          refine wpAnyH_take (i := 7) (oi := { dst := some 67, op := Op.load 22 (Operand.tmp 66), type := 22, pos := "ref.go:63", after := #[{ on := 6, ground := Ground.data }], guard := none }) (v := ?_) rfl (by kernel_rfl) (by kernel_rfl) (by kernel_rfl) (fun _ _ _ h => h) (Or.inl ⟨by rfl, ?_⟩) (by assumption) ?_
          rotate_left
          · ((intro w hSw; (try dsimp only at hSw); go_simp; (try rw [if_neg (by omega)])); try with_reducible rfl)
          (try simp only [Act.put, List.setIfInBounds_toArray, List.set_cons_zero, List.set_cons_succ])
          refine wpAnyH_take (i := 8) (oi := { dst := some 68, op := Op.move (Operand.tmp 6), type := 3, pos := "ref.go:63", after := #[], guard := none }) (v := ?_) rfl (by kernel_rfl) (by kernel_rfl) (by kernel_rfl) (fun _ _ _ h => h) (Or.inl ⟨by rfl, ?_⟩) (by assumption) ?_
          rotate_left
          · ((intro w hSw; (try dsimp only at hSw); go_simp; (try rw [if_neg (by omega)])); try with_reducible rfl)
          (try simp only [Act.put, List.setIfInBounds_toArray, List.set_cons_zero, List.set_cons_succ])
          refine wpAnyH_take (i := 9) (oi := { dst := some 69, op := Op.binOp BinOp.add 3 (Operand.tmp 68) (Operand.const (Value.int IntKind.i64 1)) 3, type := 3, pos := "ref.go:63", after := #[{ on := 8, ground := Ground.data }], guard := none }) (v := ?_) rfl (by kernel_rfl) (by kernel_rfl) (by kernel_rfl) (fun _ _ _ h => h) (Or.inl ⟨by rfl, ?_⟩) (by assumption) ?_
          rotate_left
          · ((intro w hSw; (try dsimp only at hSw); go_simp; (try rw [if_neg (by omega)])); try with_reducible rfl)
          (try simp only [Act.put, List.setIfInBounds_toArray, List.set_cons_zero, List.set_cons_succ])
          refine wpAnyH_take (i := 10) (oi := { dst := some 70, op := Op.indexAddr 22 (Operand.tmp 67) (Operand.tmp 69), type := 0, pos := "ref.go:63", after := #[{ on := 7, ground := Ground.data }, { on := 9, ground := Ground.data }], guard := none }) (v := ?_) rfl (by kernel_rfl) (by kernel_rfl) (by kernel_rfl) (fun _ _ _ h => h) (Or.inl ⟨by rfl, ?_⟩) (by assumption) ?_
          rotate_left
          · ((intro w hSw; (try dsimp only at hSw); go_simp; (try rw [if_neg (by omega)])); try with_reducible rfl)
          (try simp only [Act.put, List.setIfInBounds_toArray, List.set_cons_zero, List.set_cons_succ])
          refine wpAnyH_take (i := 11) (oi := { dst := some 71, op := Op.load 30 (Operand.tmp 70), type := 30, pos := "ref.go:63", after := #[{ on := 10, ground := Ground.data }], guard := none }) (v := ?_) rfl (by kernel_rfl) (by kernel_rfl) (by kernel_rfl) (fun _ _ _ h => h) (Or.inl ⟨by rfl, ?_⟩) (by assumption) ?_
          rotate_left
          · ((intro w hSw; (try dsimp only at hSw); go_simp; (try rw [if_neg (by omega)])); try with_reducible rfl)
          (try simp only [Act.put, List.setIfInBounds_toArray, List.set_cons_zero, List.set_cons_succ])
          refine wpAnyH_ready (rs := [12]) (by kernel_rfl) (by simp) ?_
          refine AllReadyH.cons (o := { dst := some 72, op := Op.call { callee := Callee.value (Operand.func 50), args := #[Operand.tmp 60, Operand.tmp 65, Operand.tmp 71], argTypes := #[3, 30, 30] }, type := 36, pos := "ref.go:63", after := #[{ on := 0, ground := Ground.data }, { on := 5, ground := Ground.data }, { on := 11, ground := Ground.data }], guard := none }) rfl (fun K hK => ?_) ?_
          · (go_simp; go_at_call 50; refine (CL.out _).mono ?_; rintro e w6 ⟨rfl, hb6⟩; dsimp only)
            refine hK.out _ _ ?_ (fun hHeld => ?_)
            · exact HKS.out _ (by (repeat' (first | exact Below.refl _ _ | (with_reducible assumption) | (refine bnext ?_ (by with_reducible assumption)) | (refine balloc ?_ _) | (refine below_drewN ?_ _) | (refine Below.drew ?_))))
            clear hK K
            (try simp only [Act.put, List.setIfInBounds_toArray, List.set_cons_zero, List.set_cons_succ])
            refine wpAnyH_take (i := 13) (oi := { dst := some 59, op := Op.move (Operand.tmp 72), type := 36, pos := "ref.go:63", after := #[{ on := 12, ground := Ground.data }], guard := none }) (v := ?_) rfl (by kernel_rfl) (by kernel_rfl) (by kernel_rfl) (fun _ _ _ h => h) (Or.inl ⟨by rfl, ?_⟩) (by assumption) ?_
            rotate_left
            · ((intro w hSw; (try dsimp only at hSw); go_simp; (try rw [if_neg (by omega)])); try with_reducible rfl)
            (try simp only [Act.put, List.setIfInBounds_toArray, List.set_cons_zero, List.set_cons_succ])
            refine wpAnyH_take (i := 14) (oi := { dst := some 73, op := Op.extract (Operand.tmp 59) 0, type := 3, pos := "ref.go:63", after := #[{ on := 13, ground := Ground.data }], guard := none }) (v := ?_) rfl (by kernel_rfl) (by kernel_rfl) (by kernel_rfl) (fun _ _ _ h => h) (Or.inl ⟨by rfl, ?_⟩) (by assumption) ?_
            rotate_left
            · ((intro w hSw; (try dsimp only at hSw); go_simp; (try rw [if_neg (by omega)])); try with_reducible rfl)
            (try simp only [Act.put, List.setIfInBounds_toArray, List.set_cons_zero, List.set_cons_succ])
            refine wpAnyH_take (i := 15) (oi := { dst := some 74, op := Op.extract (Operand.tmp 59) 1, type := 4, pos := "ref.go:63", after := #[{ on := 13, ground := Ground.data }, { on := 16, ground := Ground.gcOnly Departure.lateStores }], guard := none }) (v := ?_) rfl (by kernel_rfl) (by kernel_rfl) (by kernel_rfl) (fun _ _ _ h => h) (Or.inl ⟨by rfl, ?_⟩) (by assumption) ?_
            rotate_left
            · ((intro w hSw; (try dsimp only at hSw); go_simp; (try rw [if_neg (by omega)])); try with_reducible rfl)
            (try simp only [Act.put, List.setIfInBounds_toArray, List.set_cons_zero, List.set_cons_succ])
            refine wpAnyH_take (i := 16) (oi := { dst := some 7, op := Op.assign (Operand.tmp 73), type := 3, pos := "ref.go:63", after := #[{ on := 14, ground := Ground.data }, { on := 12, ground := Ground.chain }, { on := 0, ground := Ground.phase }, { on := 1, ground := Ground.phase }, { on := 2, ground := Ground.phase }, { on := 3, ground := Ground.phase }, { on := 4, ground := Ground.phase }, { on := 5, ground := Ground.phase }, { on := 6, ground := Ground.phase }, { on := 7, ground := Ground.phase }, { on := 8, ground := Ground.phase }, { on := 9, ground := Ground.phase }, { on := 10, ground := Ground.phase }, { on := 11, ground := Ground.phase }, { on := 12, ground := Ground.phase }, { on := 13, ground := Ground.phase }, { on := 14, ground := Ground.phase }, { on := 15, ground := Ground.textOnly Departure.lateStores }], guard := none }) (v := ?_) rfl (by kernel_rfl) (by kernel_rfl) (by kernel_rfl) (fun _ _ _ h => h) (Or.inl ⟨by rfl, ?_⟩) (by assumption) ?_
            rotate_left
            · ((intro w hSw; (try dsimp only at hSw); go_simp; (try rw [if_neg (by omega)])); try with_reducible rfl)
            (try simp only [Act.put, List.setIfInBounds_toArray, List.set_cons_zero, List.set_cons_succ])
            refine wpAnyH_take (i := 17) (oi := { dst := some 8, op := Op.assign (Operand.tmp 74), type := 4, pos := "ref.go:63", after := #[{ on := 15, ground := Ground.data }, { on := 16, ground := Ground.chain }, { on := 0, ground := Ground.phase }, { on := 1, ground := Ground.phase }, { on := 2, ground := Ground.phase }, { on := 3, ground := Ground.phase }, { on := 4, ground := Ground.phase }, { on := 5, ground := Ground.phase }, { on := 6, ground := Ground.phase }, { on := 7, ground := Ground.phase }, { on := 8, ground := Ground.phase }, { on := 9, ground := Ground.phase }, { on := 10, ground := Ground.phase }, { on := 11, ground := Ground.phase }, { on := 12, ground := Ground.phase }, { on := 13, ground := Ground.phase }, { on := 14, ground := Ground.phase }, { on := 15, ground := Ground.phase }, { on := 16, ground := Ground.phase }], guard := none }) (v := ?_) rfl (by kernel_rfl) (by kernel_rfl) (by kernel_rfl) (fun _ _ _ h => h) (Or.inl ⟨by rfl, ?_⟩) (by assumption) ?_
            rotate_left
            · ((intro w hSw; (try dsimp only at hSw); go_simp; (try rw [if_neg (by omega)])); try with_reducible rfl)
            (try simp only [Act.put, List.setIfInBounds_toArray, List.set_cons_zero, List.set_cons_succ])
            refine wpAnyH_done (by kernel_rfl) ?_ _
            have hbf : Below wr.heap.size wr w6 := by
              refine bnext ?_ hb6
              (repeat' (first | exact Below.refl _ _ | (with_reducible assumption) | (refine bnext ?_ (by with_reducible assumption)) | (refine balloc ?_ _) | (refine below_drewN ?_ _) | (refine Below.drew ?_)))
            go_wp2
            go_ret
            exact ⟨by rw [HANS.out]; rfl, bnext HBR.out hbf⟩
          exact AllReadyH.nil
        · have HJ : Hid ((l.getD j (0, 0)).1 ≤ u ∧ ∀ t q, t < j → l[t]? = some q → ¬ u ≤ q.1) := Lib.hid ⟨by rw [hy]; show y1 ≤ u; omega, HALL.out⟩
          have HBJ := Lib.hid hb
          clear hpu hb hbr hbxr hcl hpi hp e2 hy hyj
          go_wp2
          go_roundw
          case rel => exact ⟨j, by first | rfl | simp [hij], hjm, HJ, HBJ.out⟩
          case measure => simp [intOf]; omega
  · have hzb : (A != 0) = true := by simpa using hz
    have hN0 : N = 0 := by
      rw [← HN.out]
      unfold AX.normal
      rw [if_neg (by rw [HA.out]; exact hz)]
    have HN0 := Lib.hid hN0
    clear hN0 hz
    go_wp2
    go_ret
    exact ⟨by rw [HN0.out]; rfl, HB1.out⟩
end Go.Proofs.Ytbhkbjnmpaebdaa
