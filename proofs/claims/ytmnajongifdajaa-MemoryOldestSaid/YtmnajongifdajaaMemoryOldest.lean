/- For every budget, all acts, every key and size MemoryOldest returns true: what is given up are the first keys that are not pinned. No conditions. -/
import Derived.Test.YtmnajongifdajaaMem40
import Derived.Test.YtmnajongifdajaaMem41
namespace Go.Proofs.Ytmnajongifdajaa.memoryOldest
open Go.ChangeShapes Go.WideShapes Go.ChangeAt Go.RowKit Go.Joins Go.Deep ME
set_option linter.unusedVariables false

set_option maxRecDepth 100000 in
set_option maxHeartbeats 1600000 in
theorem walk (a0 : Int) (v1 : Value) (a1 : List Ac) (a2 : Int) (b2 : Int) (wa0 : (Lit.int .u8 a0).wf = true) (wa2 : (Lit.int .u8 a2).wf = true) (wb2 : (Lit.int .u8 b2).wf = true) (w : World) (H1 : AcArg w v1 a1) :
    Calls Try.prog 5 #[.int .u8 a0, v1, .agg #[.int .u8 a2, .int .u8 b2]] w fun e w' => e = .returned (.bool true) ∧ Below w.heap.size w w' := by
  have HM : Hid (∀ V, Below w.heap.size w V → AcArg V v1 a1) := Lib.hid fun V hV => H1.keep hV
  clear H1
  have h8 := bd8 wa0
  have hre : a0.tmod 64 = a0 % 64 := Int.tmod_eq_emod_of_nonneg h8.1
  obtain ⟨bu, hbu⟩ : ∃ bu, a0 % 64 = bu := ⟨_, rfl⟩
  have hbu0 : 0 ≤ bu := by omega
  have hbu1 : bu < 64 := by omega
  rw [hbu] at hre
  have ha2 := bd8 wa2
  have hb2 := bd8 wb2
  have hre9 : a2.tmod 9 = a2 % 9 := Int.tmod_eq_emod_of_nonneg ha2.1
  have hre64 : b2.tmod 64 = b2 % 64 := Int.tmod_eq_emod_of_nonneg hb2.1
  obtain ⟨sz, hsz⟩ : ∃ sz, b2 % 64 = sz := ⟨_, rfl⟩
  have hsz0 : 0 ≤ sz := by omega
  have hsz1 : sz < 64 := by omega
  rw [hsz] at hre64
  obtain ⟨ky, hky⟩ : ∃ ky, kyE (a2 % 9) = ky := ⟨_, rfl⟩
  have HKO : Hid (K4ok ky) := Lib.hid (by rw [← hky]; exact kyE_ok _ (by omega) (by omega))
  have HKY := Lib.hid fun V => key_any (a2 % 9) V (by omega) (by omega)
  rw [hky] at HKY
  clear hky hsz hbu
  obtain ⟨i0, hi0', hz0, hz1, hz2⟩ := info_parts info_ow
  go_enter Try.func5, Try.ntmps5
  go_wp2_with fail
  have HT1 := Lib.hid (balloc (Below.refl _ w) (.cells #[.int .u8 a2, .int .u8 b2] 49))
  have HX1 := Lib.hid (heap_alloc_new w (.cells #[.int .u8 a2, .int .u8 b2] 49))
  refine (sanity_any _).mono ?_
  rintro e w2 ⟨rfl, k2⟩
  have HB2 := Lib.hid (bnext HT1.out k2)
  have HX2 := Lib.hid ((k2.block w.heap.size (by simp)).trans HX1.out)
  have HG : Hid (w.heap.size < w2.heap.size) := Lib.hid (Array.getElem?_eq_some_iff.1 HX2.out).1
  clear k2
  go_wp2_with fail
  go_at_call 11
  refine (filled_yes w2 bu v1 a1 hbu0 (by omega) (HM.out _ HB2.out)).mono ?_
  rintro e w3 ⟨M, mb, root, r, H, rfl, hps, hH, k3⟩
  obtain ⟨F, hms, hFH⟩ := hps.ms
  obtain ⟨G, hrr⟩ := hps.ref
  obtain ⟨P, hP⟩ : ∃ P, ME.acts bu (a1.take 60) [] = P := ⟨_, rfl⟩
  rw [hP] at hms hrr
  have HMS := Lib.hid hms
  have HOK := Lib.hid hms.ok
  have HF3 : Hid (∀ b, F b → w2.heap.size ≤ b) := Lib.hid fun b hb => hH b (hFH b hb)
  have HX3 := Lib.hid ((k3.block w.heap.size (Array.getElem?_eq_some_iff.1 HX2.out).1).trans HX2.out)
  have HB3 := Lib.hid (bnext HB2.out k3)
  have hl1 := hms.l1
  obtain ⟨⟨v, hr3, hrow, -⟩, -, -⟩ := hrr
  obtain ⟨va, vc, rfl⟩ := own_shape hrow
  obtain ⟨n, hn⟩ : ∃ n, P.length = n := ⟨_, rfl⟩
  rw [hn] at hr3 hrow hl1
  have HN := Lib.hid hn
  have HROW := Lib.hid hrow
  have HR3 := Lib.hid hr3
  clear hps hms hP hH hFH k3 hn hrow hr3
  go_upto_region 6 with fail
  go_cut [12, 13] from 44 to 52 (fun s12 s13 V => ∃ X : Nat, s12 = .pointer (some ⟨X, 0, none⟩) ∧ s13 = .int .i64 sz ∧ Hid (V.heap[X]? = some (.cells #[.int .i64 ky.1, .int .i64 ky.2.1, .int .i64 ky.2.2.1, .int .i64 ky.2.2.2] 34 (0, 0))) ∧ Hid (w3.heap.size ≤ X) ∧ Hid (Below w3.heap.size w3 V))
  case first =>
    have hwa : IntKind.i64.wrap a2 = a2 := by rw [IntKind.wrap_i64]; omega
    have hwb : IntKind.i64.wrap b2 = b2 := by rw [IntKind.wrap_i64]; omega
    have mixed : Try.prog.follows .mixedOrders = true := by kernel_rfl
    have HWD0 := Below.drew (Below.refl w3.heap.size w3)
    obtain ⟨W0, hW0⟩ : ∃ W0, w3.drew = W0 := ⟨_, rfl⟩
    rw [hW0] at HWD0
    have HWD := Lib.hid HWD0
    have HW0 := Lib.hid hW0
    clear HWD0 hW0
    have bz0 : Below W0.heap.size W0 W0 := Below.refl _ _
    have HG0 : Hid (∀ V, Below W0.heap.size W0 V → V.cell? ⟨w.heap.size, 0, none⟩ = some (.int .u8 a2) ∧ V.cell? ⟨w.heap.size, 1, none⟩ = some (.int .u8 b2)) := Lib.hid fun V hV => by
      have q := ((bnext HWD.out hV).block w.heap.size (Array.getElem?_eq_some_iff.1 HX3.out).1).trans HX3.out
      exact ⟨nd_cell q rfl, nd_cell q rfl⟩
    refine wp_region_held_drew (S := (fun w' => w'.cell? ⟨w.heap.size, 0, none⟩ = some (.int .u8 a2) ∧ w'.cell? ⟨w.heap.size, 1, none⟩ = some (.int .u8 b2))) (by kernel_rfl) ?_ (fun hHeld => ?_)
    · (rw [HW0.out]; exact HG0.out _ bz0)
    rw [HW0.out] at hHeld ⊢
    refine wpAnyH_take (i := 0) (oi := { dst := some 44, op := Op.indexAddr 49 (Operand.tmp 5) (Operand.const (Value.int IntKind.i64 0)), type := 0, pos := "law.go:135", after := #[], guard := none }) (v := ?_) rfl (by kernel_rfl) (by kernel_rfl) (by kernel_rfl) (fun _ _ _ h => h) (Or.inl ⟨by rfl, ?_⟩) (by assumption) ?_
    rotate_left
    · ((intro w hSw; (try dsimp only at hSw); go_simp; (try rw [if_neg (by omega)])); try with_reducible rfl)
    (try simp only [Act.put, List.setIfInBounds_toArray, List.set_cons_zero, List.set_cons_succ])
    refine wpAnyH_take (i := 1) (oi := { dst := some 45, op := Op.load 5 (Operand.tmp 44), type := 5, pos := "law.go:135", after := #[{ on := 0, ground := Ground.data }], guard := none }) (v := ?_) rfl (by kernel_rfl) (by kernel_rfl) (by kernel_rfl) (fun _ _ _ h => h) (Or.inl ⟨by rfl, ?_⟩) (by assumption) ?_
    rotate_left
    · ((intro w hSw; (try dsimp only at hSw); go_simp; (try rw [if_neg (by omega)])); try with_reducible rfl)
    (try simp only [Act.put, List.setIfInBounds_toArray, List.set_cons_zero, List.set_cons_succ])
    refine wpAnyH_take (i := 2) (oi := { dst := some 46, op := Op.convert 5 3 (Operand.tmp 45), type := 3, pos := "law.go:135", after := #[{ on := 1, ground := Ground.data }], guard := none }) (v := ?_) rfl (by kernel_rfl) (by kernel_rfl) (by kernel_rfl) (fun _ _ _ h => h) (Or.inl ⟨by rfl, ?_⟩) (by assumption) ?_
    rotate_left
    · ((intro w hSw; (try dsimp only at hSw); go_simp; (try rw [if_neg (by omega)])); try with_reducible rfl)
    (try simp only [Act.put, List.setIfInBounds_toArray, List.set_cons_zero, List.set_cons_succ])
    refine wpAnyH_take (i := 3) (oi := { dst := some 47, op := Op.binOp BinOp.rem 3 (Operand.tmp 46) (Operand.const (Value.int IntKind.i64 9)) 3, type := 3, pos := "law.go:135", after := #[{ on := 2, ground := Ground.data }], guard := none }) (v := ?_) rfl (by kernel_rfl) (by kernel_rfl) (by kernel_rfl) (fun _ _ _ h => h) (Or.inl ⟨by rfl, ?_⟩) (by assumption) ?_
    rotate_left
    · ((intro w hSw; (try dsimp only at hSw); go_simp; (try rw [if_neg (by omega)])); try with_reducible rfl)
    (try simp only [Act.put, List.setIfInBounds_toArray, List.set_cons_zero, List.set_cons_succ])
    refine wpAnyH_take (i := 5) (oi := { dst := some 49, op := Op.indexAddr 49 (Operand.tmp 5) (Operand.const (Value.int IntKind.i64 1)), type := 0, pos := "law.go:135", after := #[{ on := 10, ground := Ground.gcOnly Departure.lateStores }], guard := none }) (v := ?_) rfl (by kernel_rfl) (by kernel_rfl) (by kernel_rfl) (fun _ _ _ h => h) (Or.inl ⟨by rfl, ?_⟩) (by assumption) ?_
    rotate_left
    · ((intro w hSw; (try dsimp only at hSw); go_simp; (try rw [if_neg (by omega)])); try with_reducible rfl)
    (try simp only [Act.put, List.setIfInBounds_toArray, List.set_cons_zero, List.set_cons_succ])
    refine wpAnyH_take (i := 6) (oi := { dst := some 50, op := Op.load 5 (Operand.tmp 49), type := 5, pos := "law.go:135", after := #[{ on := 5, ground := Ground.data }, { on := 10, ground := Ground.gcOnly Departure.lateStores }], guard := none }) (v := ?_) rfl (by kernel_rfl) (by kernel_rfl) (by kernel_rfl) (fun _ _ _ h => h) (Or.inl ⟨by rfl, ?_⟩) (by assumption) ?_
    rotate_left
    · ((intro w hSw; (try dsimp only at hSw); go_simp; (try rw [if_neg (by omega)])); try with_reducible rfl)
    (try simp only [Act.put, List.setIfInBounds_toArray, List.set_cons_zero, List.set_cons_succ])
    refine wpAnyH_take (i := 7) (oi := { dst := some 51, op := Op.convert 5 3 (Operand.tmp 50), type := 3, pos := "law.go:135", after := #[{ on := 6, ground := Ground.data }, { on := 10, ground := Ground.gcOnly Departure.lateStores }], guard := none }) (v := ?_) rfl (by kernel_rfl) (by kernel_rfl) (by kernel_rfl) (fun _ _ _ h => h) (Or.inl ⟨by rfl, ?_⟩) (by assumption) ?_
    rotate_left
    · ((intro w hSw; (try dsimp only at hSw); go_simp; (try rw [if_neg (by omega)])); try with_reducible rfl)
    (try simp only [Act.put, List.setIfInBounds_toArray, List.set_cons_zero, List.set_cons_succ])
    refine wpAnyH_take (i := 8) (oi := { dst := some 52, op := Op.binOp BinOp.rem 3 (Operand.tmp 51) (Operand.const (Value.int IntKind.i64 64)) 3, type := 3, pos := "law.go:135", after := #[{ on := 7, ground := Ground.data }, { on := 10, ground := Ground.gcOnly Departure.lateStores }], guard := none }) (v := ?_) rfl (by kernel_rfl) (by kernel_rfl) (by kernel_rfl) (fun _ _ _ h => h) (Or.inl ⟨by rfl, ?_⟩) (by assumption) ?_
    rotate_left
    · ((intro w hSw; (try dsimp only at hSw); go_simp; (try rw [if_neg (by omega)])); try with_reducible rfl)
    (try simp only [Act.put, List.setIfInBounds_toArray, List.set_cons_zero, List.set_cons_succ])
    refine wpAnyH_ready (rs := [4, 9]) (by kernel_rfl) (by simp) ?_
    refine AllReadyH.cons (o := { dst := some 48, op := Op.call { callee := Callee.value (Operand.func 13), args := #[Operand.tmp 47], argTypes := #[3] }, type := 34, pos := "law.go:135", after := #[{ on := 3, ground := Ground.data }], guard := none }) rfl (fun K hK => ?_) ?_
    · (go_simp; go_at_call 13; refine (HKY.out _).mono ?_; rintro u wz1 ⟨rfl, dz⟩; have bz1 := bnext bz0 dz; dsimp only)
      refine hK.out _ _ ?_ (fun hHeld => ?_)
      · exact HG0.out _ bz1
      clear hK K
      (try simp only [Act.put, List.setIfInBounds_toArray, List.set_cons_zero, List.set_cons_succ])
      refine wpAnyH_ready (rs := [9]) (by kernel_rfl) (by simp) ?_
      refine AllReadyH.cons (o := { dst := some 12, op := Op.alloc 34, type := 0, pos := "law.go:135", after := #[], guard := none }) rfl (fun K hK => ?_) ?_
      · (go_simp; have bX := heap_alloc_new wz1 (.cells #[.int .i64 0, .int .i64 0, .int .i64 0, .int .i64 0] 34); have dz := balloc (Below.refl _ wz1) (.cells #[.int .i64 0, .int .i64 0, .int .i64 0, .int .i64 0] 34); obtain ⟨wz2, hq⟩ : ∃ w', wz1.alloc (.cells #[.int .i64 0, .int .i64 0, .int .i64 0, .int .i64 0] 34) = w' := ⟨_, rfl⟩; rw [hq] at bX dz; rw [hq]; clear hq; obtain ⟨X, hX⟩ : ∃ X, wz1.heap.size = X := ⟨_, rfl⟩; have hXl : W0.heap.size ≤ X := (by rw [← hX]; exact bz1.size); have bz2 := bnext bz1 dz; rw [hX] at bX ⊢; clear hX dz)
        refine hK.out _ _ ?_ (fun hHeld => ?_)
        · exact HG0.out _ bz2
        clear hK K
        (try simp only [Act.put, List.setIfInBounds_toArray, List.set_cons_zero, List.set_cons_succ])
        refine wpAnyH_ready (rs := [10]) (by kernel_rfl) (by simp) ?_
        refine AllReadyH.cons (o := { dst := none, op := Op.store 34 (Operand.tmp 12) (Operand.tmp 48), type := 0, pos := "law.go:135", after := #[{ on := 9, ground := Ground.data }, { on := 4, ground := Ground.data }, { on := 4, ground := Ground.chain }, { on := 0, ground := Ground.phase }, { on := 1, ground := Ground.phase }, { on := 2, ground := Ground.phase }, { on := 3, ground := Ground.phase }, { on := 4, ground := Ground.phase }, { on := 5, ground := Ground.textOnly Departure.lateStores }, { on := 6, ground := Ground.textOnly Departure.lateStores }, { on := 7, ground := Ground.textOnly Departure.lateStores }, { on := 8, ground := Ground.textOnly Departure.lateStores }, { on := 9, ground := Ground.phase }], guard := none }) rfl (fun K hK => ?_) ?_
        · (have x0 : wz2.cell? ⟨X, 0, none⟩ = some (.int .i64 0) := nd_cell bX rfl; have x1 : wz2.cell? ⟨X, 1, none⟩ = some (.int .i64 0) := nd_cell bX rfl; have x2 : wz2.cell? ⟨X, 2, none⟩ = some (.int .i64 0) := nd_cell bX rfl; have x3 : wz2.cell? ⟨X, 3, none⟩ = some (.int .i64 0) := nd_cell bX rfl; have y0 : wz2.frozen? ⟨X, 0, none⟩ = false := (by simp [World.frozen?, bX]); have y1 : wz2.frozen? ⟨X, 1, none⟩ = false := (by simp [World.frozen?, bX]); have y2 : wz2.frozen? ⟨X, 2, none⟩ = false := (by simp [World.frozen?, bX]); have y3 : wz2.frozen? ⟨X, 3, none⟩ = false := (by simp [World.frozen?, bX]); go_simp; obtain ⟨wz3, hq, bY, hbel⟩ := set4 bX (.int .i64 ky.1) (.int .i64 ky.2.1) (.int .i64 ky.2.2.1) (.int .i64 ky.2.2.2); rw [hq]; have bz3 := hbel _ bz2 hXl; clear hq hbel x0 x1 x2 x3 y0 y1 y2 y3)
          refine hK.out _ _ ?_ (fun hHeld => ?_)
          · exact HG0.out _ bz3
          clear hK K
          (try simp only [Act.put, List.setIfInBounds_toArray, List.set_cons_zero, List.set_cons_succ])
          refine wpAnyH_take (i := 11) (oi := { dst := some 13, op := Op.assign (Operand.tmp 52), type := 3, pos := "law.go:135", after := #[{ on := 8, ground := Ground.data }, { on := 10, ground := Ground.chain }, { on := 0, ground := Ground.phase }, { on := 1, ground := Ground.phase }, { on := 2, ground := Ground.phase }, { on := 3, ground := Ground.phase }, { on := 4, ground := Ground.phase }, { on := 5, ground := Ground.phase }, { on := 6, ground := Ground.phase }, { on := 7, ground := Ground.phase }, { on := 8, ground := Ground.phase }, { on := 9, ground := Ground.phase }, { on := 10, ground := Ground.phase }], guard := none }) (v := ?_) rfl (by kernel_rfl) (by kernel_rfl) (by kernel_rfl) (fun _ _ _ h => h) (Or.inl ⟨by rfl, ?_⟩) (by assumption) ?_
          rotate_left
          · ((intro w hSw; (try dsimp only at hSw); go_simp; (try rw [if_neg (by omega)])); try with_reducible rfl)
          (try simp only [Act.put, List.setIfInBounds_toArray, List.set_cons_zero, List.set_cons_succ])
          refine wpAnyH_done (by kernel_rfl) ?_ _
          have HBY := Lib.hid bY
          have HCU := Lib.hid (bnext HWD.out bz3)
          have HXL : Hid (w3.heap.size ≤ X) := Lib.hid (Nat.le_trans HWD.out.size hXl)
          clear bX bY hXl
          go_wp2_with fail
          go_meet
          exact ⟨X, rfl, rfl, HBY, HXL, HCU⟩
        exact AllReadyH.nil
      exact AllReadyH.nil
    refine AllReadyH.cons (o := { dst := some 12, op := Op.alloc 34, type := 0, pos := "law.go:135", after := #[], guard := none }) rfl (fun K hK => ?_) ?_
    · (go_simp; have bX := heap_alloc_new W0 (.cells #[.int .i64 0, .int .i64 0, .int .i64 0, .int .i64 0] 34); have dz := balloc (Below.refl _ W0) (.cells #[.int .i64 0, .int .i64 0, .int .i64 0, .int .i64 0] 34); obtain ⟨wz1, hq⟩ : ∃ w', W0.alloc (.cells #[.int .i64 0, .int .i64 0, .int .i64 0, .int .i64 0] 34) = w' := ⟨_, rfl⟩; rw [hq] at bX dz; rw [hq]; clear hq; obtain ⟨X, hX⟩ : ∃ X, W0.heap.size = X := ⟨_, rfl⟩; have hXl : W0.heap.size ≤ X := (by rw [← hX]; exact bz0.size); have bz1 := bnext bz0 dz; rw [hX] at bX ⊢; clear hX dz)
      refine hK.out _ _ ?_ (fun hHeld => ?_)
      · exact HG0.out _ bz1
      clear hK K
      (try simp only [Act.put, List.setIfInBounds_toArray, List.set_cons_zero, List.set_cons_succ])
      refine wpAnyH_ready (rs := [4]) (by kernel_rfl) (by simp) ?_
      refine AllReadyH.cons (o := { dst := some 48, op := Op.call { callee := Callee.value (Operand.func 13), args := #[Operand.tmp 47], argTypes := #[3] }, type := 34, pos := "law.go:135", after := #[{ on := 3, ground := Ground.data }], guard := none }) rfl (fun K hK => ?_) ?_
      · (go_simp; go_at_call 13; refine (HKY.out _).mono ?_; rintro u wz2 ⟨rfl, dz⟩; have bz2 := bnext bz1 dz; have bX := (dz.block _ (Array.getElem?_eq_some_iff.1 bX).1).trans bX; dsimp only)
        refine hK.out _ _ ?_ (fun hHeld => ?_)
        · exact HG0.out _ bz2
        clear hK K
        (try simp only [Act.put, List.setIfInBounds_toArray, List.set_cons_zero, List.set_cons_succ])
        refine wpAnyH_ready (rs := [10]) (by kernel_rfl) (by simp) ?_
        refine AllReadyH.cons (o := { dst := none, op := Op.store 34 (Operand.tmp 12) (Operand.tmp 48), type := 0, pos := "law.go:135", after := #[{ on := 9, ground := Ground.data }, { on := 4, ground := Ground.data }, { on := 4, ground := Ground.chain }, { on := 0, ground := Ground.phase }, { on := 1, ground := Ground.phase }, { on := 2, ground := Ground.phase }, { on := 3, ground := Ground.phase }, { on := 4, ground := Ground.phase }, { on := 5, ground := Ground.textOnly Departure.lateStores }, { on := 6, ground := Ground.textOnly Departure.lateStores }, { on := 7, ground := Ground.textOnly Departure.lateStores }, { on := 8, ground := Ground.textOnly Departure.lateStores }, { on := 9, ground := Ground.phase }], guard := none }) rfl (fun K hK => ?_) ?_
        · (have x0 : wz2.cell? ⟨X, 0, none⟩ = some (.int .i64 0) := nd_cell bX rfl; have x1 : wz2.cell? ⟨X, 1, none⟩ = some (.int .i64 0) := nd_cell bX rfl; have x2 : wz2.cell? ⟨X, 2, none⟩ = some (.int .i64 0) := nd_cell bX rfl; have x3 : wz2.cell? ⟨X, 3, none⟩ = some (.int .i64 0) := nd_cell bX rfl; have y0 : wz2.frozen? ⟨X, 0, none⟩ = false := (by simp [World.frozen?, bX]); have y1 : wz2.frozen? ⟨X, 1, none⟩ = false := (by simp [World.frozen?, bX]); have y2 : wz2.frozen? ⟨X, 2, none⟩ = false := (by simp [World.frozen?, bX]); have y3 : wz2.frozen? ⟨X, 3, none⟩ = false := (by simp [World.frozen?, bX]); go_simp; obtain ⟨wz3, hq, bY, hbel⟩ := set4 bX (.int .i64 ky.1) (.int .i64 ky.2.1) (.int .i64 ky.2.2.1) (.int .i64 ky.2.2.2); rw [hq]; have bz3 := hbel _ bz2 hXl; clear hq hbel x0 x1 x2 x3 y0 y1 y2 y3)
          refine hK.out _ _ ?_ (fun hHeld => ?_)
          · exact HG0.out _ bz3
          clear hK K
          (try simp only [Act.put, List.setIfInBounds_toArray, List.set_cons_zero, List.set_cons_succ])
          refine wpAnyH_take (i := 11) (oi := { dst := some 13, op := Op.assign (Operand.tmp 52), type := 3, pos := "law.go:135", after := #[{ on := 8, ground := Ground.data }, { on := 10, ground := Ground.chain }, { on := 0, ground := Ground.phase }, { on := 1, ground := Ground.phase }, { on := 2, ground := Ground.phase }, { on := 3, ground := Ground.phase }, { on := 4, ground := Ground.phase }, { on := 5, ground := Ground.phase }, { on := 6, ground := Ground.phase }, { on := 7, ground := Ground.phase }, { on := 8, ground := Ground.phase }, { on := 9, ground := Ground.phase }, { on := 10, ground := Ground.phase }], guard := none }) (v := ?_) rfl (by kernel_rfl) (by kernel_rfl) (by kernel_rfl) (fun _ _ _ h => h) (Or.inl ⟨by rfl, ?_⟩) (by assumption) ?_
          rotate_left
          · ((intro w hSw; (try dsimp only at hSw); go_simp; (try rw [if_neg (by omega)])); try with_reducible rfl)
          (try simp only [Act.put, List.setIfInBounds_toArray, List.set_cons_zero, List.set_cons_succ])
          refine wpAnyH_done (by kernel_rfl) ?_ _
          have HBY := Lib.hid bY
          have HCU := Lib.hid (bnext HWD.out bz3)
          have HXL : Hid (w3.heap.size ≤ X) := Lib.hid (Nat.le_trans HWD.out.size hXl)
          clear bX bY hXl
          go_wp2_with fail
          go_meet
          exact ⟨X, rfl, rfl, HBY, HXL, HCU⟩
        exact AllReadyH.nil
      exact AllReadyH.nil
    exact AllReadyH.nil
  obtain ⟨X, rfl, rfl, HKX, HXL, HBC⟩ := hcut
  have HM5 := Lib.hid (HMS.out.below HBC.out)
  have hmm := @run_makeMap Try.prog
  go_upto_region 8 with fail
  clear hmm
  have hb6 := balloc (balloc (Below.refl _ wc) (.map #[] 0)) (.map #[] 0)
  have z0 := MSz.made wc
  have z1 := MBl.made (wc.alloc (.map #[] 0))
  have e1 : (wc.alloc (.map #[] 0)).heap.size = wc.heap.size + 1 := by simp
  have z2 := z0.same (W' := (wc.alloc (.map #[] 0)).alloc (.map #[] 0)) ((balloc (Below.refl _ (wc.alloc (.map #[] 0))) (.map #[] 0)).block wc.heap.size (by simp))
  rw [e1] at z1
  obtain ⟨A, hA⟩ : ∃ A, wc.heap.size = A := ⟨_, rfl⟩
  have HLC := Lib.hid hA
  obtain ⟨W6, hW6⟩ : ∃ W6, (wc.alloc (.map #[] 0)).alloc (.map #[] 0) = W6 := ⟨_, rfl⟩
  have HLA : Hid (w3.heap.size ≤ A) := Lib.hid (by rw [← hA]; exact HBC.out.size)
  rw [hW6] at hb6
  have HBW6 := Lib.hid hb6
  have HB6 := Lib.hid (bnext HBC.out hb6)
  rw [hA, hW6] at z1 z2
  rw [hA, hW6]
  clear hA hW6 z0 e1 hb6
  have HZ6 := Lib.hid z2
  have HY6 := Lib.hid z1
  obtain ⟨-, -, c2⟩ := rmem_cells ((HB6.out.block r (Array.getElem?_eq_some_iff.1 HR3.out).1).trans HR3.out)
  clear z1 z2
  go_upto_region 9 with fail
  clear c2
  go_loopw [60] (fun v60 wr => ∃ i c1 c2 : Nat, v60 = .int .i64 (i : Int) ∧ i ≤ n ∧ Hid (MSz wr A i c1 (fun k => (ME.fnd k (P.take i)).map En.size)) ∧ Hid (MBl wr (A + 1) i c2 (fun k => (ME.fnd k (P.take i)).map En.pin)) ∧ Hid (FrS (fun b => b = A ∨ b = A + 1) W6 wr)) (fun v _ => n - (intOf v).toNat)
  case atStart => exact ⟨0, 0, 0, rfl, Nat.zero_le _, HZ6, HY6, Lib.hid (FrS.refl _ _)⟩
  case round =>
    obtain ⟨i, c1, c2, rfl, hi, HZ, HY, HF⟩ := hrel
    by_cases hin : i < n
    · have hii : (i : Int) < (n : Int) := by omega
      have hj0 : (0 : Int) ≤ (i : Int) := by omega
      obtain ⟨e, he⟩ : ∃ e, P[i]? = some e := ⟨P[i]'(by rw [HN.out]; exact hin), List.getElem?_eq_getElem _⟩
      have hrw := HF.out.own (own_below HROW.out HB6.out) (fun q eq x => by have := (HROW.out.lt q eq).2; have := HLA.out; omega)
      obtain ⟨g, rfl, -, k0, k1, k2, k3, k4, k5⟩ := kept_at hrw he hin
      have HE := Lib.hid he
      clear he hrw
      go_upto_region 11 with fail
      clear k0 k1 k2 k3 k4 k5
      have hb7 := balloc (Below.refl _ wr) (.cells #[.int .i64 e.f, .int .i64 e.k, .int .i64 e.n, .int .i64 e.r, .int .i64 e.size, .bool e.pin] 55)
      have b7 := heap_alloc_new wr (.cells #[.int .i64 e.f, .int .i64 e.k, .int .i64 e.n, .int .i64 e.r, .int .i64 e.size, .bool e.pin] 55)
      obtain ⟨Y, hY⟩ : ∃ Y, wr.heap.size = Y := ⟨_, rfl⟩
      have hYA : A + 1 < Y := by rw [← hY]; exact HY.out.lt
      obtain ⟨W7, hW7⟩ : ∃ W7, wr.alloc (.cells #[.int .i64 e.f, .int .i64 e.k, .int .i64 e.n, .int .i64 e.r, .int .i64 e.size, .bool e.pin] 55) = W7 := ⟨_, rfl⟩
      rw [hW7] at hb7 b7
      rw [hW7]
      rw [hY] at b7
      try rw [hY]
      have hbd := Below.drew (Below.refl W7.heap.size W7)
      obtain ⟨W8, hW8⟩ : ∃ W8, W7.drew = W8 := ⟨_, rfl⟩
      rw [hW8] at hbd
      have HW8 := Lib.hid hW8
      have hb8 := bnext hb7 hbd
      have hz8 := HZ.out.same (hb8.block A HZ.out.lt)
      have hy8 := HY.out.same (hb8.block (A + 1) HY.out.lt)
      have q8 := (hbd.block Y (Array.getElem?_eq_some_iff.1 b7).1).trans b7
      obtain ⟨wz1, hr1, mz1, ht1⟩ := hz8.put e.key (HOK.out.ok e (List.mem_of_getElem? HE.out)) (by omega) e.size
      have q9 := (ht1.grown.block Y (Array.getElem?_eq_some_iff.1 q8).1 (by simp; omega)).trans q8
      obtain ⟨wz2, hr2, mb2, ht2⟩ := (hy8.same (ht1.grown.block (A + 1) hy8.lt (by simp))).put e.key (HOK.out.ok e (List.mem_of_getElem? HE.out)) (by omega) e.pin
      have q10 := (ht2.grown.block Y (Array.getElem?_eq_some_iff.1 q9).1 (by simp; omega)).trans q9
      have mz2 := mz1.same (ht2.grown.block A mz1.lt (by simp))
      have HFF := Lib.hid (((HF.out.then hb8).trans (FrS.turned (S := fun b => b = A ∨ b = A + 1) ht1 (.inl rfl))).trans (FrS.turned ht2 (.inr rfl)))
      have HMZ := Lib.hid mz2
      have HMB := Lib.hid mb2
      change (Instr.mapUpdate _ _ (.agg #[.int .i64 e.f, .int .i64 e.k, .int .i64 e.n, .int .i64 e.r]) _).run _ _ = _ at hr1 hr2
      have s8 : W8.cell? ⟨Y, 0, none⟩ = some (.int .i64 e.f) ∧ W8.cell? ⟨Y, 1, none⟩ = some (.int .i64 e.k) ∧ W8.cell? ⟨Y, 2, none⟩ = some (.int .i64 e.n) ∧ W8.cell? ⟨Y, 3, none⟩ = some (.int .i64 e.r) ∧ W8.cell? ⟨Y, 4, none⟩ = some (.int .i64 e.size) ∧ W8.cell? ⟨Y, 5, none⟩ = some (.bool e.pin) := ⟨nd_cell q8 rfl, nd_cell q8 rfl, nd_cell q8 rfl, nd_cell q8 rfl, nd_cell q8 rfl, nd_cell q8 rfl⟩
      have s9 : wz1.cell? ⟨Y, 0, none⟩ = some (.int .i64 e.f) ∧ wz1.cell? ⟨Y, 1, none⟩ = some (.int .i64 e.k) ∧ wz1.cell? ⟨Y, 2, none⟩ = some (.int .i64 e.n) ∧ wz1.cell? ⟨Y, 3, none⟩ = some (.int .i64 e.r) ∧ wz1.cell? ⟨Y, 4, none⟩ = some (.int .i64 e.size) ∧ wz1.cell? ⟨Y, 5, none⟩ = some (.bool e.pin) := ⟨nd_cell q9 rfl, nd_cell q9 rfl, nd_cell q9 rfl, nd_cell q9 rfl, nd_cell q9 rfl, nd_cell q9 rfl⟩
      have s10 : wz2.cell? ⟨Y, 0, none⟩ = some (.int .i64 e.f) ∧ wz2.cell? ⟨Y, 1, none⟩ = some (.int .i64 e.k) ∧ wz2.cell? ⟨Y, 2, none⟩ = some (.int .i64 e.n) ∧ wz2.cell? ⟨Y, 3, none⟩ = some (.int .i64 e.r) ∧ wz2.cell? ⟨Y, 4, none⟩ = some (.int .i64 e.size) ∧ wz2.cell? ⟨Y, 5, none⟩ = some (.bool e.pin) := ⟨nd_cell q10 rfl, nd_cell q10 rfl, nd_cell q10 rfl, nd_cell q10 rfl, nd_cell q10 rfl, nd_cell q10 rfl⟩
      have HS8 := Lib.hid s8
      have HS9 := Lib.hid s9
      have HS10 := Lib.hid s10
      have HR1 := Lib.hid hr1
      have HR2 := Lib.hid hr2
      clear hb7 b7 hY hW7 hbd hW8 hb8 hz8 hy8 q8 mz1 ht1 q9 ht2 q10 mz2 mb2 s8 s9 s10 hr1 hr2
      refine wp_region_held_drew (S := (fun w' => w'.cell? ⟨Y, 0, none⟩ = some (.int .i64 e.f) ∧ w'.cell? ⟨Y, 1, none⟩ = some (.int .i64 e.k) ∧ w'.cell? ⟨Y, 2, none⟩ = some (.int .i64 e.n) ∧ w'.cell? ⟨Y, 3, none⟩ = some (.int .i64 e.r) ∧ w'.cell? ⟨Y, 4, none⟩ = some (.int .i64 e.size) ∧ w'.cell? ⟨Y, 5, none⟩ = some (.bool e.pin))) (by kernel_rfl) ?_ (fun hHeld => ?_)
      · (rw [HW8.out]; exact HS8.out)
      rw [HW8.out] at hHeld ⊢
      refine wpAnyH_take (i := 0) (oi := { dst := some 64, op := Op.move (Operand.tmp 14), type := 30, pos := "law.go:138", after := #[], guard := none }) (v := ?_) rfl (by kernel_rfl) (by kernel_rfl) (by kernel_rfl) (fun _ _ _ h => h) (Or.inl ⟨by rfl, ?_⟩) (by assumption) ?_
      rotate_left
      · ((intro w hSw; (try dsimp only at hSw); go_simp; (try rw [if_neg (by omega)])); try with_reducible rfl)
      (try simp only [Act.put, List.setIfInBounds_toArray, List.set_cons_zero, List.set_cons_succ])
      refine wpAnyH_take (i := 1) (oi := { dst := some 65, op := Op.fieldAddr 55 (Operand.tmp 17) 0, type := 0, pos := "law.go:138", after := #[], guard := none }) (v := ?_) rfl (by kernel_rfl) (by kernel_rfl) (by kernel_rfl) (fun _ _ _ h => h) (Or.inl ⟨by rfl, ?_⟩) (by assumption) ?_
      rotate_left
      · ((intro w hSw; (try dsimp only at hSw); go_simp; (try rw [if_neg (by omega)])); try with_reducible rfl)
      (try simp only [Act.put, List.setIfInBounds_toArray, List.set_cons_zero, List.set_cons_succ])
      refine wpAnyH_take (i := 2) (oi := { dst := some 66, op := Op.load 34 (Operand.tmp 65), type := 34, pos := "law.go:138", after := #[{ on := 1, ground := Ground.data }], guard := none }) (v := ?_) rfl (by kernel_rfl) (by kernel_rfl) (by kernel_rfl) (fun _ _ _ h => h) (Or.inl ⟨by rfl, ?_⟩) (by assumption) ?_
      rotate_left
      · ((intro w hSw; (try dsimp only at hSw); go_simp; (try rw [if_neg (by omega)])); try with_reducible rfl)
      (try simp only [Act.put, List.setIfInBounds_toArray, List.set_cons_zero, List.set_cons_succ])
      refine wpAnyH_take (i := 3) (oi := { dst := some 67, op := Op.move (Operand.tmp 15), type := 50, pos := "law.go:138", after := #[{ on := 10, ground := Ground.gcOnly Departure.lateStores }], guard := none }) (v := ?_) rfl (by kernel_rfl) (by kernel_rfl) (by kernel_rfl) (fun _ _ _ h => h) (Or.inl ⟨by rfl, ?_⟩) (by assumption) ?_
      rotate_left
      · ((intro w hSw; (try dsimp only at hSw); go_simp; (try rw [if_neg (by omega)])); try with_reducible rfl)
      (try simp only [Act.put, List.setIfInBounds_toArray, List.set_cons_zero, List.set_cons_succ])
      refine wpAnyH_take (i := 4) (oi := { dst := some 68, op := Op.fieldAddr 55 (Operand.tmp 17) 0, type := 0, pos := "law.go:138", after := #[], guard := none }) (v := ?_) rfl (by kernel_rfl) (by kernel_rfl) (by kernel_rfl) (fun _ _ _ h => h) (Or.inl ⟨by rfl, ?_⟩) (by assumption) ?_
      rotate_left
      · ((intro w hSw; (try dsimp only at hSw); go_simp; (try rw [if_neg (by omega)])); try with_reducible rfl)
      (try simp only [Act.put, List.setIfInBounds_toArray, List.set_cons_zero, List.set_cons_succ])
      refine wpAnyH_take (i := 5) (oi := { dst := some 69, op := Op.load 34 (Operand.tmp 68), type := 34, pos := "law.go:138", after := #[{ on := 4, ground := Ground.data }], guard := none }) (v := ?_) rfl (by kernel_rfl) (by kernel_rfl) (by kernel_rfl) (fun _ _ _ h => h) (Or.inl ⟨by rfl, ?_⟩) (by assumption) ?_
      rotate_left
      · ((intro w hSw; (try dsimp only at hSw); go_simp; (try rw [if_neg (by omega)])); try with_reducible rfl)
      (try simp only [Act.put, List.setIfInBounds_toArray, List.set_cons_zero, List.set_cons_succ])
      refine wpAnyH_take (i := 6) (oi := { dst := some 70, op := Op.fieldAddr 55 (Operand.tmp 17) 1, type := 0, pos := "law.go:138", after := #[], guard := none }) (v := ?_) rfl (by kernel_rfl) (by kernel_rfl) (by kernel_rfl) (fun _ _ _ h => h) (Or.inl ⟨by rfl, ?_⟩) (by assumption) ?_
      rotate_left
      · ((intro w hSw; (try dsimp only at hSw); go_simp; (try rw [if_neg (by omega)])); try with_reducible rfl)
      (try simp only [Act.put, List.setIfInBounds_toArray, List.set_cons_zero, List.set_cons_succ])
      refine wpAnyH_take (i := 7) (oi := { dst := some 71, op := Op.load 3 (Operand.tmp 70), type := 3, pos := "law.go:138", after := #[{ on := 6, ground := Ground.data }], guard := none }) (v := ?_) rfl (by kernel_rfl) (by kernel_rfl) (by kernel_rfl) (fun _ _ _ h => h) (Or.inl ⟨by rfl, ?_⟩) (by assumption) ?_
      rotate_left
      · ((intro w hSw; (try dsimp only at hSw); go_simp; (try rw [if_neg (by omega)])); try with_reducible rfl)
      (try simp only [Act.put, List.setIfInBounds_toArray, List.set_cons_zero, List.set_cons_succ])
      refine wpAnyH_take (i := 8) (oi := { dst := some 72, op := Op.fieldAddr 55 (Operand.tmp 17) 2, type := 0, pos := "law.go:138", after := #[{ on := 10, ground := Ground.gcOnly Departure.lateStores }], guard := none }) (v := ?_) rfl (by kernel_rfl) (by kernel_rfl) (by kernel_rfl) (fun _ _ _ h => h) (Or.inl ⟨by rfl, ?_⟩) (by assumption) ?_
      rotate_left
      · ((intro w hSw; (try dsimp only at hSw); go_simp; (try rw [if_neg (by omega)])); try with_reducible rfl)
      (try simp only [Act.put, List.setIfInBounds_toArray, List.set_cons_zero, List.set_cons_succ])
      refine wpAnyH_take (i := 9) (oi := { dst := some 73, op := Op.load 4 (Operand.tmp 72), type := 4, pos := "law.go:138", after := #[{ on := 8, ground := Ground.data }, { on := 10, ground := Ground.gcOnly Departure.lateStores }], guard := none }) (v := ?_) rfl (by kernel_rfl) (by kernel_rfl) (by kernel_rfl) (fun _ _ _ h => h) (Or.inl ⟨by rfl, ?_⟩) (by assumption) ?_
      rotate_left
      · ((intro w hSw; (try dsimp only at hSw); go_simp; (try rw [if_neg (by omega)])); try with_reducible rfl)
      (try simp only [Act.put, List.setIfInBounds_toArray, List.set_cons_zero, List.set_cons_succ])
      refine wpAnyH_ready (rs := [10]) (by kernel_rfl) (by simp) ?_
      refine AllReadyH.cons (o := { dst := none, op := Op.mapUpdate 30 (Operand.tmp 64) (Operand.tmp 66) (Operand.tmp 71), type := 0, pos := "law.go:138", after := #[{ on := 0, ground := Ground.data }, { on := 2, ground := Ground.data }, { on := 7, ground := Ground.data }, { on := 0, ground := Ground.phase }, { on := 1, ground := Ground.phase }, { on := 2, ground := Ground.phase }, { on := 3, ground := Ground.textOnly Departure.lateStores }, { on := 4, ground := Ground.textOnly Departure.lateStoresUnsure }, { on := 5, ground := Ground.textOnly Departure.lateStoresUnsure }, { on := 6, ground := Ground.phase }, { on := 7, ground := Ground.phase }, { on := 8, ground := Ground.textOnly Departure.lateStores }, { on := 9, ground := Ground.textOnly Departure.lateStores }], guard := none }) rfl (fun K hK => ?_) ?_
      · (have hr1 := HR1.out; go_simp; clear hr1)
        refine hK.out _ _ ?_ (fun hHeld => ?_)
        · exact HS9.out
        clear hK K
        (try simp only [Act.put, List.setIfInBounds_toArray, List.set_cons_zero, List.set_cons_succ])
        refine wpAnyH_ready (rs := [11]) (by kernel_rfl) (by simp) ?_
        refine AllReadyH.cons (o := { dst := none, op := Op.mapUpdate 50 (Operand.tmp 67) (Operand.tmp 69) (Operand.tmp 73), type := 0, pos := "law.go:138", after := #[{ on := 3, ground := Ground.data }, { on := 5, ground := Ground.data }, { on := 9, ground := Ground.data }, { on := 10, ground := Ground.chain }, { on := 0, ground := Ground.phase }, { on := 1, ground := Ground.phase }, { on := 2, ground := Ground.phase }, { on := 3, ground := Ground.phase }, { on := 4, ground := Ground.phase }, { on := 5, ground := Ground.phase }, { on := 6, ground := Ground.phase }, { on := 7, ground := Ground.phase }, { on := 8, ground := Ground.phase }, { on := 9, ground := Ground.phase }, { on := 10, ground := Ground.phase }], guard := none }) rfl (fun K hK => ?_) ?_
        · (have hr2 := HR2.out; go_simp; clear hr2)
          refine hK.out _ _ ?_ (fun hHeld => ?_)
          · exact HS10.out
          clear hK K
          (try simp only [Act.put, List.setIfInBounds_toArray, List.set_cons_zero, List.set_cons_succ])
          refine wpAnyH_done (by kernel_rfl) ?_ _
          have HMZ9 : Hid (MSz wz2 A (i + 1) _ (fun k => (ME.fnd k (P.take (i + 1))).map En.size)) := Lib.hid (by
            have h := HMZ.out
            rw [show (fun y => if y = e.key then some e.size else (ME.fnd y (P.take i)).map En.size) = (fun k => (ME.fnd k (P.take (i + 1))).map En.size) from funext fun y => by rw [fnd_next HOK.out.keys HE.out]; split <;> rfl] at h
            exact h)
          have HMB9 : Hid (MBl wz2 (A + 1) (i + 1) _ (fun k => (ME.fnd k (P.take (i + 1))).map En.pin)) := Lib.hid (by
            have h := HMB.out
            rw [show (fun y => if y = e.key then some e.pin else (ME.fnd y (P.take i)).map En.pin) = (fun k => (ME.fnd k (P.take (i + 1))).map En.pin) from funext fun y => by rw [fnd_next HOK.out.keys HE.out]; split <;> rfl] at h
            exact h)
          clear hYA
          go_wp2
          go_roundw
          case rel => exact ⟨i + 1, _, _, by go_num, hin, HMZ9, HMB9, HFF⟩
          case measure => simp [intOf]; omega
        exact AllReadyH.nil
      exact AllReadyH.nil
    · have hii : ¬ (i : Int) < (n : Int) := by omega
      obtain rfl : n = i := by omega
      clear hin hi
      have HM7 := Lib.hid ((HM5.out.below HBW6.out).kept HF.out (fun b hb x => by have := HMS.out.lt b hb; have := HLA.out; omega))
      have HFB : Hid (Below w.heap.size w wr) := Lib.hid ((HF.out.below w3 HB6.out (fun b hb => by have := HLA.out; omega)) |> bnext HB3.out)
      go_upto_region 13 with fail
      go_wp2_with fail
      go_at_call 18
      refine (list_s HM7.out.here (by omega)).mono ?_
      rintro e w8 ⟨v8, rfl, row8, k8⟩
      rw [List.length_map, HN.out] at row8
      obtain ⟨la, lc, rfl⟩ := own_shape row8
      have HR8 := Lib.hid row8
      have HK8 := Lib.hid k8
      have HM8 := Lib.hid (HM7.out.below k8)
      clear row8 k8
      have HZ8 := Lib.hid (HZ.out.same (HK8.out.block A HZ.out.lt))
      have HY8 := Lib.hid (HY.out.same (HK8.out.block (A + 1) HY.out.lt))
      have HX8 := Lib.hid ((HK8.out.block X (by have := HF.out.size; have := HBW6.out.size; have := (Array.getElem?_eq_some_iff.1 HKX.out).1; omega)).trans ((HF.out.block X (by have := HBW6.out.size; have := (Array.getElem?_eq_some_iff.1 HKX.out).1; omega) (by have := (Array.getElem?_eq_some_iff.1 HKX.out).1; have := HLC.out; simp; omega)).trans ((HBW6.out.block X (Array.getElem?_eq_some_iff.1 HKX.out).1).trans HKX.out)))
      have HS : Hid (∀ V, FrS F w8 V → (V.cell? ⟨X, 0, none⟩ = some (.int .i64 ky.1) ∧ V.cell? ⟨X, 1, none⟩ = some (.int .i64 ky.2.1) ∧ V.cell? ⟨X, 2, none⟩ = some (.int .i64 ky.2.2.1) ∧ V.cell? ⟨X, 3, none⟩ = some (.int .i64 ky.2.2.2)) ∧ V.ownsRow wr.heap.size 34 4 (.slice la n lc) n (ME.kc (P.map En.key)) ∧ MSz V A n c1 (fun k => (ME.fnd k (P.take n)).map En.size) ∧ MBl V (A + 1) n c2 (fun k => (ME.fnd k (P.take n)).map En.pin)) := Lib.hid fun V hV => by
        have q := hV.nd HX8.out (fun h => by have := HMS.out.lt X h; have := HXL.out; omega)
        refine ⟨⟨nd_cell q rfl, nd_cell q rfl, nd_cell q rfl, nd_cell q rfl⟩, row_keepF HR8.out hV (fun b hb => by have := HMS.out.lt b hb; have := HLA.out; have := HZ.out.lt; omega), HZ8.out.same (hV.block A HZ8.out.lt (fun h => by have := HMS.out.lt A h; have := HLA.out; omega)), HY8.out.same (hV.block (A + 1) HY8.out.lt (fun h => by have := HMS.out.lt (A + 1) h; have := HLA.out; omega))⟩
      go_upto_region 14 with fail
      obtain ⟨⟨t0, t1, t2, t3⟩, -⟩ := HS.out w8 (FrS.refl _ _)
      obtain ⟨PP, hPP⟩ : ∃ PP, ME.put bu ky sz P = PP := ⟨_, rfl⟩
      have hpu := put_s ky sz HKO.out HM8.out.here (by omega)
      rw [hPP] at hpu
      have HPU := Lib.hid hpu
      have HPP := Lib.hid hPP
      obtain ⟨m, hm⟩ : ∃ m, PP.2.1.length = m := ⟨_, rfl⟩
      obtain ⟨er, her⟩ : ∃ er, PP.2.2 = er := ⟨_, rfl⟩
      rw [hm, her] at hpu
      have HPV := Lib.hid hpu
      have HMM := Lib.hid hm
      have HER := Lib.hid her
      clear hpu hPP hm her HPU
      go_wp2_with fail
      go_at_call 17
      refine HPV.out.mono ?_
      rintro e w9 ⟨v9, rfl, row9, s9⟩
      obtain ⟨ga, gc, rfl⟩ := own_shape row9
      have HR9 := Lib.hid row9
      have S9 := Lib.hid s9
      clear row9 s9 t0 t1 t2 t3 HPV
      go_upto_region 15 with fail
      go_wp2_with fail
      go_at_call 18
      refine (list_s S9.out (by omega)).mono ?_
      rintro e w10 ⟨v10, rfl, row10, k10⟩
      obtain ⟨q, hq⟩ : ∃ q, (PP.1.map En.key).length = q := ⟨_, rfl⟩
      rw [hq] at row10
      have HQ := Lib.hid hq
      obtain ⟨aa, ac, rfl⟩ := own_shape row10
      have HR10 := Lib.hid row10
      have HK10 := Lib.hid k10
      have hqb : q ≤ 61 := by have := S9.out.l1; have h := HQ.out; rw [List.length_map] at h; omega
      clear row10 k10 hq
      have HB9 : Hid (Below w.heap.size w w9) := Lib.hid (S9.out.1.below w (bnext HFB.out HK8.out) (fun b hb => Nat.le_trans HB2.out.size (HF3.out b hb)))
      have HB10 := Lib.hid (bnext HB9.out HK10.out)
      go_upto_region 16 with fail
      rcases ME.put_two (k := ky) (bu := bu) (P := P) (s := sz) hsz0 (by omega) with hp | ⟨Q, gs, hp⟩
      · obtain rfl : PP = (P, [], 50) := HPP.out.symm.trans hp
        obtain rfl : er = 50 := HER.out.symm
        obtain rfl : m = 0 := HMM.out.symm
        have HSM := Lib.hid (same_any w10 (.slice la n lc) (.slice aa q ac) (P.map En.key) (P.map En.key) (by rw [List.length_map, HN.out]; exact own_srcN (own_below (HS.out _ S9.out.1).2.1 HK10.out)) (by rw [HQ.out]; exact own_srcN HR10.out) (by rw [List.length_map, HN.out]; omega) (by rw [List.length_map, HN.out]; omega))
        rw [decide_eq_true rfl] at HSM
        clear hp
        go_wp2_with fail
        go_at_call 20
        refine HSM.out.mono ?_
        rintro e w11 ⟨rfl, nq, rfl⟩
        have HFI := Lib.hid (below_drewN HB10.out nq)
        go_wp2
        go_ret
        exact ⟨rfl, HFI.out⟩
      · have hmb := (ME.put_len bu ky sz P).2
        rw [HPP.out, HMM.out, HN.out] at hmb
        obtain rfl : PP = (Q, gs, 0) := HPP.out.symm.trans hp
        obtain rfl : er = 0 := HER.out.symm
        obtain ⟨hQ, hG⟩ := ME.put_zero hp
        have HQQ := Lib.hid hQ
        have HGS2 := Lib.hid hG.symm
        clear hp hQ hG
        obtain ⟨wo, hwo⟩ : ∃ wo, wo = wr := ⟨_, rfl⟩
        subst hwo
        have HS10 : Hid (∀ V, Below w10.heap.size w10 V → (V.cell? ⟨X, 0, none⟩ = some (.int .i64 ky.1) ∧ V.cell? ⟨X, 1, none⟩ = some (.int .i64 ky.2.1) ∧ V.cell? ⟨X, 2, none⟩ = some (.int .i64 ky.2.2.1) ∧ V.cell? ⟨X, 3, none⟩ = some (.int .i64 ky.2.2.2)) ∧ V.ownsRow wo.heap.size 34 4 (.slice la n lc) n (ME.kc (P.map En.key)) ∧ MSz V A n c1 (fun k => (ME.fnd k P).map En.size) ∧ MBl V (A + 1) n c2 (fun k => (ME.fnd k P).map En.pin) ∧ V.ownsRow w8.heap.size 34 4 (.slice ga m gc) m (ME.kc gs)) := Lib.hid fun V hV => by
          have hf := (S9.out.1.then HK10.out).then hV
          obtain ⟨h1, h2, h3, h4⟩ := HS.out V hf
          rw [List.take_of_length_le (Nat.le_of_eq HN.out)] at h3 h4
          exact ⟨h1, h2, h3, h4, own_below (own_below HR9.out HK10.out) hV⟩
        go_upto_region 22 with fail
        go_loopw [22, 23, 24, 108] (fun v22 v23 v24 v108 wr => ∃ (i c j : Nat) (fr : Int) (K G : List En), v108 = .int .i64 (i : Int) ∧ v23 = .int .i64 (j : Int) ∧ v24 = .int .i64 fr ∧ i ≤ n ∧ c ≤ i ∧ j ≤ i ∧ (-65536 * (i : Int) - 64 ≤ fr ∧ fr ≤ 64) ∧ Hid (fr = bu - sz - ME.sm K) ∧ Hid (K.length = c) ∧ Hid (G.length = j) ∧ Hid (ME.Ol bu sz ky P i K G) ∧ wr.ownsRow w10.heap.size 34 4 v22 c (ME.kc (K.map En.key)) ∧ Hid (Below w10.heap.size w10 wr)) (fun _ _ _ v _ => n - (intOf v).toNat)
        case atStart => exact ⟨0, 0, 0, bu - sz, [], [], rfl, rfl, rfl, Nat.zero_le _, Nat.le_refl _, Nat.le_refl _, ⟨by omega, by omega⟩, Lib.hid (by rw [ME.sm_nil]; omega), Lib.hid rfl, Lib.hid rfl, Lib.hid (ME.Ol.start _ _ _ _), World.ownsRow_nil _ _ _ _, Lib.hid (Below.refl _ _)⟩
        case round =>
          obtain ⟨i, c, j, fr, K, G, rfl, rfl, rfl, hi, hci, hji, ⟨hf0, hf1⟩, HFR, HKL, HGL, HOL, hown, HB⟩ := hrel
          obtain ⟨oa, oc, rfl⟩ := own_shape hown
          have HOW := Lib.hid hown
          clear hown
          by_cases hin : i < n
          · have hii : (i : Int) < (n : Int) := by omega
            have hj0 : (0 : Int) ≤ (i : Int) := by omega
            obtain ⟨y, hy⟩ : ∃ y, P[i]? = some y := ⟨P[i]'(by rw [HN.out]; exact hin), List.getElem?_eq_getElem _⟩
            have HY := Lib.hid hy
            obtain ⟨yk, hyk⟩ : ∃ yk, y.key = yk := ⟨_, rfl⟩
            have HYK := Lib.hid hyk
            have HYO : Hid (K4ok yk) := Lib.hid (by rw [← hyk]; exact HOK.out.ok y (List.mem_of_getElem? hy))
            have HFN : Hid (ME.fnd yk P = some y) := Lib.hid (by rw [← hyk]; exact ME.fnd_self HOK.out.keys (List.mem_of_getElem? hy))
            obtain ⟨z, hz⟩ : ∃ z, y.size = z := ⟨_, rfl⟩
            have HZZ := Lib.hid hz
            have hzb : 0 ≤ z ∧ z ≤ 65536 := by rw [← hz]; exact HOK.out.sz y (List.mem_of_getElem? hy)
            obtain ⟨hzb0, hzb1⟩ := hzb
            obtain ⟨gg, oo, rfl, q0, q1, q2, q3⟩ := ky_at (own_srcN (HS10.out wr HB.out).2.1) (i := i) (k := yk) (by rw [List.getElem?_map, hy]; simp [hyk]) hin
            clear hy hyk hz
            go_upto_region 24 with fail
            clear q0 q1 q2 q3
            have hb7 := balloc (Below.refl _ wr) (.cells #[.int .i64 yk.1, .int .i64 yk.2.1, .int .i64 yk.2.2.1, .int .i64 yk.2.2.2] 34)
            have b7 := heap_alloc_new wr (.cells #[.int .i64 yk.1, .int .i64 yk.2.1, .int .i64 yk.2.2.1, .int .i64 yk.2.2.2] 34)
            obtain ⟨Y, hY⟩ : ∃ Y, wr.heap.size = Y := ⟨_, rfl⟩
            obtain ⟨W7, hW7⟩ : ∃ W7, wr.alloc (.cells #[.int .i64 yk.1, .int .i64 yk.2.1, .int .i64 yk.2.2.1, .int .i64 yk.2.2.2] 34) = W7 := ⟨_, rfl⟩
            rw [hW7] at hb7 b7
            rw [hW7]
            rw [hY] at b7
            try rw [hY]
            have HB7 := Lib.hid (bnext HB.out hb7)
            have HO7 := Lib.hid (own_below HOW.out hb7)
            have HYN : Hid (∀ q, (Value.slice oa c oc).ownBlock = some q → ¬ q = Y) := Lib.hid fun q e x => by have := (HOW.out.lt q e).2; omega
            have BY := Lib.hid b7
            have p0 : W7.cell? ⟨Y, 0, none⟩ = some (.int .i64 yk.1) := nd_cell BY.out rfl
            have p1 : W7.cell? ⟨Y, 1, none⟩ = some (.int .i64 yk.2.1) := nd_cell BY.out rfl
            have p2 : W7.cell? ⟨Y, 2, none⟩ = some (.int .i64 yk.2.2.1) := nd_cell BY.out rfl
            have p3 : W7.cell? ⟨Y, 3, none⟩ = some (.int .i64 yk.2.2.2) := nd_cell BY.out rfl
            clear hb7 b7 hY hW7
            obtain ⟨⟨t0, t1, t2, t3⟩, -, -, -, -⟩ := HS10.out W7 HB7.out
            by_cases hk : yk = ky
            · have hneq : ∀ w, (binOp .neq 34 (.agg #[.int .i64 yk.1, .int .i64 yk.2.1, .int .i64 yk.2.2.1, .int .i64 yk.2.2.2]) (.agg #[.int .i64 ky.1, .int .i64 ky.2.1, .int .i64 ky.2.2.1, .int .i64 ky.2.2.2])).run Try.prog w = .ok (.bool false) w := fun w => by have h := neq_ow w yk ky; rw [decide_eq_true hk] at h; exact h
              go_quiet (fail)
              clear p0 p1 p2 p3 t0 t1 t2 t3 hneq
              have HB8 := Lib.hid (below_drewN HB7.out nq)
              have b8 := (below_drewN (Below.refl W7.heap.size W7) nq).block Y (Array.getElem?_eq_some_iff.1 BY.out).1
              rw [BY.out] at b8
              have hsz8 : W7.heap.size ≤ (W7.drewN nq).heap.size := (below_drewN (Below.refl 0 W7) nq).size
              obtain ⟨W8, hW8⟩ : ∃ W8, W7.drewN nq = W8 := ⟨_, rfl⟩
              rw [hW8] at HB8 b8 hsz8
              rw [hW8]
              have HO8 := Lib.hid (own_below HO7.out (show Below W7.heap.size W7 W8 by rw [← hW8]; exact below_drewN (Below.refl _ W7) nq))
              have BY8 := Lib.hid b8
              have HY8z := Lib.hid hsz8
              clear hW8 b8 hsz8
              obtain ⟨⟨t0, t1, t2, t3⟩, -, hmz, hmb, -⟩ := HS10.out W8 HB8.out
              have p0 : W8.cell? ⟨Y, 0, none⟩ = some (.int .i64 yk.1) := nd_cell BY8.out rfl
              have p1 : W8.cell? ⟨Y, 1, none⟩ = some (.int .i64 yk.2.1) := nd_cell BY8.out rfl
              have p2 : W8.cell? ⟨Y, 2, none⟩ = some (.int .i64 yk.2.2.1) := nd_cell BY8.out rfl
              have p3 : W8.cell? ⟨Y, 3, none⟩ = some (.int .i64 yk.2.2.2) := nd_cell BY8.out rfl
              have hneq : ∀ w, (binOp .neq 34 (.agg #[.int .i64 yk.1, .int .i64 yk.2.1, .int .i64 yk.2.2.1, .int .i64 yk.2.2.2]) (.agg #[.int .i64 ky.1, .int .i64 ky.2.1, .int .i64 ky.2.2.1, .int .i64 ky.2.2.2])).run Try.prog w = .ok (.bool false) w := fun w => by have h := neq_ow w yk ky; rw [decide_eq_true hk] at h; exact h
              clear hmz hmb
              go_wp2
              go_roundw
              case rel => exact ⟨i + 1, c, j, fr, K, G, by go_num, rfl, rfl, hin, by omega, by omega, ⟨by omega, hf1⟩, HFR, HKL, HGL, Lib.hid (HOL.out.same HY.out (HYK.out.trans hk)), HO8.out, HB8⟩
              case measure => simp [intOf]; omega
            · rcases HOL.out.step HOK.out.keys HY.out (fun e => hk (HYK.out.symm.trans e)) with ⟨h1, h2⟩ | ⟨h1, h2, h3⟩ | ⟨h1, h2, h3⟩
              · have HON := Lib.hid h1
                have hmj : m = j := by have h := congrArg List.length h2; rw [HGS2.out, List.length_map, HGL.out] at h; have h5 : gs.length = m := HMM.out; omega
                clear h1 h2
                have hneq : ∀ w, (binOp .neq 34 (.agg #[.int .i64 yk.1, .int .i64 yk.2.1, .int .i64 yk.2.2.1, .int .i64 yk.2.2.2]) (.agg #[.int .i64 ky.1, .int .i64 ky.2.1, .int .i64 ky.2.2.1, .int .i64 ky.2.2.2])).run Try.prog w = .ok (.bool true) w := fun w => by have h := neq_ow w yk ky; rw [decide_eq_false hk] at h; exact h
                have hlt : ¬ j < m := by omega
                have hltz : ¬ (j : Int) < (m : Int) := by omega
                have hltd : decide (j < m) = false := by simpa using hlt
                (try clear hmj)
                go_quiet (fail)
                clear p0 p1 p2 p3 t0 t1 t2 t3 hneq
                have HB8 := Lib.hid (below_drewN HB7.out nq)
                have b8 := (below_drewN (Below.refl W7.heap.size W7) nq).block Y (Array.getElem?_eq_some_iff.1 BY.out).1
                rw [BY.out] at b8
                have hsz8 : W7.heap.size ≤ (W7.drewN nq).heap.size := (below_drewN (Below.refl 0 W7) nq).size
                obtain ⟨W8, hW8⟩ : ∃ W8, W7.drewN nq = W8 := ⟨_, rfl⟩
                rw [hW8] at HB8 b8 hsz8
                rw [hW8]
                have HO8 := Lib.hid (own_below HO7.out (show Below W7.heap.size W7 W8 by rw [← hW8]; exact below_drewN (Below.refl _ W7) nq))
                have BY8 := Lib.hid b8
                have HY8z := Lib.hid hsz8
                clear hW8 b8 hsz8
                obtain ⟨⟨t0, t1, t2, t3⟩, -, hmz, hmb, -⟩ := HS10.out W8 HB8.out
                have p0 : W8.cell? ⟨Y, 0, none⟩ = some (.int .i64 yk.1) := nd_cell BY8.out rfl
                have p1 : W8.cell? ⟨Y, 1, none⟩ = some (.int .i64 yk.2.1) := nd_cell BY8.out rfl
                have p2 : W8.cell? ⟨Y, 2, none⟩ = some (.int .i64 yk.2.2.1) := nd_cell BY8.out rfl
                have p3 : W8.cell? ⟨Y, 3, none⟩ = some (.int .i64 yk.2.2.2) := nd_cell BY8.out rfl
                have hneq : ∀ w, (binOp .neq 34 (.agg #[.int .i64 yk.1, .int .i64 yk.2.1, .int .i64 yk.2.2.1, .int .i64 yk.2.2.2]) (.agg #[.int .i64 ky.1, .int .i64 ky.2.1, .int .i64 ky.2.2.1, .int .i64 ky.2.2.2])).run Try.prog w = .ok (.bool true) w := fun w => by have h := neq_ow w yk ky; rw [decide_eq_false hk] at h; exact h
                have hl1 := hmb.look yk HYO.out
                rw [HFN.out] at hl1
                change (Instr.lookup 50 (.map (some (A + 1))) (.agg #[.int .i64 yk.1, .int .i64 yk.2.1, .int .i64 yk.2.2.1, .int .i64 yk.2.2.2]) false).run Try.prog W8 = .ok (.bool y.pin) W8 at hl1
                rcases Bool.eq_false_or_eq_true y.pin with hp | hp
                · rw [hp] at hl1
                  clear hp
                  obtain ⟨U, hU⟩ : ∃ U, ME.kc (K.map En.key) = U := ⟨_, rfl⟩
                  have HUU := Lib.hid hU
                  rw [hU] at HO8
                  clear hU HOW HO7
                  go_upto_region 32 with (at_builtin; refine wpList_appN _ rfl _ _ 43 rfl w10.heap.size 34 i0 _ 4 32 Try.underlying43 hi0' hz0 hz1 hz2 rfl (by decide) (.slice oa c oc) c U rfl (own_below HO8.out (balloc (Below.refl _ _) _)) (.slice (some ⟨W8.heap.size, 0, none⟩) 1 1) 1 (ME.kyL yk) rfl (srcN_new W8 (ME.kyL yk) 34 4 1 1 rfl) (by simp [ME.kyL, Value.oneCell']) (by unfold maxLen; omega) (by omega) (by have := HB8.out.size; simp; omega) ?_; intro v' w9' hown' hgrow _)
                  clear p0 p1 p2 p3 t0 t1 t2 t3 hneq hl1 hmz hmb
                  have hb9 : Below w10.heap.size w10 w9' := (balloc HB8.out _).grown hgrow (by have := HB8.out.size; simp; omega) (fun q e => (HO8.out.lt q e).1)
                  have b9 : w9'.heap[Y]? = _ := (hgrow.block Y (by have := (Array.getElem?_eq_some_iff.1 BY8.out).1; simp; omega) (fun e => HYN.out Y e.symm rfl)).trans (((balloc (Below.refl _ W8) _).block Y (Array.getElem?_eq_some_iff.1 BY8.out).1).trans BY8.out)
                  obtain ⟨-, -, hmz, -, -⟩ := HS10.out w9' hb9
                  have hl2 := hmz.look yk HYO.out
                  rw [HFN.out] at hl2
                  change (Instr.lookup 30 (.map (some A)) (.agg #[.int .i64 yk.1, .int .i64 yk.2.1, .int .i64 yk.2.2.1, .int .i64 yk.2.2.2]) false).run Try.prog w9' = .ok (.int .i64 y.size) w9' at hl2
                  rw [HZZ.out] at hl2
                  have p0 : w9'.cell? ⟨Y, 0, none⟩ = some (.int .i64 yk.1) := nd_cell b9 rfl
                  have p1 : w9'.cell? ⟨Y, 1, none⟩ = some (.int .i64 yk.2.1) := nd_cell b9 rfl
                  have p2 : w9'.cell? ⟨Y, 2, none⟩ = some (.int .i64 yk.2.2.1) := nd_cell b9 rfl
                  have p3 : w9'.cell? ⟨Y, 3, none⟩ = some (.int .i64 yk.2.2.2) := nd_cell b9 rfl
                  obtain ⟨oa', oc', rfl⟩ := own_shape hown'
                  have HO9 := Lib.hid hown'
                  have HB9w := Lib.hid hb9
                  have HKN : Hid (ME.kc ((K ++ [y]).map En.key) = U ++ ME.kyL yk) := Lib.hid (by rw [← HUU.out, List.map_append, ← HYK.out]; simp [ME.kc])
                  have HFN2 : Hid (fr - z = bu - sz - ME.sm (K ++ [y])) := Lib.hid (by have h1 := HFR.out; have h2 := HZZ.out; rw [ME.sm_app, ME.sm_cons, ME.sm_nil]; omega)
                  clear hmz b9 hb9 hown' hgrow
                  go_wp2
                  go_roundw
                  case rel => exact ⟨i + 1, c + 1, j, fr - z, K ++ [y], G, by go_num, rfl, rfl, hin, by omega, by omega, ⟨by omega, by omega⟩, HFN2, Lib.hid (by rw [List.length_append, HKL.out]; rfl), HGL, HON, by rw [HKN.out]; exact HO9.out, HB9w⟩
                  case measure => simp [intOf]; omega
                · rw [hp] at hl1
                  clear hp
                  obtain ⟨U, hU⟩ : ∃ U, ME.kc (K.map En.key) = U := ⟨_, rfl⟩
                  have HUU := Lib.hid hU
                  rw [hU] at HO8
                  clear hU HOW HO7
                  go_upto_region 32 with (at_builtin; refine wpList_appN _ rfl _ _ 43 rfl w10.heap.size 34 i0 _ 4 32 Try.underlying43 hi0' hz0 hz1 hz2 rfl (by decide) (.slice oa c oc) c U rfl (own_below HO8.out (balloc (Below.refl _ _) _)) (.slice (some ⟨W8.heap.size, 0, none⟩) 1 1) 1 (ME.kyL yk) rfl (srcN_new W8 (ME.kyL yk) 34 4 1 1 rfl) (by simp [ME.kyL, Value.oneCell']) (by unfold maxLen; omega) (by omega) (by have := HB8.out.size; simp; omega) ?_; intro v' w9' hown' hgrow _)
                  clear p0 p1 p2 p3 t0 t1 t2 t3 hneq hl1 hmz hmb
                  have hb9 : Below w10.heap.size w10 w9' := (balloc HB8.out _).grown hgrow (by have := HB8.out.size; simp; omega) (fun q e => (HO8.out.lt q e).1)
                  have b9 : w9'.heap[Y]? = _ := (hgrow.block Y (by have := (Array.getElem?_eq_some_iff.1 BY8.out).1; simp; omega) (fun e => HYN.out Y e.symm rfl)).trans (((balloc (Below.refl _ W8) _).block Y (Array.getElem?_eq_some_iff.1 BY8.out).1).trans BY8.out)
                  obtain ⟨-, -, hmz, -, -⟩ := HS10.out w9' hb9
                  have hl2 := hmz.look yk HYO.out
                  rw [HFN.out] at hl2
                  change (Instr.lookup 30 (.map (some A)) (.agg #[.int .i64 yk.1, .int .i64 yk.2.1, .int .i64 yk.2.2.1, .int .i64 yk.2.2.2]) false).run Try.prog w9' = .ok (.int .i64 y.size) w9' at hl2
                  rw [HZZ.out] at hl2
                  have p0 : w9'.cell? ⟨Y, 0, none⟩ = some (.int .i64 yk.1) := nd_cell b9 rfl
                  have p1 : w9'.cell? ⟨Y, 1, none⟩ = some (.int .i64 yk.2.1) := nd_cell b9 rfl
                  have p2 : w9'.cell? ⟨Y, 2, none⟩ = some (.int .i64 yk.2.2.1) := nd_cell b9 rfl
                  have p3 : w9'.cell? ⟨Y, 3, none⟩ = some (.int .i64 yk.2.2.2) := nd_cell b9 rfl
                  obtain ⟨oa', oc', rfl⟩ := own_shape hown'
                  have HO9 := Lib.hid hown'
                  have HB9w := Lib.hid hb9
                  have HKN : Hid (ME.kc ((K ++ [y]).map En.key) = U ++ ME.kyL yk) := Lib.hid (by rw [← HUU.out, List.map_append, ← HYK.out]; simp [ME.kc])
                  have HFN2 : Hid (fr - z = bu - sz - ME.sm (K ++ [y])) := Lib.hid (by have h1 := HFR.out; have h2 := HZZ.out; rw [ME.sm_app, ME.sm_cons, ME.sm_nil]; omega)
                  clear hmz b9 hb9 hown' hgrow
                  go_wp2
                  go_roundw
                  case rel => exact ⟨i + 1, c + 1, j, fr - z, K ++ [y], G, by go_num, rfl, rfl, hin, by omega, by omega, ⟨by omega, by omega⟩, HFN2, Lib.hid (by rw [List.length_append, HKL.out]; rfl), HGL, HON, by rw [HKN.out]; exact HO9.out, HB9w⟩
                  case measure => simp [intOf]; omega
              · have HON := Lib.hid h1
                clear h1
                by_cases hjm : j < m
                · have hneq : ∀ w, (binOp .neq 34 (.agg #[.int .i64 yk.1, .int .i64 yk.2.1, .int .i64 yk.2.2.1, .int .i64 yk.2.2.2]) (.agg #[.int .i64 ky.1, .int .i64 ky.2.1, .int .i64 ky.2.2.1, .int .i64 ky.2.2.2])).run Try.prog w = .ok (.bool true) w := fun w => by have h := neq_ow w yk ky; rw [decide_eq_false hk] at h; exact h
                  have hlt : j < m := hjm
                  have hltz : (j : Int) < (m : Int) := by omega
                  have hltd : decide (j < m) = true := by simpa using hlt
                  have hj00 : (0 : Int) ≤ (j : Int) := by omega
                  obtain ⟨x, hx⟩ : ∃ x, gs[j]? = some x := ⟨gs[j]'(by have h5 : gs.length = m := HMM.out; omega), List.getElem?_eq_getElem _⟩
                  have hxy : x ≠ yk := by rw [← HYK.out]; exact h3 x (by rw [HGS2.out, HGL.out]; exact hx)
                  have heq : ∀ w, (binOp .eql 34 (.agg #[.int .i64 yk.1, .int .i64 yk.2.1, .int .i64 yk.2.2.1, .int .i64 yk.2.2.2]) (.agg #[.int .i64 x.1, .int .i64 x.2.1, .int .i64 x.2.2.1, .int .i64 x.2.2.2])).run Try.prog w = .ok (.bool false) w := fun w => by have h := eq_ow w yk x; rw [decide_eq_false (fun e => hxy e.symm)] at h; exact h
                  obtain ⟨g2, o2, rfl, r0, r1, r2, r3⟩ := ky_at (own_srcN (HS10.out W7 HB7.out).2.2.2.2) hx hjm
                  clear hx hxy
                  go_quiet (fail)
                  clear r0 r1 r2 r3 heq p0 p1 p2 p3 t0 t1 t2 t3 hneq
                  have HB8 := Lib.hid (below_drewN HB7.out nq)
                  have b8 := (below_drewN (Below.refl W7.heap.size W7) nq).block Y (Array.getElem?_eq_some_iff.1 BY.out).1
                  rw [BY.out] at b8
                  have hsz8 : W7.heap.size ≤ (W7.drewN nq).heap.size := (below_drewN (Below.refl 0 W7) nq).size
                  obtain ⟨W8, hW8⟩ : ∃ W8, W7.drewN nq = W8 := ⟨_, rfl⟩
                  rw [hW8] at HB8 b8 hsz8
                  rw [hW8]
                  have HO8 := Lib.hid (own_below HO7.out (show Below W7.heap.size W7 W8 by rw [← hW8]; exact below_drewN (Below.refl _ W7) nq))
                  have BY8 := Lib.hid b8
                  have HY8z := Lib.hid hsz8
                  clear hW8 b8 hsz8
                  obtain ⟨⟨t0, t1, t2, t3⟩, -, hmz, hmb, -⟩ := HS10.out W8 HB8.out
                  have p0 : W8.cell? ⟨Y, 0, none⟩ = some (.int .i64 yk.1) := nd_cell BY8.out rfl
                  have p1 : W8.cell? ⟨Y, 1, none⟩ = some (.int .i64 yk.2.1) := nd_cell BY8.out rfl
                  have p2 : W8.cell? ⟨Y, 2, none⟩ = some (.int .i64 yk.2.2.1) := nd_cell BY8.out rfl
                  have p3 : W8.cell? ⟨Y, 3, none⟩ = some (.int .i64 yk.2.2.2) := nd_cell BY8.out rfl
                  have hneq : ∀ w, (binOp .neq 34 (.agg #[.int .i64 yk.1, .int .i64 yk.2.1, .int .i64 yk.2.2.1, .int .i64 yk.2.2.2]) (.agg #[.int .i64 ky.1, .int .i64 ky.2.1, .int .i64 ky.2.2.1, .int .i64 ky.2.2.2])).run Try.prog w = .ok (.bool true) w := fun w => by have h := neq_ow w yk ky; rw [decide_eq_false hk] at h; exact h
                  have hl1 := hmb.look yk HYO.out
                  rw [HFN.out] at hl1
                  change (Instr.lookup 50 (.map (some (A + 1))) (.agg #[.int .i64 yk.1, .int .i64 yk.2.1, .int .i64 yk.2.2.1, .int .i64 yk.2.2.2]) false).run Try.prog W8 = .ok (.bool y.pin) W8 at hl1
                  rw [h2] at hl1
                  obtain ⟨U, hU⟩ : ∃ U, ME.kc (K.map En.key) = U := ⟨_, rfl⟩
                  have HUU := Lib.hid hU
                  rw [hU] at HO8
                  clear hU HOW HO7
                  go_upto_region 32 with (at_builtin; refine wpList_appN _ rfl _ _ 43 rfl w10.heap.size 34 i0 _ 4 32 Try.underlying43 hi0' hz0 hz1 hz2 rfl (by decide) (.slice oa c oc) c U rfl (own_below HO8.out (balloc (Below.refl _ _) _)) (.slice (some ⟨W8.heap.size, 0, none⟩) 1 1) 1 (ME.kyL yk) rfl (srcN_new W8 (ME.kyL yk) 34 4 1 1 rfl) (by simp [ME.kyL, Value.oneCell']) (by unfold maxLen; omega) (by omega) (by have := HB8.out.size; simp; omega) ?_; intro v' w9' hown' hgrow _)
                  clear p0 p1 p2 p3 t0 t1 t2 t3 hneq hl1 hmz hmb
                  have hb9 : Below w10.heap.size w10 w9' := (balloc HB8.out _).grown hgrow (by have := HB8.out.size; simp; omega) (fun q e => (HO8.out.lt q e).1)
                  have b9 : w9'.heap[Y]? = _ := (hgrow.block Y (by have := (Array.getElem?_eq_some_iff.1 BY8.out).1; simp; omega) (fun e => HYN.out Y e.symm rfl)).trans (((balloc (Below.refl _ W8) _).block Y (Array.getElem?_eq_some_iff.1 BY8.out).1).trans BY8.out)
                  obtain ⟨-, -, hmz, -, -⟩ := HS10.out w9' hb9
                  have hl2 := hmz.look yk HYO.out
                  rw [HFN.out] at hl2
                  change (Instr.lookup 30 (.map (some A)) (.agg #[.int .i64 yk.1, .int .i64 yk.2.1, .int .i64 yk.2.2.1, .int .i64 yk.2.2.2]) false).run Try.prog w9' = .ok (.int .i64 y.size) w9' at hl2
                  rw [HZZ.out] at hl2
                  have p0 : w9'.cell? ⟨Y, 0, none⟩ = some (.int .i64 yk.1) := nd_cell b9 rfl
                  have p1 : w9'.cell? ⟨Y, 1, none⟩ = some (.int .i64 yk.2.1) := nd_cell b9 rfl
                  have p2 : w9'.cell? ⟨Y, 2, none⟩ = some (.int .i64 yk.2.2.1) := nd_cell b9 rfl
                  have p3 : w9'.cell? ⟨Y, 3, none⟩ = some (.int .i64 yk.2.2.2) := nd_cell b9 rfl
                  obtain ⟨oa', oc', rfl⟩ := own_shape hown'
                  have HO9 := Lib.hid hown'
                  have HB9w := Lib.hid hb9
                  have HKN : Hid (ME.kc ((K ++ [y]).map En.key) = U ++ ME.kyL yk) := Lib.hid (by rw [← HUU.out, List.map_append, ← HYK.out]; simp [ME.kc])
                  have HFN2 : Hid (fr - z = bu - sz - ME.sm (K ++ [y])) := Lib.hid (by have h1 := HFR.out; have h2 := HZZ.out; rw [ME.sm_app, ME.sm_cons, ME.sm_nil]; omega)
                  clear hmz b9 hb9 hown' hgrow
                  go_wp2
                  go_roundw
                  case rel => exact ⟨i + 1, c + 1, j, fr - z, K ++ [y], G, by go_num, rfl, rfl, hin, by omega, by omega, ⟨by omega, by omega⟩, HFN2, Lib.hid (by rw [List.length_append, HKL.out]; rfl), HGL, HON, by rw [HKN.out]; exact HO9.out, HB9w⟩
                  case measure => simp [intOf]; omega
                · clear h2 h3
                  have hneq : ∀ w, (binOp .neq 34 (.agg #[.int .i64 yk.1, .int .i64 yk.2.1, .int .i64 yk.2.2.1, .int .i64 yk.2.2.2]) (.agg #[.int .i64 ky.1, .int .i64 ky.2.1, .int .i64 ky.2.2.1, .int .i64 ky.2.2.2])).run Try.prog w = .ok (.bool true) w := fun w => by have h := neq_ow w yk ky; rw [decide_eq_false hk] at h; exact h
                  have hlt : ¬ j < m := hjm
                  have hltz : ¬ (j : Int) < (m : Int) := by omega
                  have hltd : decide (j < m) = false := by simpa using hlt
                  (try clear hmj)
                  go_quiet (fail)
                  clear p0 p1 p2 p3 t0 t1 t2 t3 hneq
                  have HB8 := Lib.hid (below_drewN HB7.out nq)
                  have b8 := (below_drewN (Below.refl W7.heap.size W7) nq).block Y (Array.getElem?_eq_some_iff.1 BY.out).1
                  rw [BY.out] at b8
                  have hsz8 : W7.heap.size ≤ (W7.drewN nq).heap.size := (below_drewN (Below.refl 0 W7) nq).size
                  obtain ⟨W8, hW8⟩ : ∃ W8, W7.drewN nq = W8 := ⟨_, rfl⟩
                  rw [hW8] at HB8 b8 hsz8
                  rw [hW8]
                  have HO8 := Lib.hid (own_below HO7.out (show Below W7.heap.size W7 W8 by rw [← hW8]; exact below_drewN (Below.refl _ W7) nq))
                  have BY8 := Lib.hid b8
                  have HY8z := Lib.hid hsz8
                  clear hW8 b8 hsz8
                  obtain ⟨⟨t0, t1, t2, t3⟩, -, hmz, hmb, -⟩ := HS10.out W8 HB8.out
                  have p0 : W8.cell? ⟨Y, 0, none⟩ = some (.int .i64 yk.1) := nd_cell BY8.out rfl
                  have p1 : W8.cell? ⟨Y, 1, none⟩ = some (.int .i64 yk.2.1) := nd_cell BY8.out rfl
                  have p2 : W8.cell? ⟨Y, 2, none⟩ = some (.int .i64 yk.2.2.1) := nd_cell BY8.out rfl
                  have p3 : W8.cell? ⟨Y, 3, none⟩ = some (.int .i64 yk.2.2.2) := nd_cell BY8.out rfl
                  have hneq : ∀ w, (binOp .neq 34 (.agg #[.int .i64 yk.1, .int .i64 yk.2.1, .int .i64 yk.2.2.1, .int .i64 yk.2.2.2]) (.agg #[.int .i64 ky.1, .int .i64 ky.2.1, .int .i64 ky.2.2.1, .int .i64 ky.2.2.2])).run Try.prog w = .ok (.bool true) w := fun w => by have h := neq_ow w yk ky; rw [decide_eq_false hk] at h; exact h
                  have hl1 := hmb.look yk HYO.out
                  rw [HFN.out] at hl1
                  change (Instr.lookup 50 (.map (some (A + 1))) (.agg #[.int .i64 yk.1, .int .i64 yk.2.1, .int .i64 yk.2.2.1, .int .i64 yk.2.2.2]) false).run Try.prog W8 = .ok (.bool y.pin) W8 at hl1
                  rcases Bool.eq_false_or_eq_true y.pin with hp | hp
                  · rw [hp] at hl1
                    clear hp
                    obtain ⟨U, hU⟩ : ∃ U, ME.kc (K.map En.key) = U := ⟨_, rfl⟩
                    have HUU := Lib.hid hU
                    rw [hU] at HO8
                    clear hU HOW HO7
                    go_upto_region 32 with (at_builtin; refine wpList_appN _ rfl _ _ 43 rfl w10.heap.size 34 i0 _ 4 32 Try.underlying43 hi0' hz0 hz1 hz2 rfl (by decide) (.slice oa c oc) c U rfl (own_below HO8.out (balloc (Below.refl _ _) _)) (.slice (some ⟨W8.heap.size, 0, none⟩) 1 1) 1 (ME.kyL yk) rfl (srcN_new W8 (ME.kyL yk) 34 4 1 1 rfl) (by simp [ME.kyL, Value.oneCell']) (by unfold maxLen; omega) (by omega) (by have := HB8.out.size; simp; omega) ?_; intro v' w9' hown' hgrow _)
                    clear p0 p1 p2 p3 t0 t1 t2 t3 hneq hl1 hmz hmb
                    have hb9 : Below w10.heap.size w10 w9' := (balloc HB8.out _).grown hgrow (by have := HB8.out.size; simp; omega) (fun q e => (HO8.out.lt q e).1)
                    have b9 : w9'.heap[Y]? = _ := (hgrow.block Y (by have := (Array.getElem?_eq_some_iff.1 BY8.out).1; simp; omega) (fun e => HYN.out Y e.symm rfl)).trans (((balloc (Below.refl _ W8) _).block Y (Array.getElem?_eq_some_iff.1 BY8.out).1).trans BY8.out)
                    obtain ⟨-, -, hmz, -, -⟩ := HS10.out w9' hb9
                    have hl2 := hmz.look yk HYO.out
                    rw [HFN.out] at hl2
                    change (Instr.lookup 30 (.map (some A)) (.agg #[.int .i64 yk.1, .int .i64 yk.2.1, .int .i64 yk.2.2.1, .int .i64 yk.2.2.2]) false).run Try.prog w9' = .ok (.int .i64 y.size) w9' at hl2
                    rw [HZZ.out] at hl2
                    have p0 : w9'.cell? ⟨Y, 0, none⟩ = some (.int .i64 yk.1) := nd_cell b9 rfl
                    have p1 : w9'.cell? ⟨Y, 1, none⟩ = some (.int .i64 yk.2.1) := nd_cell b9 rfl
                    have p2 : w9'.cell? ⟨Y, 2, none⟩ = some (.int .i64 yk.2.2.1) := nd_cell b9 rfl
                    have p3 : w9'.cell? ⟨Y, 3, none⟩ = some (.int .i64 yk.2.2.2) := nd_cell b9 rfl
                    obtain ⟨oa', oc', rfl⟩ := own_shape hown'
                    have HO9 := Lib.hid hown'
                    have HB9w := Lib.hid hb9
                    have HKN : Hid (ME.kc ((K ++ [y]).map En.key) = U ++ ME.kyL yk) := Lib.hid (by rw [← HUU.out, List.map_append, ← HYK.out]; simp [ME.kc])
                    have HFN2 : Hid (fr - z = bu - sz - ME.sm (K ++ [y])) := Lib.hid (by have h1 := HFR.out; have h2 := HZZ.out; rw [ME.sm_app, ME.sm_cons, ME.sm_nil]; omega)
                    clear hmz b9 hb9 hown' hgrow
                    go_wp2
                    go_roundw
                    case rel => exact ⟨i + 1, c + 1, j, fr - z, K ++ [y], G, by go_num, rfl, rfl, hin, by omega, by omega, ⟨by omega, by omega⟩, HFN2, Lib.hid (by rw [List.length_append, HKL.out]; rfl), HGL, HON, by rw [HKN.out]; exact HO9.out, HB9w⟩
                    case measure => simp [intOf]; omega
                  · rw [hp] at hl1
                    clear hp
                    obtain ⟨U, hU⟩ : ∃ U, ME.kc (K.map En.key) = U := ⟨_, rfl⟩
                    have HUU := Lib.hid hU
                    rw [hU] at HO8
                    clear hU HOW HO7
                    go_upto_region 32 with (at_builtin; refine wpList_appN _ rfl _ _ 43 rfl w10.heap.size 34 i0 _ 4 32 Try.underlying43 hi0' hz0 hz1 hz2 rfl (by decide) (.slice oa c oc) c U rfl (own_below HO8.out (balloc (Below.refl _ _) _)) (.slice (some ⟨W8.heap.size, 0, none⟩) 1 1) 1 (ME.kyL yk) rfl (srcN_new W8 (ME.kyL yk) 34 4 1 1 rfl) (by simp [ME.kyL, Value.oneCell']) (by unfold maxLen; omega) (by omega) (by have := HB8.out.size; simp; omega) ?_; intro v' w9' hown' hgrow _)
                    clear p0 p1 p2 p3 t0 t1 t2 t3 hneq hl1 hmz hmb
                    have hb9 : Below w10.heap.size w10 w9' := (balloc HB8.out _).grown hgrow (by have := HB8.out.size; simp; omega) (fun q e => (HO8.out.lt q e).1)
                    have b9 : w9'.heap[Y]? = _ := (hgrow.block Y (by have := (Array.getElem?_eq_some_iff.1 BY8.out).1; simp; omega) (fun e => HYN.out Y e.symm rfl)).trans (((balloc (Below.refl _ W8) _).block Y (Array.getElem?_eq_some_iff.1 BY8.out).1).trans BY8.out)
                    obtain ⟨-, -, hmz, -, -⟩ := HS10.out w9' hb9
                    have hl2 := hmz.look yk HYO.out
                    rw [HFN.out] at hl2
                    change (Instr.lookup 30 (.map (some A)) (.agg #[.int .i64 yk.1, .int .i64 yk.2.1, .int .i64 yk.2.2.1, .int .i64 yk.2.2.2]) false).run Try.prog w9' = .ok (.int .i64 y.size) w9' at hl2
                    rw [HZZ.out] at hl2
                    have p0 : w9'.cell? ⟨Y, 0, none⟩ = some (.int .i64 yk.1) := nd_cell b9 rfl
                    have p1 : w9'.cell? ⟨Y, 1, none⟩ = some (.int .i64 yk.2.1) := nd_cell b9 rfl
                    have p2 : w9'.cell? ⟨Y, 2, none⟩ = some (.int .i64 yk.2.2.1) := nd_cell b9 rfl
                    have p3 : w9'.cell? ⟨Y, 3, none⟩ = some (.int .i64 yk.2.2.2) := nd_cell b9 rfl
                    obtain ⟨oa', oc', rfl⟩ := own_shape hown'
                    have HO9 := Lib.hid hown'
                    have HB9w := Lib.hid hb9
                    have HKN : Hid (ME.kc ((K ++ [y]).map En.key) = U ++ ME.kyL yk) := Lib.hid (by rw [← HUU.out, List.map_append, ← HYK.out]; simp [ME.kc])
                    have HFN2 : Hid (fr - z = bu - sz - ME.sm (K ++ [y])) := Lib.hid (by have h1 := HFR.out; have h2 := HZZ.out; rw [ME.sm_app, ME.sm_cons, ME.sm_nil]; omega)
                    clear hmz b9 hb9 hown' hgrow
                    go_wp2
                    go_roundw
                    case rel => exact ⟨i + 1, c + 1, j, fr - z, K ++ [y], G, by go_num, rfl, rfl, hin, by omega, by omega, ⟨by omega, by omega⟩, HFN2, Lib.hid (by rw [List.length_append, HKL.out]; rfl), HGL, HON, by rw [HKN.out]; exact HO9.out, HB9w⟩
                    case measure => simp [intOf]; omega
              · have HON := Lib.hid h1
                clear h1
                have hneq : ∀ w, (binOp .neq 34 (.agg #[.int .i64 yk.1, .int .i64 yk.2.1, .int .i64 yk.2.2.1, .int .i64 yk.2.2.2]) (.agg #[.int .i64 ky.1, .int .i64 ky.2.1, .int .i64 ky.2.2.1, .int .i64 ky.2.2.2])).run Try.prog w = .ok (.bool true) w := fun w => by have h := neq_ow w yk ky; rw [decide_eq_false hk] at h; exact h
                have hjm : j < m := by have h := (List.getElem?_eq_some_iff.1 h3).1; rw [HGL.out, HGS2.out] at h; have h5 : gs.length = m := HMM.out; omega
                have hltz : (j : Int) < (m : Int) := by omega
                have hltd : decide (j < m) = true := by simpa using hjm
                have hj00 : (0 : Int) ≤ (j : Int) := by omega
                have hx : gs[j]? = some yk := by rw [← HYK.out, ← HGS2.out, ← HGL.out]; exact h3
                have heq : ∀ w, (binOp .eql 34 (.agg #[.int .i64 yk.1, .int .i64 yk.2.1, .int .i64 yk.2.2.1, .int .i64 yk.2.2.2]) (.agg #[.int .i64 yk.1, .int .i64 yk.2.1, .int .i64 yk.2.2.1, .int .i64 yk.2.2.2])).run Try.prog w = .ok (.bool true) w := fun w => by have h := eq_ow w yk yk; rw [decide_eq_true rfl] at h; exact h
                obtain ⟨g2, o2, rfl, r0, r1, r2, r3⟩ := ky_at (own_srcN (HS10.out W7 HB7.out).2.2.2.2) hx hjm
                clear hx
                go_quiet (fail)
                clear r0 r1 r2 r3 heq p0 p1 p2 p3 t0 t1 t2 t3 hneq
                have HB8 := Lib.hid (below_drewN HB7.out nq)
                have b8 := (below_drewN (Below.refl W7.heap.size W7) nq).block Y (Array.getElem?_eq_some_iff.1 BY.out).1
                rw [BY.out] at b8
                have hsz8 : W7.heap.size ≤ (W7.drewN nq).heap.size := (below_drewN (Below.refl 0 W7) nq).size
                obtain ⟨W8, hW8⟩ : ∃ W8, W7.drewN nq = W8 := ⟨_, rfl⟩
                rw [hW8] at HB8 b8 hsz8
                rw [hW8]
                have HO8 := Lib.hid (own_below HO7.out (show Below W7.heap.size W7 W8 by rw [← hW8]; exact below_drewN (Below.refl _ W7) nq))
                have BY8 := Lib.hid b8
                have HY8z := Lib.hid hsz8
                clear hW8 b8 hsz8
                obtain ⟨⟨t0, t1, t2, t3⟩, -, hmz, hmb, -⟩ := HS10.out W8 HB8.out
                have p0 : W8.cell? ⟨Y, 0, none⟩ = some (.int .i64 yk.1) := nd_cell BY8.out rfl
                have p1 : W8.cell? ⟨Y, 1, none⟩ = some (.int .i64 yk.2.1) := nd_cell BY8.out rfl
                have p2 : W8.cell? ⟨Y, 2, none⟩ = some (.int .i64 yk.2.2.1) := nd_cell BY8.out rfl
                have p3 : W8.cell? ⟨Y, 3, none⟩ = some (.int .i64 yk.2.2.2) := nd_cell BY8.out rfl
                have hneq : ∀ w, (binOp .neq 34 (.agg #[.int .i64 yk.1, .int .i64 yk.2.1, .int .i64 yk.2.2.1, .int .i64 yk.2.2.2]) (.agg #[.int .i64 ky.1, .int .i64 ky.2.1, .int .i64 ky.2.2.1, .int .i64 ky.2.2.2])).run Try.prog w = .ok (.bool true) w := fun w => by have h := neq_ow w yk ky; rw [decide_eq_false hk] at h; exact h
                have hl1 := hmb.look yk HYO.out
                rw [HFN.out] at hl1
                change (Instr.lookup 50 (.map (some (A + 1))) (.agg #[.int .i64 yk.1, .int .i64 yk.2.1, .int .i64 yk.2.2.1, .int .i64 yk.2.2.2]) false).run Try.prog W8 = .ok (.bool y.pin) W8 at hl1
                rw [h2] at hl1
                clear h2 h3
                clear hmz hmb
                go_wp2
                go_roundw
                case rel => exact ⟨i + 1, c, j + 1, fr, K, G ++ [y], by go_num, by go_num, rfl, hin, by omega, by omega, ⟨by omega, hf1⟩, HFR, HKL, Lib.hid (by rw [List.length_append, HGL.out]; rfl), HON, HO8.out, HB8⟩
                case measure => simp [intOf]; omega
          · obtain rfl : n = i := by omega
            have hii : ¬ (n : Int) < (n : Int) := by omega
            clear hin hi
            obtain ⟨hfin1, hfin2⟩ := HOL.out.fin (Nat.le_of_eq HN.out)
            have hgs : gs = G.map En.key := by rw [← HGS2.out, hfin1]
            have hQ2 : Q = K ++ [ME.mkE ky sz (ME.pinOf ky P)] := by have h := HQQ.out; rw [hfin1] at h; exact h
            have HQK : Hid (Q.map En.key = K.map En.key ++ [ky]) := Lib.hid (by rw [hQ2, List.map_append]; rfl)
            have HQK : Hid (ME.kc (Q.map En.key) = ME.kc (K.map En.key) ++ ME.kyL ky) := Lib.hid (by rw [HQK.out]; simp [ME.kc])
            have HQC : Hid (q = c + 1) := Lib.hid (by have h := HQ.out; rw [hQ2, List.length_map, List.length_append, HKL.out] at h; simpa using h.symm)
            have hmj : m = j := by have h := congrArg List.length hgs; rw [List.length_map, HGL.out] at h; have h5 : gs.length = m := HMM.out; omega
            have hfr0 : 0 ≤ fr := by
              have h1 : ME.sm Q ≤ bu := S9.out.ok.sum
              rw [hQ2, ME.sm_app, ME.sm_cons, ME.sm_nil] at h1
              have h2 := HFR.out
              have h3 : (ME.mkE ky sz (ME.pinOf ky P)).size = sz := rfl
              omega
            have hneq : ((m : Int) == (j : Int)) = true := by rw [hmj]; simp
            have hneq2 : ((j : Int) == (m : Int)) = true := by rw [hmj]; simp
            have hcb : c ≤ 60 := by omega
            by_cases hm0 : j = 0
            · have h34 : ¬ (0 : Int) < (j : Int) := by omega
              have h34' : ¬ 0 < j := by omega
              clear hfin1 hfin2 hgs hQ2 hmj hm0
              obtain ⟨⟨t0, t1, t2, t3⟩, -, -, -, -⟩ := HS10.out wr HB.out
              obtain ⟨U, hU⟩ : ∃ U, ME.kc (K.map En.key) = U := ⟨_, rfl⟩
              have HUU := Lib.hid hU
              have HO8 := Lib.hid HOW.out
              rw [hU] at HO8
              clear hU
              go_wp2_with (at_builtin; refine wpList_appNG _ (by rfl) _ _ 43 rfl w10.heap.size 34 i0 _ 4 32 Try.underlying43 hi0' hz0 hz1 hz2 rfl (by decide) (.slice oa c oc) c U rfl (own_below HO8.out (balloc (Below.refl _ _) _)) (.slice (some ⟨wr.heap.size, 0, none⟩) 1 1) 1 (ME.kyL ky) rfl (srcN_new wr (ME.kyL ky) 34 4 1 1 rfl) (by simp [ME.kyL, Value.oneCell']) (by unfold maxLen; omega) (by omega) (by have := HB.out.size; simp; omega) ?_; intro v' w' hown' hgrow _)
              rw [← HUU.out] at hown'
              have hbw : Below w10.heap.size w10 w' := (balloc HB.out _).grown hgrow (by have := HB.out.size; simp; omega) (fun q e => (HOW.out.lt q e).1)
              obtain ⟨oa', oc', rfl⟩ := own_shape hown'
              have HSM := Lib.hid (same_any w' (.slice aa q ac) (.slice oa' (c + 1) oc') (Q.map En.key) (Q.map En.key) (by rw [HQ.out]; exact own_srcN (own_below HR10.out hbw)) (by rw [HQ.out, HQK.out, HQC.out]; exact own_srcN hown') (by rw [HQ.out]; omega) (by rw [HQ.out]; omega))
              rw [decide_eq_true rfl] at HSM
              have HBL := Lib.hid (bnext HB10.out hbw)
              clear hown' hgrow hbw
              go_wp2_with fail
              go_at_call 20
              refine HSM.out.mono ?_
              rintro e we ⟨rfl, nq, rfl⟩
              have HFI := Lib.hid (below_drewN HBL.out nq)
              go_wp2
              go_ret
              exact ⟨rfl, HFI.out⟩
            · have h34 : (0 : Int) < (j : Int) := by omega
              have h34' : 0 < j := by omega
              obtain ⟨g, hg⟩ : ∃ g, G[j - 1]? = some g := ⟨G[j - 1]'(by rw [HGL.out]; omega), List.getElem?_eq_getElem _⟩
              have hgl := hfin2 g (by rw [List.getLast?_eq_getElem?, HGL.out]; exact hg)
              have hgP := HOL.out.gin g (List.mem_of_getElem? hg)
              obtain ⟨yk, hyk⟩ : ∃ yk, g.key = yk := ⟨_, rfl⟩
              obtain ⟨z, hz⟩ : ∃ z, g.size = z := ⟨_, rfl⟩
              have hzb : 0 ≤ z ∧ z ≤ 65536 := by rw [← hz]; exact HOK.out.sz g hgP
              obtain ⟨hzb0, hzb1⟩ := hzb
              have hfz : fr - z < 0 := by rw [HFR.out, ← hz]; exact hgl
              have hfz1 : ¬ 0 ≤ fr - z := by omega
              have hfz2 : ¬ z ≤ fr := by omega
              have HFN : ME.fnd yk P = some g := by rw [← hyk]; exact ME.fnd_self HOK.out.keys hgP
              have HYO : K4ok yk := by rw [← hyk]; exact HOK.out.ok g hgP
              have hj1 : (0 : Int) ≤ (j : Int) - 1 := by omega
              have hj2 : (j : Int) - 1 < (m : Int) := by omega
              have hjt : ((j : Int) - 1).toNat = j - 1 := by omega
              obtain ⟨-, -, hmz, -, hgr⟩ := HS10.out wr HB.out
              have hl2 := hmz.look yk HYO
              rw [HFN] at hl2
              change (Instr.lookup 30 (.map (some A)) (.agg #[.int .i64 yk.1, .int .i64 yk.2.1, .int .i64 yk.2.2.1, .int .i64 yk.2.2.2]) false).run Try.prog wr = .ok (.int .i64 g.size) wr at hl2
              rw [hz] at hl2
              obtain ⟨g2, o2, rfl, r0, r1, r2, r3⟩ := ky_at (own_srcN hgr) (i := j - 1) (k := yk) (by rw [hgs, List.getElem?_map, hg]; simp [hyk]) (by omega)
              clear hfin1 hfin2 hgs hQ2 hmj hm0 hg hgl hgP hyk hz hfz HFN HYO hmz hgr
              obtain ⟨⟨t0, t1, t2, t3⟩, -, -, -, -⟩ := HS10.out wr HB.out
              obtain ⟨U, hU⟩ : ∃ U, ME.kc (K.map En.key) = U := ⟨_, rfl⟩
              have HUU := Lib.hid hU
              have HO8 := Lib.hid HOW.out
              rw [hU] at HO8
              clear hU
              go_wp2_with (at_builtin; refine wpList_appNG _ (by rfl) _ _ 43 rfl w10.heap.size 34 i0 _ 4 32 Try.underlying43 hi0' hz0 hz1 hz2 rfl (by decide) (.slice oa c oc) c U rfl (own_below HO8.out (balloc (Below.refl _ _) _)) (.slice (some ⟨wr.heap.size, 0, none⟩) 1 1) 1 (ME.kyL ky) rfl (srcN_new wr (ME.kyL ky) 34 4 1 1 rfl) (by simp [ME.kyL, Value.oneCell']) (by unfold maxLen; omega) (by omega) (by have := HB.out.size; simp; omega) ?_; intro v' w' hown' hgrow _)
              rw [← HUU.out] at hown'
              have hbw : Below w10.heap.size w10 w' := (balloc HB.out _).grown hgrow (by have := HB.out.size; simp; omega) (fun q e => (HOW.out.lt q e).1)
              obtain ⟨oa', oc', rfl⟩ := own_shape hown'
              have HSM := Lib.hid (same_any w' (.slice aa q ac) (.slice oa' (c + 1) oc') (Q.map En.key) (Q.map En.key) (by rw [HQ.out]; exact own_srcN (own_below HR10.out hbw)) (by rw [HQ.out, HQK.out, HQC.out]; exact own_srcN hown') (by rw [HQ.out]; omega) (by rw [HQ.out]; omega))
              rw [decide_eq_true rfl] at HSM
              have HBL := Lib.hid (bnext HB10.out hbw)
              clear hown' hgrow hbw
              go_wp2_with fail
              go_at_call 20
              refine HSM.out.mono ?_
              rintro e we ⟨rfl, nq, rfl⟩
              have HFI := Lib.hid (below_drewN HBL.out nq)
              go_wp2
              go_ret
              exact ⟨rfl, HFI.out⟩

set_option maxRecDepth 100000 in
theorem lifted (os : Os) (started : os.Started) (H : Type) (enc : TypeId × Value → H) :
    ReturnsInHanded {} Try.checked os 5 .any (Rows.memoryOldestSpec.pre6 enc Try.prog Try.f5 Rows.memoryOldestRow.domain false) (Rows.memoryOldestSpec.post enc Try.prog Try.f5 false true false false) := by
  refine returnsInHanded_of_change (C := Try.checked) own started (by kernel_rfl) Try.func5
    (ChangeSpec.witness6 (enc := enc) (C := Try.checked) false ⟨#[], #[.int .u8 0, .slice none 0 0, .agg #[.int .u8 0, .int .u8 0]], []⟩ 8 (by kernel_rfl) (by kernel_rfl) (by kernel_rfl) (by kernel_rfl)) ?_
  intro W base args ds gs before hval0 hW hcnd _
  have hval : ∀ (j : Nat) t v, Try.f5.params[j]? = some t → args[j]? = some v → Value.okWide Try.prog W .any base t v := hval0
  have hW' := hW
  obtain ⟨p, q, hA0, hV, rfl, hfz, hnd⟩ := hW
  have hA : DataW.TrodAll enc Try.prog W 0 (fun _ => true) true Try.f5.params.toList args.toList ds p := hA0
  rw [Try.params5] at hA hval
  obtain ⟨v0, vs0, d0, ds0, p0, q0, hargs, rfl, rfl, h0, r0⟩ := trodAll_cons hA
  obtain ⟨v1, vs1, d1, ds1, p1, q1, rfl, rfl, rfl, h1, r1⟩ := trodAll_cons r0
  obtain ⟨v2, vs2, d2, ds2, p2, q2, rfl, rfl, rfl, h2, r2⟩ := trodAll_cons r1
  obtain ⟨rfl, rfl, rfl⟩ := trodAll_nil r2
  obtain rfl : args = #[v0, v1, v2] := by cases args; simp_all
  obtain ⟨rfl, rfl⟩ := trodVars_none hV
  have k0 := h0
  have lt0 : ∀ x ∈ p0, x.block < W.heap.size := by obtain ⟨m, hm⟩ := k0; exact DataW.trod_lt m _ _ _ hm
  have k1 := h1
  have lt1 : ∀ x ∈ p1, x.block < W.heap.size := by obtain ⟨m, hm⟩ := k1; exact DataW.trod_lt m _ _ _ hm
  have k2 := h2
  have lt2 : ∀ x ∈ p2, x.block < W.heap.size := by obtain ⟨m, hm⟩ := k2; exact DataW.trod_lt m _ _ _ hm
  obtain ⟨a0, rfl, rfl, rfl, wa0⟩ := open_int Try.underlying5 (hval 0 5 v0 rfl rfl) h0
  obtain ⟨a1, H1⟩ := open_acts (hval 1 22 v1 rfl rfl) h1
  obtain ⟨a2, b2, rfl, wa2, wb2⟩ := open_arr2 Try.underlying49 Try.underlying5 (by kernel_rfl) (by kernel_rfl) (hval 2 49 v2 rfl rfl) h2
  clear hA0 hval0
  refine (walk a0 v1 a1 a2 b2 wa0 wa2 wb2 W H1).mono fun e W' ⟨he, bel⟩ => ?_
  subst he
  exact ⟨_, rfl, _, _, _, [], _, [], hW', trodAll_mk1 (shut_bool Try.underlying4 _), (trodAll_cons_mk (Below.trod laidOut (by kernel_rfl) (of_decide_eq_true (by kernel_rfl)) k0 bel lt0) (trodAll_cons_mk (Below.trod laidOut (by kernel_rfl) (of_decide_eq_true (by kernel_rfl)) k1 bel lt1) (trodAll_cons_mk (Below.trod laidOut (by kernel_rfl) (of_decide_eq_true (by kernel_rfl)) k2 bel lt2) trodAll_mk0))), rfl, bel.frame _, fun h => by cases h⟩

theorem over : Rows.memoryOldestRow.holds Try.pinned (OpenSpec.ofChange Rows.memoryOldestSpec) :=
  OpenClaim.holds_of_wide 5 Try.f5 rfl rfl rfl rfl rfl rfl rfl ⟨rfl, rfl, rfl, rfl, rfl⟩ rfl rfl rfl rfl rfl (by kernel_rfl) Try.func5 (by kernel_rfl)
    (of_decide_eq_true (by kernel_rfl)) (by unfold Func.isWrapper; first | (rw [if_pos (by decide +kernel)]; kernel_rfl) | (rw [if_neg (by decide +kernel)]; exact ⟨rfl, rfl⟩))
    (fun os started H enc _ => lifted os started H enc)

end Go.Proofs.Ytmnajongifdajaa.memoryOldest
namespace Go.Proofs.Ytmnajongifdajaa
theorem memoryOldest_proved : Rows.MemoryOldestSaid := memoryOldest.over
#print axioms memoryOldest_proved
end Go.Proofs.Ytmnajongifdajaa
