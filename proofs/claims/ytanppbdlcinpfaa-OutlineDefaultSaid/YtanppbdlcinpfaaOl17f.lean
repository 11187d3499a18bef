/- Drawing an outline: rows made anew. No conditions. -/
import Derived.Test.YtanppbdlcinpfaaOl34z
import Derived.Deep.RegionHeld3
set_option linter.unusedSimpArgs false
set_option linter.unusedVariables false
namespace Go.Proofs.Ytanppbdlcinpfaa
set_option maxRecDepth 100000
set_option linter.unusedVariables false
open Go.RowKit Go.Shelf Go.Deep
attribute [local go_sem] Oper.semAt_some
set_option maxHeartbeats 8000000 in
theorem draw_first (m : Nat) (W W1 : World) (vr va vp : Value) (hc hx hy ad : Int) (ca aa da : Option Addr) (ck ak dk cn an dn B : Nat) (C : List (List Pt)) (A : List Ac) (D : List Dl) (HOKC : Hid (CsOk C)) (HLB : Hid (A.length ≤ 1000 ∧ D.length ≤ 1000)) (HLN : Hid (C.length = cn ∧ A.length = an ∧ D.length = dn)) (HCS : Hid (CsAt W (.slice ca cn ck) C)) (HAN : Hid (AcAt W (.slice aa an ak) A)) (HB1 : Hid (Below W.heap.size W W1)) (HX : Hid (W1.heap[B]? = some (.cells #[.slice ca cn ck, .slice aa an ak, .int .i64 hc, .int .i64 hx, .int .i64 hy, .int .i64 ad, .slice da dn dk, vp] 34) ∧ W1.heap[B + 1]? = some (.cells #[(.func (.func 36) #[.agg #[vr, va, .slice da dn dk]] #[])] 91) ∧ W1.heap[B + 2]? = some (.cells #[.slice none 0 0, .slice none 0 0, .int .i64 0, .int .i64 0, .int .i64 0, .int .i64 0] 41) ∧ W1.heap.size = B + 3 ∧ W.heap.size = B)) (HGC : Hid (∀ U : World, U.heap[B]? = W1.heap[B]? → U.cell? ⟨B, 0, none⟩ = some (.slice ca cn ck) ∧ U.cell? ⟨B, 1, none⟩ = some (.slice aa an ak) ∧ U.cell? ⟨B, 2, none⟩ = some (.int .i64 hc) ∧ U.cell? ⟨B, 3, none⟩ = some (.int .i64 hx) ∧ U.cell? ⟨B, 4, none⟩ = some (.int .i64 hy))) (K : Act → World → Prop) (hK2 : ∀ (X : Nat) (v2 v5 : Value) (vs : List Value) (wx : World) (u12 u13 u14 u15 u16 u17 u18 u19 u20 : Value), (wx.heap[X]? = some (.cells #[v2, v5, .int .i64 hc, .int .i64 hx, .int .i64 hy, .int .i64 0] 41 (0, 0)) ∧ B + 3 ≤ X ∧ (∃ ms ga, Rdy wx (B + 3) v2 v5 C A vs ms ga ∧ ¬ inF ms ga A.length X) ∧ (∀ q, v2.ownBlock = some q → B + 3 ≤ q ∧ q < wx.heap.size ∧ q ≠ X) ∧ Below W1.heap.size W1 wx) → K {tmps := #[.agg #[.slice ca cn ck, .slice aa an ak, .int .i64 hc, .int .i64 hx, .int .i64 hy, .int .i64 ad, .slice da dn dk, vp], (.func (.func 36) #[.agg #[vr, va, .slice da dn dk]] #[]), .pointer (some ⟨B, 0, none⟩), .pointer (some ⟨B + 1, 0, none⟩), .pointer (some ⟨B + 1 + 1, 0, none⟩), .pointer (some ⟨X, 0, none⟩), undef, undef, undef, undef, undef, undef, u12, u13, u14, u15, u16, u17, u18, u19, u20, undef, undef, undef, undef, undef, undef, undef, undef, undef, undef, undef, undef, undef, undef, undef, undef, undef, undef, undef, undef, undef, undef, undef, undef, undef, undef, undef, undef, undef, undef, undef, undef, undef, undef, undef, undef, undef, undef, undef, undef, undef, undef, undef, undef, undef, undef, undef, undef, undef, undef], defers := []} wx) :
    (Code.region 1 #[{ dst := some 12, op := Op.fieldAddr 34 (Operand.tmp 2) 0, type := 0, pos := "outline.go:167", after := #[], guard := none }, { dst := some 13, op := Op.load 27 (Operand.tmp 12), type := 27, pos := "outline.go:167", after := #[{ on := 0, ground := Ground.data }], guard := none }, { dst := some 14, op := Op.call { callee := Callee.value (Operand.func 44), args := #[Operand.tmp 13], argTypes := #[27] }, type := 27, pos := "outline.go:167", after := #[{ on := 1, ground := Ground.data }], guard := none }, { dst := some 15, op := Op.fieldAddr 34 (Operand.tmp 2) 1, type := 0, pos := "outline.go:167", after := #[], guard := none }, { dst := some 16, op := Op.load 28 (Operand.tmp 15), type := 28, pos := "outline.go:167", after := #[{ on := 3, ground := Ground.data }], guard := none }, { dst := some 17, op := Op.call { callee := Callee.value (Operand.func 45), args := #[Operand.tmp 16], argTypes := #[28] }, type := 28, pos := "outline.go:167", after := #[{ on := 4, ground := Ground.data }, { on := 2, ground := Ground.chain }], guard := none }, { dst := some 18, op := Op.fieldAddr 34 (Operand.tmp 2) 2, type := 0, pos := "outline.go:167", after := #[], guard := none }, { dst := some 19, op := Op.load 30 (Operand.tmp 18), type := 30, pos := "outline.go:167", after := #[{ on := 6, ground := Ground.data }], guard := none }, { dst := some 20, op := Op.build 41 #[(0, Operand.tmp 14), (1, Operand.tmp 17), (2, Operand.tmp 19)], type := 41, pos := "outline.go:167", after := #[{ on := 2, ground := Ground.data }, { on := 5, ground := Ground.data }, { on := 7, ground := Ground.data }], guard := none }, { dst := some 5, op := Op.alloc 41, type := 0, pos := "outline.go:167", after := #[], guard := none }, { dst := none, op := Op.store 41 (Operand.tmp 5) (Operand.tmp 20), type := 0, pos := "outline.go:167", after := #[{ on := 9, ground := Ground.data }, { on := 8, ground := Ground.data }, { on := 5, ground := Ground.chain }, { on := 0, ground := Ground.phase }, { on := 1, ground := Ground.phase }, { on := 2, ground := Ground.phase }, { on := 3, ground := Ground.phase }, { on := 4, ground := Ground.phase }, { on := 5, ground := Ground.phase }, { on := 6, ground := Ground.phase }, { on := 7, ground := Ground.phase }, { on := 8, ground := Ground.phase }, { on := 9, ground := Ground.phase }], guard := none }] true).wpIn Fence.wide m Try.prog (Exit.then K (fun _ _ _ => False)) { tmps := #[.agg #[.slice ca cn ck, .slice aa an ak, .int .i64 hc, .int .i64 hx, .int .i64 hy, .int .i64 ad, .slice da dn dk, vp], (.func (.func 36) #[.agg #[vr, va, .slice da dn dk]] #[]), .pointer (some ⟨B, 0, none⟩), .pointer (some ⟨B + 1, 0, none⟩), .pointer (some ⟨B + 1 + 1, 0, none⟩), undef, undef, undef, undef, undef, undef, undef, undef, undef, undef, undef, undef, undef, undef, undef, undef, undef, undef, undef, undef, undef, undef, undef, undef, undef, undef, undef, undef, undef, undef, undef, undef, undef, undef, undef, undef, undef, undef, undef, undef, undef, undef, undef, undef, undef, undef, undef, undef, undef, undef, undef, undef, undef, undef, undef, undef, undef, undef, undef, undef, undef, undef, undef, undef, undef, undef], defers := [] } W1 := by
  refine wpIn_wide.2 (wp_region_held_drew (S := fun w' => w'.cell? ⟨B, 0, none⟩ = some (.slice ca cn ck) ∧ w'.cell? ⟨B, 1, none⟩ = some (.slice aa an ak) ∧ w'.cell? ⟨B, 2, none⟩ = some (.int .i64 hc) ∧ w'.cell? ⟨B, 3, none⟩ = some (.int .i64 hx) ∧ w'.cell? ⟨B, 4, none⟩ = some (.int .i64 hy)) (by kernel_rfl) ?_ (fun hHeld => ?_))
  · exact HGC.out _ rfl
  have HBD : Hid (Below W1.heap.size W1 W1.drew) := Lib.hid (Below.drew (Below.refl _ _))
  generalize W1.drew = wd at hHeld HBD ⊢
  refine wpAnyH_take (i := 0) (oi := { dst := some 12, op := Op.fieldAddr 34 (Operand.tmp 2) 0, type := 0, pos := "outline.go:167", after := #[], guard := none }) (v := ?_) rfl (by kernel_rfl) (by kernel_rfl) (by kernel_rfl) (fun _ _ _ h => h) (Or.inl ⟨by rfl, ?_⟩) (by assumption) ?_
  rotate_left
  · ((intro w hSw; (try dsimp only at hSw); go_simp; (try rw [if_neg (by omega)])); try with_reducible rfl)
  (try simp only [Act.put, List.setIfInBounds_toArray, List.set_cons_zero, List.set_cons_succ])
  refine wpAnyH_take (i := 1) (oi := { dst := some 13, op := Op.load 27 (Operand.tmp 12), type := 27, pos := "outline.go:167", after := #[{ on := 0, ground := Ground.data }], guard := none }) (v := ?_) rfl (by kernel_rfl) (by kernel_rfl) (by kernel_rfl) (fun _ _ _ h => h) (Or.inl ⟨by rfl, ?_⟩) (by assumption) ?_
  rotate_left
  · ((intro w hSw; (try dsimp only at hSw); go_simp; (try rw [if_neg (by omega)])); try with_reducible rfl)
  (try simp only [Act.put, List.setIfInBounds_toArray, List.set_cons_zero, List.set_cons_succ])
  refine wpAnyH_take (i := 3) (oi := { dst := some 15, op := Op.fieldAddr 34 (Operand.tmp 2) 1, type := 0, pos := "outline.go:167", after := #[], guard := none }) (v := ?_) rfl (by kernel_rfl) (by kernel_rfl) (by kernel_rfl) (fun _ _ _ h => h) (Or.inl ⟨by rfl, ?_⟩) (by assumption) ?_
  rotate_left
  · ((intro w hSw; (try dsimp only at hSw); go_simp; (try rw [if_neg (by omega)])); try with_reducible rfl)
  (try simp only [Act.put, List.setIfInBounds_toArray, List.set_cons_zero, List.set_cons_succ])
  refine wpAnyH_take (i := 4) (oi := { dst := some 16, op := Op.load 28 (Operand.tmp 15), type := 28, pos := "outline.go:167", after := #[{ on := 3, ground := Ground.data }], guard := none }) (v := ?_) rfl (by kernel_rfl) (by kernel_rfl) (by kernel_rfl) (fun _ _ _ h => h) (Or.inl ⟨by rfl, ?_⟩) (by assumption) ?_
  rotate_left
  · ((intro w hSw; (try dsimp only at hSw); go_simp; (try rw [if_neg (by omega)])); try with_reducible rfl)
  (try simp only [Act.put, List.setIfInBounds_toArray, List.set_cons_zero, List.set_cons_succ])
  refine wpAnyH_take (i := 6) (oi := { dst := some 18, op := Op.fieldAddr 34 (Operand.tmp 2) 2, type := 0, pos := "outline.go:167", after := #[], guard := none }) (v := ?_) rfl (by kernel_rfl) (by kernel_rfl) (by kernel_rfl) (fun _ _ _ h => h) (Or.inl ⟨by rfl, ?_⟩) (by assumption) ?_
  rotate_left
  · ((intro w hSw; (try dsimp only at hSw); go_simp; (try rw [if_neg (by omega)])); try with_reducible rfl)
  (try simp only [Act.put, List.setIfInBounds_toArray, List.set_cons_zero, List.set_cons_succ])
  refine wpAnyH_take (i := 7) (oi := { dst := some 19, op := Op.load 30 (Operand.tmp 18), type := 30, pos := "outline.go:167", after := #[{ on := 6, ground := Ground.data }], guard := none }) (v := ?_) rfl (by kernel_rfl) (by kernel_rfl) (by kernel_rfl) (fun _ _ _ h => h) (Or.inl ⟨by rfl, ?_⟩) (by assumption) ?_
  rotate_left
  · ((intro w hSw; (try dsimp only at hSw); go_simp; (try rw [if_neg (by omega)])); try with_reducible rfl)
  (try simp only [Act.put, List.setIfInBounds_toArray, List.set_cons_zero, List.set_cons_succ])
  refine wpAnyH_ready (rs := [2, 9]) (by kernel_rfl) (by simp) ?_
  refine AllReadyH.cons (o := { dst := some 14, op := Op.call { callee := Callee.value (Operand.func 44), args := #[Operand.tmp 13], argTypes := #[27] }, type := 27, pos := "outline.go:167", after := #[{ on := 1, ground := Ground.data }], guard := none }) rfl (fun K hK => ?_) ?_
  · (go_simp; go_at_call 44; refine (clonecs_any _ _ C (HCS.out.keep (bnext HB1.out (bnext HBD.out (Below.refl _ wd)))) HOKC.out).mono ?_; rintro u w2 ⟨v2, vs, rfl, hcn, dz2⟩; have b2 := bnext (Below.refl _ wd) dz2; have CN2 := Lib.hid hcn; obtain ⟨cla, clc, hv2⟩ := own_shape hcn.out; subst hv2; dsimp only)
    refine hK.out _ _ ?_ (fun hHeld => ?_)
    · first | exact HGC.out _ ((bnext HBD.out b2).block B (by have := HX.out.2.2.2.1; omega)) | (refine HGC.out _ ?_; skip; rw [FrS.block hfx B (by have := HX.out.2.2.2.1; have := HBD.out.size; have := b2.size; omega) (by intro e; have := HX.out.2.2.2.1; have := HBD.out.size; have := b2.size; omega)]; exact (bnext HBD.out b2).block B (by have := HX.out.2.2.2.1; omega))
    clear hK K
    (try simp only [Act.put, List.setIfInBounds_toArray, List.set_cons_zero, List.set_cons_succ])
    refine wpAnyH_ready (rs := [5, 9]) (by kernel_rfl) (by simp) ?_
    refine AllReadyH.cons (o := { dst := some 17, op := Op.call { callee := Callee.value (Operand.func 45), args := #[Operand.tmp 16], argTypes := #[28] }, type := 28, pos := "outline.go:167", after := #[{ on := 4, ground := Ground.data }, { on := 2, ground := Ground.chain }], guard := none }) rfl (fun K hK => ?_) ?_
    · (go_simp; go_at_call 45; refine (clone_ac _ _ A (HAN.out.keep (bnext HB1.out (bnext HBD.out b2))) (by rw [HLN.out.2.1]; have h := HLB.out.1; rw [HLN.out.2.1] at h; exact h)).mono ?_; rintro u w5 ⟨v5, rfl, hac, dz5⟩; have b5 := bnext b2 dz5; have AC5 := Lib.hid hac; obtain ⟨ala, alc, hv5⟩ := own_shape hac; subst hv5; dsimp only)
      refine hK.out _ _ ?_ (fun hHeld => ?_)
      · first | exact HGC.out _ ((bnext HBD.out b5).block B (by have := HX.out.2.2.2.1; omega)) | (refine HGC.out _ ?_; skip; rw [FrS.block hfx B (by have := HX.out.2.2.2.1; have := HBD.out.size; have := b2.size; have := b5.size; omega) (by intro e; have := HX.out.2.2.2.1; have := HBD.out.size; have := b2.size; have := b5.size; omega)]; exact (bnext HBD.out b5).block B (by have := HX.out.2.2.2.1; omega))
      clear hK K
      (try simp only [Act.put, List.setIfInBounds_toArray, List.set_cons_zero, List.set_cons_succ])
      refine wpAnyH_take (i := 8) (oi := { dst := some 20, op := Op.build 41 #[(0, Operand.tmp 14), (1, Operand.tmp 17), (2, Operand.tmp 19)], type := 41, pos := "outline.go:167", after := #[{ on := 2, ground := Ground.data }, { on := 5, ground := Ground.data }, { on := 7, ground := Ground.data }], guard := none }) (v := ?_) rfl (by kernel_rfl) (by kernel_rfl) (by kernel_rfl) (fun _ _ _ h => h) (Or.inl ⟨by rfl, ?_⟩) (by assumption) ?_
      rotate_left
      · ((intro w hSw; (try dsimp only at hSw); go_simp; (try rw [if_neg (by omega)])); try with_reducible rfl)
      (try simp only [Act.put, List.setIfInBounds_toArray, List.set_cons_zero, List.set_cons_succ])
      refine wpAnyH_ready (rs := [9]) (by kernel_rfl) (by simp) ?_
      refine AllReadyH.cons (o := { dst := some 5, op := Op.alloc 41, type := 0, pos := "outline.go:167", after := #[], guard := none }) rfl (fun K hK => ?_) ?_
      · (go_simp; have b9 := balloc b5 (.cells #[.slice none 0 0, .slice none 0 0, .int .i64 0, .int .i64 0, .int .i64 0, .int .i64 0] 41); have hx9 := heap_alloc_new w5 (.cells #[.slice none 0 0, .slice none 0 0, .int .i64 0, .int .i64 0, .int .i64 0, .int .i64 0] 41); have dz9 := balloc (Below.refl _ w5) (.cells #[.slice none 0 0, .slice none 0 0, .int .i64 0, .int .i64 0, .int .i64 0, .int .i64 0] 41); obtain ⟨X, hX⟩ : ∃ X, w5.heap.size = X := ⟨_, rfl⟩; obtain ⟨w9, hw9⟩ : ∃ w9, w5.alloc (.cells #[.slice none 0 0, .slice none 0 0, .int .i64 0, .int .i64 0, .int .i64 0, .int .i64 0] 41) = w9 := ⟨_, rfl⟩; have hs9 : w9.heap.size = X + 1 := (by rw [← hw9, ← hX]; simp); (try rw [hX]); (try rw [hw9]); rw [hX, hw9] at hx9; rw [hw9] at b9 dz9)
        refine hK.out _ _ ?_ (fun hHeld => ?_)
        · first | exact HGC.out _ ((bnext HBD.out b9).block B (by have := HX.out.2.2.2.1; omega)) | (refine HGC.out _ ?_; skip; rw [FrS.block hfx B (by have := HX.out.2.2.2.1; have := HBD.out.size; have := b2.size; have := b5.size; have := b9.size; omega) (by intro e; have := HX.out.2.2.2.1; have := HBD.out.size; have := b2.size; have := b5.size; have := b9.size; omega)]; exact (bnext HBD.out b9).block B (by have := HX.out.2.2.2.1; omega))
        clear hK K
        (try simp only [Act.put, List.setIfInBounds_toArray, List.set_cons_zero, List.set_cons_succ])
        refine wpAnyH_ready (rs := [10]) (by kernel_rfl) (by simp) ?_
        refine AllReadyH.cons (o := { dst := none, op := Op.store 41 (Operand.tmp 5) (Operand.tmp 20), type := 0, pos := "outline.go:167", after := #[{ on := 9, ground := Ground.data }, { on := 8, ground := Ground.data }, { on := 5, ground := Ground.chain }, { on := 0, ground := Ground.phase }, { on := 1, ground := Ground.phase }, { on := 2, ground := Ground.phase }, { on := 3, ground := Ground.phase }, { on := 4, ground := Ground.phase }, { on := 5, ground := Ground.phase }, { on := 6, ground := Ground.phase }, { on := 7, ground := Ground.phase }, { on := 8, ground := Ground.phase }, { on := 9, ground := Ground.phase }], guard := none }) rfl (fun K hK => ?_) ?_
        · (have hxF : w9.heap[X]? = some (.cells #[.slice none 0 0, .slice none 0 0, .int .i64 0, .int .i64 0, .int .i64 0, .int .i64 0] 41) := ((Below.refl w9.heap.size w9).block X (by rw [hs9]; omega)).trans hx9; have HXF := Lib.hid hxF; have bc0 : w9.cell? ⟨X, 0, none⟩ = some (.slice none 0 0) := nd_cell hxF rfl; have bf0 := nd_froz hxF 0; have bc1 : w9.cell? ⟨X, 1, none⟩ = some (.slice none 0 0) := nd_cell hxF rfl; have bf1 := nd_froz hxF 1; have bc2 : w9.cell? ⟨X, 2, none⟩ = some (.int .i64 0) := nd_cell hxF rfl; have bf2 := nd_froz hxF 2; have bc3 : w9.cell? ⟨X, 3, none⟩ = some (.int .i64 0) := nd_cell hxF rfl; have bf3 := nd_froz hxF 3; have bc4 : w9.cell? ⟨X, 4, none⟩ = some (.int .i64 0) := nd_cell hxF rfl; have bf4 := nd_froz hxF 4; have bc5 : w9.cell? ⟨X, 5, none⟩ = some (.int .i64 0) := nd_cell hxF rfl; have bf5 := nd_froz hxF 5; obtain ⟨V, hV, hxx, hfx⟩ := sto6 hxF (.slice cla C.length clc) (.slice ala A.length alc) (.int .i64 hc) (.int .i64 hx) (.int .i64 hy) (.int .i64 0); clear hxF; go_simp; (try rw [hV]))
          refine hK.out _ _ ?_ (fun hHeld => ?_)
          · first | exact HGC.out _ ((bnext HBD.out b9).block B (by have := HX.out.2.2.2.1; omega)) | (refine HGC.out _ ?_; skip; rw [FrS.block hfx B (by have := HX.out.2.2.2.1; have := HBD.out.size; have := b2.size; have := b5.size; have := b9.size; omega) (by intro e; have := HX.out.2.2.2.1; have := HBD.out.size; have := b2.size; have := b5.size; have := b9.size; omega)]; exact (bnext HBD.out b9).block B (by have := HX.out.2.2.2.1; omega))
          clear hK K
          (try simp only [Act.put, List.setIfInBounds_toArray, List.set_cons_zero, List.set_cons_succ])
          refine wpAnyH_done (by kernel_rfl) ?_ _
          have hsz := HX.out.2.2.2.1
          have hd0 := HBD.out.size
          have hbX : Hid (B + 3 ≤ X) := Lib.hid (by have := dz2.size; have := dz5.size; have := dz9.size; omega)
          have HR := Lib.hid (rdy_of (V := V) (N := B + 3) (X := X) CN2.out (bnext dz5 dz9) AC5.out dz9 (by have := dz2.size; have := dz5.size; have := dz9.size; omega) (by have := dz2.size; have := dz5.size; have := dz9.size; omega) (by have := dz2.size; have := dz5.size; have := dz9.size; omega) (by have := dz2.size; have := dz5.size; have := dz9.size; omega) (by have := dz2.size; have := dz5.size; have := dz9.size; omega) hfx HOKC.out)
          have HBV := Lib.hid (bnext HBD.out (hfx.below wd b9 (fun b hb => by rw [hb]; have := dz2.size; have := dz5.size; have := dz9.size; omega)))
          have HXX := Lib.hid hxx
          clear hxx hfx hsz hd0
          exact hK2 X _ _ vs V _ _ _ _ _ _ _ _ _ ⟨HXX.out, hbX.out, HR.out.1, HR.out.2, HBV.out⟩
        exact AllReadyH.nil
      exact AllReadyH.nil
    refine AllReadyH.cons (o := { dst := some 5, op := Op.alloc 41, type := 0, pos := "outline.go:167", after := #[], guard := none }) rfl (fun K hK => ?_) ?_
    · (go_simp; have b9 := balloc b2 (.cells #[.slice none 0 0, .slice none 0 0, .int .i64 0, .int .i64 0, .int .i64 0, .int .i64 0] 41); have hx9 := heap_alloc_new w2 (.cells #[.slice none 0 0, .slice none 0 0, .int .i64 0, .int .i64 0, .int .i64 0, .int .i64 0] 41); have dz9 := balloc (Below.refl _ w2) (.cells #[.slice none 0 0, .slice none 0 0, .int .i64 0, .int .i64 0, .int .i64 0, .int .i64 0] 41); obtain ⟨X, hX⟩ : ∃ X, w2.heap.size = X := ⟨_, rfl⟩; obtain ⟨w9, hw9⟩ : ∃ w9, w2.alloc (.cells #[.slice none 0 0, .slice none 0 0, .int .i64 0, .int .i64 0, .int .i64 0, .int .i64 0] 41) = w9 := ⟨_, rfl⟩; have hs9 : w9.heap.size = X + 1 := (by rw [← hw9, ← hX]; simp); (try rw [hX]); (try rw [hw9]); rw [hX, hw9] at hx9; rw [hw9] at b9 dz9)
      refine hK.out _ _ ?_ (fun hHeld => ?_)
      · first | exact HGC.out _ ((bnext HBD.out b9).block B (by have := HX.out.2.2.2.1; omega)) | (refine HGC.out _ ?_; skip; rw [FrS.block hfx B (by have := HX.out.2.2.2.1; have := HBD.out.size; have := b2.size; have := b9.size; omega) (by intro e; have := HX.out.2.2.2.1; have := HBD.out.size; have := b2.size; have := b9.size; omega)]; exact (bnext HBD.out b9).block B (by have := HX.out.2.2.2.1; omega))
      clear hK K
      (try simp only [Act.put, List.setIfInBounds_toArray, List.set_cons_zero, List.set_cons_succ])
      refine wpAnyH_ready (rs := [5]) (by kernel_rfl) (by simp) ?_
      refine AllReadyH.cons (o := { dst := some 17, op := Op.call { callee := Callee.value (Operand.func 45), args := #[Operand.tmp 16], argTypes := #[28] }, type := 28, pos := "outline.go:167", after := #[{ on := 4, ground := Ground.data }, { on := 2, ground := Ground.chain }], guard := none }) rfl (fun K hK => ?_) ?_
      · (go_simp; go_at_call 45; refine (clone_ac _ _ A (HAN.out.keep (bnext HB1.out (bnext HBD.out b9))) (by rw [HLN.out.2.1]; have h := HLB.out.1; rw [HLN.out.2.1] at h; exact h)).mono ?_; rintro u w5 ⟨v5, rfl, hac, dz5⟩; have b5 := bnext b9 dz5; have AC5 := Lib.hid hac; obtain ⟨ala, alc, hv5⟩ := own_shape hac; subst hv5; dsimp only)
        refine hK.out _ _ ?_ (fun hHeld => ?_)
        · first | exact HGC.out _ ((bnext HBD.out b5).block B (by have := HX.out.2.2.2.1; omega)) | (refine HGC.out _ ?_; skip; rw [FrS.block hfx B (by have := HX.out.2.2.2.1; have := HBD.out.size; have := b2.size; have := b9.size; have := b5.size; omega) (by intro e; have := HX.out.2.2.2.1; have := HBD.out.size; have := b2.size; have := b9.size; have := b5.size; omega)]; exact (bnext HBD.out b5).block B (by have := HX.out.2.2.2.1; omega))
        clear hK K
        (try simp only [Act.put, List.setIfInBounds_toArray, List.set_cons_zero, List.set_cons_succ])
        refine wpAnyH_take (i := 8) (oi := { dst := some 20, op := Op.build 41 #[(0, Operand.tmp 14), (1, Operand.tmp 17), (2, Operand.tmp 19)], type := 41, pos := "outline.go:167", after := #[{ on := 2, ground := Ground.data }, { on := 5, ground := Ground.data }, { on := 7, ground := Ground.data }], guard := none }) (v := ?_) rfl (by kernel_rfl) (by kernel_rfl) (by kernel_rfl) (fun _ _ _ h => h) (Or.inl ⟨by rfl, ?_⟩) (by assumption) ?_
        rotate_left
        · ((intro w hSw; (try dsimp only at hSw); go_simp; (try rw [if_neg (by omega)])); try with_reducible rfl)
        (try simp only [Act.put, List.setIfInBounds_toArray, List.set_cons_zero, List.set_cons_succ])
        refine wpAnyH_ready (rs := [10]) (by kernel_rfl) (by simp) ?_
        refine AllReadyH.cons (o := { dst := none, op := Op.store 41 (Operand.tmp 5) (Operand.tmp 20), type := 0, pos := "outline.go:167", after := #[{ on := 9, ground := Ground.data }, { on := 8, ground := Ground.data }, { on := 5, ground := Ground.chain }, { on := 0, ground := Ground.phase }, { on := 1, ground := Ground.phase }, { on := 2, ground := Ground.phase }, { on := 3, ground := Ground.phase }, { on := 4, ground := Ground.phase }, { on := 5, ground := Ground.phase }, { on := 6, ground := Ground.phase }, { on := 7, ground := Ground.phase }, { on := 8, ground := Ground.phase }, { on := 9, ground := Ground.phase }], guard := none }) rfl (fun K hK => ?_) ?_
        · (have hxF : w5.heap[X]? = some (.cells #[.slice none 0 0, .slice none 0 0, .int .i64 0, .int .i64 0, .int .i64 0, .int .i64 0] 41) := (dz5.block X (by rw [hs9]; omega)).trans hx9; have HXF := Lib.hid hxF; have bc0 : w5.cell? ⟨X, 0, none⟩ = some (.slice none 0 0) := nd_cell hxF rfl; have bf0 := nd_froz hxF 0; have bc1 : w5.cell? ⟨X, 1, none⟩ = some (.slice none 0 0) := nd_cell hxF rfl; have bf1 := nd_froz hxF 1; have bc2 : w5.cell? ⟨X, 2, none⟩ = some (.int .i64 0) := nd_cell hxF rfl; have bf2 := nd_froz hxF 2; have bc3 : w5.cell? ⟨X, 3, none⟩ = some (.int .i64 0) := nd_cell hxF rfl; have bf3 := nd_froz hxF 3; have bc4 : w5.cell? ⟨X, 4, none⟩ = some (.int .i64 0) := nd_cell hxF rfl; have bf4 := nd_froz hxF 4; have bc5 : w5.cell? ⟨X, 5, none⟩ = some (.int .i64 0) := nd_cell hxF rfl; have bf5 := nd_froz hxF 5; obtain ⟨V, hV, hxx, hfx⟩ := sto6 hxF (.slice cla C.length clc) (.slice ala A.length alc) (.int .i64 hc) (.int .i64 hx) (.int .i64 hy) (.int .i64 0); clear hxF; go_simp; (try rw [hV]))
          refine hK.out _ _ ?_ (fun hHeld => ?_)
          · first | exact HGC.out _ ((bnext HBD.out b5).block B (by have := HX.out.2.2.2.1; omega)) | (refine HGC.out _ ?_; skip; rw [FrS.block hfx B (by have := HX.out.2.2.2.1; have := HBD.out.size; have := b2.size; have := b9.size; have := b5.size; omega) (by intro e; have := HX.out.2.2.2.1; have := HBD.out.size; have := b2.size; have := b9.size; have := b5.size; omega)]; exact (bnext HBD.out b5).block B (by have := HX.out.2.2.2.1; omega))
          clear hK K
          (try simp only [Act.put, List.setIfInBounds_toArray, List.set_cons_zero, List.set_cons_succ])
          refine wpAnyH_done (by kernel_rfl) ?_ _
          have hsz := HX.out.2.2.2.1
          have hd0 := HBD.out.size
          have hbX : Hid (B + 3 ≤ X) := Lib.hid (by have := dz2.size; have := dz9.size; have := dz5.size; omega)
          have HR := Lib.hid (rdy_of (V := V) (N := B + 3) (X := X) CN2.out (bnext dz9 dz5) AC5.out (Below.refl w5.heap.size w5) (by have := dz2.size; have := dz9.size; have := dz5.size; omega) (by have := dz2.size; have := dz9.size; have := dz5.size; omega) (by have := dz2.size; have := dz9.size; have := dz5.size; omega) (by have := dz2.size; have := dz9.size; have := dz5.size; omega) (by have := dz2.size; have := dz9.size; have := dz5.size; omega) hfx HOKC.out)
          have HBV := Lib.hid (bnext HBD.out (hfx.below wd b5 (fun b hb => by rw [hb]; have := dz2.size; have := dz9.size; have := dz5.size; omega)))
          have HXX := Lib.hid hxx
          clear hxx hfx hsz hd0
          exact hK2 X _ _ vs V _ _ _ _ _ _ _ _ _ ⟨HXX.out, hbX.out, HR.out.1, HR.out.2, HBV.out⟩
        exact AllReadyH.nil
      exact AllReadyH.nil
    exact AllReadyH.nil
  refine AllReadyH.cons (o := { dst := some 5, op := Op.alloc 41, type := 0, pos := "outline.go:167", after := #[], guard := none }) rfl (fun K hK => ?_) ?_
  · (go_simp; have b9 := balloc (Below.refl _ wd) (.cells #[.slice none 0 0, .slice none 0 0, .int .i64 0, .int .i64 0, .int .i64 0, .int .i64 0] 41); have hx9 := heap_alloc_new wd (.cells #[.slice none 0 0, .slice none 0 0, .int .i64 0, .int .i64 0, .int .i64 0, .int .i64 0] 41); have dz9 := balloc (Below.refl _ wd) (.cells #[.slice none 0 0, .slice none 0 0, .int .i64 0, .int .i64 0, .int .i64 0, .int .i64 0] 41); obtain ⟨X, hX⟩ : ∃ X, wd.heap.size = X := ⟨_, rfl⟩; obtain ⟨w9, hw9⟩ : ∃ w9, wd.alloc (.cells #[.slice none 0 0, .slice none 0 0, .int .i64 0, .int .i64 0, .int .i64 0, .int .i64 0] 41) = w9 := ⟨_, rfl⟩; have hs9 : w9.heap.size = X + 1 := (by rw [← hw9, ← hX]; simp); (try rw [hX]); (try rw [hw9]); rw [hX, hw9] at hx9; rw [hw9] at b9 dz9)
    refine hK.out _ _ ?_ (fun hHeld => ?_)
    · first | exact HGC.out _ ((bnext HBD.out b9).block B (by have := HX.out.2.2.2.1; omega)) | (refine HGC.out _ ?_; skip; rw [FrS.block hfx B (by have := HX.out.2.2.2.1; have := HBD.out.size; have := b9.size; omega) (by intro e; have := HX.out.2.2.2.1; have := HBD.out.size; have := b9.size; omega)]; exact (bnext HBD.out b9).block B (by have := HX.out.2.2.2.1; omega))
    clear hK K
    (try simp only [Act.put, List.setIfInBounds_toArray, List.set_cons_zero, List.set_cons_succ])
    refine wpAnyH_ready (rs := [2]) (by kernel_rfl) (by simp) ?_
    refine AllReadyH.cons (o := { dst := some 14, op := Op.call { callee := Callee.value (Operand.func 44), args := #[Operand.tmp 13], argTypes := #[27] }, type := 27, pos := "outline.go:167", after := #[{ on := 1, ground := Ground.data }], guard := none }) rfl (fun K hK => ?_) ?_
    · (go_simp; go_at_call 44; refine (clonecs_any _ _ C (HCS.out.keep (bnext HB1.out (bnext HBD.out b9))) HOKC.out).mono ?_; rintro u w2 ⟨v2, vs, rfl, hcn, dz2⟩; have b2 := bnext b9 dz2; have CN2 := Lib.hid hcn; obtain ⟨cla, clc, hv2⟩ := own_shape hcn.out; subst hv2; dsimp only)
      refine hK.out _ _ ?_ (fun hHeld => ?_)
      · first | exact HGC.out _ ((bnext HBD.out b2).block B (by have := HX.out.2.2.2.1; omega)) | (refine HGC.out _ ?_; skip; rw [FrS.block hfx B (by have := HX.out.2.2.2.1; have := HBD.out.size; have := b9.size; have := b2.size; omega) (by intro e; have := HX.out.2.2.2.1; have := HBD.out.size; have := b9.size; have := b2.size; omega)]; exact (bnext HBD.out b2).block B (by have := HX.out.2.2.2.1; omega))
      clear hK K
      (try simp only [Act.put, List.setIfInBounds_toArray, List.set_cons_zero, List.set_cons_succ])
      refine wpAnyH_ready (rs := [5]) (by kernel_rfl) (by simp) ?_
      refine AllReadyH.cons (o := { dst := some 17, op := Op.call { callee := Callee.value (Operand.func 45), args := #[Operand.tmp 16], argTypes := #[28] }, type := 28, pos := "outline.go:167", after := #[{ on := 4, ground := Ground.data }, { on := 2, ground := Ground.chain }], guard := none }) rfl (fun K hK => ?_) ?_
      · (go_simp; go_at_call 45; refine (clone_ac _ _ A (HAN.out.keep (bnext HB1.out (bnext HBD.out b2))) (by rw [HLN.out.2.1]; have h := HLB.out.1; rw [HLN.out.2.1] at h; exact h)).mono ?_; rintro u w5 ⟨v5, rfl, hac, dz5⟩; have b5 := bnext b2 dz5; have AC5 := Lib.hid hac; obtain ⟨ala, alc, hv5⟩ := own_shape hac; subst hv5; dsimp only)
        refine hK.out _ _ ?_ (fun hHeld => ?_)
        · first | exact HGC.out _ ((bnext HBD.out b5).block B (by have := HX.out.2.2.2.1; omega)) | (refine HGC.out _ ?_; skip; rw [FrS.block hfx B (by have := HX.out.2.2.2.1; have := HBD.out.size; have := b9.size; have := b2.size; have := b5.size; omega) (by intro e; have := HX.out.2.2.2.1; have := HBD.out.size; have := b9.size; have := b2.size; have := b5.size; omega)]; exact (bnext HBD.out b5).block B (by have := HX.out.2.2.2.1; omega))
        clear hK K
        (try simp only [Act.put, List.setIfInBounds_toArray, List.set_cons_zero, List.set_cons_succ])
        refine wpAnyH_take (i := 8) (oi := { dst := some 20, op := Op.build 41 #[(0, Operand.tmp 14), (1, Operand.tmp 17), (2, Operand.tmp 19)], type := 41, pos := "outline.go:167", after := #[{ on := 2, ground := Ground.data }, { on := 5, ground := Ground.data }, { on := 7, ground := Ground.data }], guard := none }) (v := ?_) rfl (by kernel_rfl) (by kernel_rfl) (by kernel_rfl) (fun _ _ _ h => h) (Or.inl ⟨by rfl, ?_⟩) (by assumption) ?_
        rotate_left
        · ((intro w hSw; (try dsimp only at hSw); go_simp; (try rw [if_neg (by omega)])); try with_reducible rfl)
        (try simp only [Act.put, List.setIfInBounds_toArray, List.set_cons_zero, List.set_cons_succ])
        refine wpAnyH_ready (rs := [10]) (by kernel_rfl) (by simp) ?_
        refine AllReadyH.cons (o := { dst := none, op := Op.store 41 (Operand.tmp 5) (Operand.tmp 20), type := 0, pos := "outline.go:167", after := #[{ on := 9, ground := Ground.data }, { on := 8, ground := Ground.data }, { on := 5, ground := Ground.chain }, { on := 0, ground := Ground.phase }, { on := 1, ground := Ground.phase }, { on := 2, ground := Ground.phase }, { on := 3, ground := Ground.phase }, { on := 4, ground := Ground.phase }, { on := 5, ground := Ground.phase }, { on := 6, ground := Ground.phase }, { on := 7, ground := Ground.phase }, { on := 8, ground := Ground.phase }, { on := 9, ground := Ground.phase }], guard := none }) rfl (fun K hK => ?_) ?_
        · (have hxF : w5.heap[X]? = some (.cells #[.slice none 0 0, .slice none 0 0, .int .i64 0, .int .i64 0, .int .i64 0, .int .i64 0] 41) := ((bnext dz2 dz5).block X (by rw [hs9]; omega)).trans hx9; have HXF := Lib.hid hxF; have bc0 : w5.cell? ⟨X, 0, none⟩ = some (.slice none 0 0) := nd_cell hxF rfl; have bf0 := nd_froz hxF 0; have bc1 : w5.cell? ⟨X, 1, none⟩ = some (.slice none 0 0) := nd_cell hxF rfl; have bf1 := nd_froz hxF 1; have bc2 : w5.cell? ⟨X, 2, none⟩ = some (.int .i64 0) := nd_cell hxF rfl; have bf2 := nd_froz hxF 2; have bc3 : w5.cell? ⟨X, 3, none⟩ = some (.int .i64 0) := nd_cell hxF rfl; have bf3 := nd_froz hxF 3; have bc4 : w5.cell? ⟨X, 4, none⟩ = some (.int .i64 0) := nd_cell hxF rfl; have bf4 := nd_froz hxF 4; have bc5 : w5.cell? ⟨X, 5, none⟩ = some (.int .i64 0) := nd_cell hxF rfl; have bf5 := nd_froz hxF 5; obtain ⟨V, hV, hxx, hfx⟩ := sto6 hxF (.slice cla C.length clc) (.slice ala A.length alc) (.int .i64 hc) (.int .i64 hx) (.int .i64 hy) (.int .i64 0); clear hxF; go_simp; (try rw [hV]))
          refine hK.out _ _ ?_ (fun hHeld => ?_)
          · first | exact HGC.out _ ((bnext HBD.out b5).block B (by have := HX.out.2.2.2.1; omega)) | (refine HGC.out _ ?_; skip; rw [FrS.block hfx B (by have := HX.out.2.2.2.1; have := HBD.out.size; have := b9.size; have := b2.size; have := b5.size; omega) (by intro e; have := HX.out.2.2.2.1; have := HBD.out.size; have := b9.size; have := b2.size; have := b5.size; omega)]; exact (bnext HBD.out b5).block B (by have := HX.out.2.2.2.1; omega))
          clear hK K
          (try simp only [Act.put, List.setIfInBounds_toArray, List.set_cons_zero, List.set_cons_succ])
          refine wpAnyH_done (by kernel_rfl) ?_ _
          have hsz := HX.out.2.2.2.1
          have hd0 := HBD.out.size
          have hbX : Hid (B + 3 ≤ X) := Lib.hid (by have := dz9.size; have := dz2.size; have := dz5.size; omega)
          have HR := Lib.hid (rdy_of (V := V) (N := B + 3) (X := X) CN2.out dz5 AC5.out (Below.refl w5.heap.size w5) (by have := dz9.size; have := dz2.size; have := dz5.size; omega) (by have := dz9.size; have := dz2.size; have := dz5.size; omega) (by have := dz9.size; have := dz2.size; have := dz5.size; omega) (by have := dz9.size; have := dz2.size; have := dz5.size; omega) (by have := dz9.size; have := dz2.size; have := dz5.size; omega) hfx HOKC.out)
          have HBV := Lib.hid (bnext HBD.out (hfx.below wd b5 (fun b hb => by rw [hb]; have := dz9.size; have := dz2.size; have := dz5.size; omega)))
          have HXX := Lib.hid hxx
          clear hxx hfx hsz hd0
          exact hK2 X _ _ vs V _ _ _ _ _ _ _ _ _ ⟨HXX.out, hbX.out, HR.out.1, HR.out.2, HBV.out⟩
        exact AllReadyH.nil
      exact AllReadyH.nil
    exact AllReadyH.nil
  exact AllReadyH.nil
end Go.Proofs.Ytanppbdlcinpfaa
