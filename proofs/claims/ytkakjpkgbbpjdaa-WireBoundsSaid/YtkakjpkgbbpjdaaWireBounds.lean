/- For every choice WireBounds returns true: readers of nothing, and nil ones. No conditions. -/
import Derived.Test.YtkakjpkgbbpjdaaWireOpen
import Derived.Test.YtkakjpkgbbpjdaaWireNil
namespace Go.Proofs.Ytkakjpkgbbpjdaa.wireBounds
open Go.ChangeShapes Go.WideShapes Go.ChangeAt Go.RowKit Go.Joins Go.Deep
set_option linter.unusedVariables false


def BRel (w : World) (B C D : Nat) (i : Value) (wr : World) : Prop := ∃ k : Nat, k ≤ 3 ∧ i = .int .i64 k ∧ D < wr.heap.size ∧ Hid (∀ j, j < 3 → wr.cell? ⟨D, j, none⟩ = some ([Value.pointer none, .pointer (some ⟨B, 0, none⟩), .pointer (some ⟨C, 0, none⟩)].getD j (.bool false))) ∧
  Hid (k ≤ 1 → RAt B ⟨[], 0, false⟩ wr) ∧ Hid (k ≤ 2 → RAt C ⟨[], 0, false⟩ wr) ∧ Below w.heap.size w wr
theorem BRel.out {w : World} {B C D : Nat} {i : Value} {wr : World} (h : BRel w B C D i wr) : ∃ k : Nat, k ≤ 3 ∧ i = .int .i64 k ∧ D < wr.heap.size ∧ Hid (∀ j, j < 3 → wr.cell? ⟨D, j, none⟩ = some ([Value.pointer none, .pointer (some ⟨B, 0, none⟩), .pointer (some ⟨C, 0, none⟩)].getD j (.bool false))) ∧
  Hid (k ≤ 1 → RAt B ⟨[], 0, false⟩ wr) ∧ Hid (k ≤ 2 → RAt C ⟨[], 0, false⟩ wr) ∧ Below w.heap.size w wr := h
set_option maxRecDepth 100000 in
set_option maxHeartbeats 8000000 in
theorem walk (a0 : Int) (wa0 : (Lit.int .u8 a0).wf = true) (w : World) :
    Calls Try.prog 9 #[.int .u8 a0] w fun e w' => e = .returned (.bool true) ∧ Below w.heap.size w w' := by
  obtain ⟨n0, n1⟩ := bd8 wa0
  clear wa0
  have hm : a0 % 4 = 0 ∨ a0 % 4 = 1 ∨ a0 % 4 = 2 ∨ a0 % 4 = 3 := by omega
  have acc : Below w.heap.size w w := Below.refl _ _
  go_enter Try.func9, Try.ntmps9
  go_wp2_with (go_at_call 10; refine (sanity_any _).mono ?_; rintro e w1 ⟨rfl, hb1⟩; replace acc := bnext acc hb1; clear hb1)
  obtain ⟨B, hB⟩ : ∃ B, w1.heap.size = B := ⟨_, rfl⟩
  have hwB : w.heap.size ≤ B := by rw [← hB]; exact acc.size
  refine (new_any [] _ (by decide)).mono ?_
  rintro e w2 ⟨rfl, R2, hb2⟩
  have R1 : RAt B ⟨[], 0, false⟩ w2 := RAt.keep ⟨by rw [← hB, heap_alloc_new]; rfl, by decide, by decide⟩ hb2
  replace acc := bnext (balloc acc _) hb2
  clear hb2
  rw [hB]
  obtain ⟨C, hC⟩ : ∃ C, (w1.alloc (Obj.cells #[Value.string { data := #[] }, Value.int IntKind.i64 0, Value.bool false] 47)).heap.size = C := ⟨_, rfl⟩
  have hBC : B < C := by rw [← hC]; simp; omega
  rw [hC] at R2 ⊢
  clear hB hC
  have hCD : C < w2.heap.size := R2.lt
  obtain ⟨D, hD⟩ : ∃ D, w2.heap.size = D := ⟨_, rfl⟩
  go_wp2_with fail
  have hx : ∀ j, j < 3 → (w2.alloc (Obj.cells #[Value.pointer none, Value.pointer (some ⟨B, 0, none⟩), Value.pointer (some ⟨C, 0, none⟩)] 24)).cell? ⟨D, j, none⟩ = some ([Value.pointer none, .pointer (some ⟨B, 0, none⟩), .pointer (some ⟨C, 0, none⟩)].getD j (.bool false)) := fun j hj => by
    match j, hj with
    | 0, _ | 1, _ | 2, _ => rw [World.cell?_alloc_at _ _ _ _ hD.symm]; rfl
  rw [hD] at hCD
  go_loopw [5] (fun i wr => BRel w B C D i wr) (fun i _ => 3 - (intOf i).toNat)
  case atStart => exact ⟨0, Nat.zero_le _, rfl, by simp; omega, Lib.hid hx, Lib.hid fun _ => R1.keep ((Below.refl _ _).alloc (Nat.le_refl _) _), Lib.hid fun _ => R2.keep ((Below.refl _ _).alloc (Nat.le_refl _) _), balloc acc _⟩
  case round =>
    clear hx R1 R2
    obtain ⟨k, hk, rfl, hlt, HX, HR1, HR2, hbr⟩ := hrel.out
    by_cases hk3 : k < 3
    · rcases (by omega : k = 0 ∨ k = 1 ∨ k = 2) with hk0 | hk1 | hk2
      · subst hk0
        have x0 := HX.out 0 (by decide); have x1 := HX.out 1 (by decide); have x2 := HX.out 2 (by decide)
        simp only [List.getD_cons_zero, List.getD_cons_succ] at x0 x1 x2
        rcases hm with hm | hm | hm | hm
        all_goals
          go_wp2_with (first
      | (go_at_call 16; refine (bad_nil _).mono ?_; rintro e w5 ⟨rfl, rfl⟩)
      | (go_at_call 15; refine (left_nil _).mono ?_; rintro e w5 ⟨rfl, rfl⟩)
      | (go_at_call 13; refine (int_nil _).mono ?_; rintro e w5 ⟨rfl, rfl⟩)
      | (go_at_call 26; refine (text_nil _).mono ?_; rintro e w5 ⟨rfl, rfl⟩)
      | (go_at_call 29; refine (ints_nil _).mono ?_; rintro e w5 ⟨rfl, rfl⟩)
      | (go_at_call 32; refine (texts_nil _).mono ?_; rintro e w5 ⟨rfl, rfl⟩))
          go_roundw
          case rel => exact ⟨1, by omega, by go_num, hlt, HX, Lib.hid fun _ => HR1.out (by omega), Lib.hid fun _ => HR2.out (by omega), hbr⟩
          case measure => simp [intOf]
      · subst hk1
        have R := HR1.out (by decide)
        have K : Kept B wr wr := Kept.refl _ _
        have qi1 : (⟨[], 0, false⟩ : WP.RS).int = (0, ⟨[], 0, true⟩) := rfl
        have qi2 : (⟨[], 0, true⟩ : WP.RS).int = (0, ⟨[], 0, true⟩) := rfl
        have qt : (⟨[], 0, false⟩ : WP.RS).text = ([], ⟨[], 0, true⟩) := by kernel_rfl
        have ql : (⟨[], 0, false⟩ : WP.RS).ints = ([], ⟨[], 0, true⟩) := by kernel_rfl
        have qx : (⟨[], 0, false⟩ : WP.RS).texts = ([], ⟨[], 0, true⟩) := by kernel_rfl
        have qe : WP.S [] = ⟨#[]⟩ := rfl
        have x0 := HX.out 0 (by decide); have x1 := HX.out 1 (by decide); have x2 := HX.out 2 (by decide)
        simp only [List.getD_cons_zero, List.getD_cons_succ] at x0 x1 x2
        rcases hm with hm | hm | hm | hm
        all_goals
          go_wp2_with (first
      | (go_at_call 16; (first | refine (bad_c _ _ false _ R rfl).mono ?_ | refine (bad_c _ _ true _ R rfl).mono ?_); rintro e w5 ⟨rfl, rfl⟩)
      | (go_at_call 15; (first | refine (left_c _ ⟨[], 0, false⟩ 0 _ R rfl).mono ?_ | refine (left_c _ ⟨[], 0, true⟩ 0 _ R rfl).mono ?_); rintro e w5 ⟨rfl, hb5⟩; replace R := R.keep hb5; replace K := K.trans (Kept.of hb5); clear hb5)
      | (go_at_call 13; (first | refine (read_c _ _ _ _ _ R qi1).mono ?_ | refine (read_c _ _ _ _ _ R qi2).mono ?_); rintro e w5 ⟨rfl, R5, K5⟩; replace R := R5; replace K := K.trans K5; clear R5 K5)
      | (go_at_call 26; refine (rtext_c _ _ _ _ _ R qt).mono ?_; rintro e w5 ⟨rfl, R5, K5⟩; replace R := R5; replace K := K.trans K5; clear R5 K5)
      | (go_at_call 29; refine (ints_c _ _ _ _ _ R (by decide) ql).mono ?_; rintro e w5 ⟨v5, rfl, O5, R5, K5⟩; obtain ⟨a5, c5, rfl⟩ := own_shape O5; replace R := R5; replace K := K.trans K5; clear R5 K5 O5)
      | (go_at_call 32; refine (texts_c _ _ _ _ _ R (by decide) qx).mono ?_; rintro e w5 ⟨v5, rfl, O5, R5, K5⟩; obtain ⟨a5, c5, rfl⟩ := own_shape O5; replace R := R5; replace K := K.trans K5; clear R5 K5 O5))
          have hD2 := fun (j : Nat) (hj : j < 3) => (World.cell?_of_block (a := ⟨D, j, none⟩) (K.block D hlt (fun e => by simp at e; omega))).trans (HX.out j hj)
          go_roundw
          case rel => exact ⟨1 + 1, by omega, by go_num, Nat.lt_of_lt_of_le hlt K.size, Lib.hid hD2, Lib.hid fun h => absurd h (by omega), Lib.hid fun _ => (HR2.out (by omega)).other K (by omega), hbr.trans (K.below (by omega) hbr.size)⟩
          case measure => simp [intOf]
      · subst hk2
        have R := HR2.out (by decide)
        have K : Kept C wr wr := Kept.refl _ _
        have qi1 : (⟨[], 0, false⟩ : WP.RS).int = (0, ⟨[], 0, true⟩) := rfl
        have qi2 : (⟨[], 0, true⟩ : WP.RS).int = (0, ⟨[], 0, true⟩) := rfl
        have qt : (⟨[], 0, false⟩ : WP.RS).text = ([], ⟨[], 0, true⟩) := by kernel_rfl
        have ql : (⟨[], 0, false⟩ : WP.RS).ints = ([], ⟨[], 0, true⟩) := by kernel_rfl
        have qx : (⟨[], 0, false⟩ : WP.RS).texts = ([], ⟨[], 0, true⟩) := by kernel_rfl
        have qe : WP.S [] = ⟨#[]⟩ := rfl
        have x0 := HX.out 0 (by decide); have x1 := HX.out 1 (by decide); have x2 := HX.out 2 (by decide)
        simp only [List.getD_cons_zero, List.getD_cons_succ] at x0 x1 x2
        rcases hm with hm | hm | hm | hm
        all_goals
          go_wp2_with (first
      | (go_at_call 16; (first | refine (bad_c _ _ false _ R rfl).mono ?_ | refine (bad_c _ _ true _ R rfl).mono ?_); rintro e w5 ⟨rfl, rfl⟩)
      | (go_at_call 15; (first | refine (left_c _ ⟨[], 0, false⟩ 0 _ R rfl).mono ?_ | refine (left_c _ ⟨[], 0, true⟩ 0 _ R rfl).mono ?_); rintro e w5 ⟨rfl, hb5⟩; replace R := R.keep hb5; replace K := K.trans (Kept.of hb5); clear hb5)
      | (go_at_call 13; (first | refine (read_c _ _ _ _ _ R qi1).mono ?_ | refine (read_c _ _ _ _ _ R qi2).mono ?_); rintro e w5 ⟨rfl, R5, K5⟩; replace R := R5; replace K := K.trans K5; clear R5 K5)
      | (go_at_call 26; refine (rtext_c _ _ _ _ _ R qt).mono ?_; rintro e w5 ⟨rfl, R5, K5⟩; replace R := R5; replace K := K.trans K5; clear R5 K5)
      | (go_at_call 29; refine (ints_c _ _ _ _ _ R (by decide) ql).mono ?_; rintro e w5 ⟨v5, rfl, O5, R5, K5⟩; obtain ⟨a5, c5, rfl⟩ := own_shape O5; replace R := R5; replace K := K.trans K5; clear R5 K5 O5)
      | (go_at_call 32; refine (texts_c _ _ _ _ _ R (by decide) qx).mono ?_; rintro e w5 ⟨v5, rfl, O5, R5, K5⟩; obtain ⟨a5, c5, rfl⟩ := own_shape O5; replace R := R5; replace K := K.trans K5; clear R5 K5 O5))
          have hD2 := fun (j : Nat) (hj : j < 3) => (World.cell?_of_block (a := ⟨D, j, none⟩) (K.block D hlt (fun e => by simp at e; omega))).trans (HX.out j hj)
          go_roundw
          case rel => exact ⟨2 + 1, by omega, by go_num, Nat.lt_of_lt_of_le hlt K.size, Lib.hid hD2, Lib.hid fun h => absurd h (by omega), Lib.hid fun h => absurd h (by omega), hbr.trans (K.below (by omega) hbr.size)⟩
          case measure => simp [intOf]
    · go_wp2
      go_ret
      exact ⟨rfl, hbr⟩

set_option maxRecDepth 100000 in
theorem lifted (os : Os) (started : os.Started) (H : Type) (enc : TypeId × Value → H) :
    ReturnsInHanded {} Try.checked os 9 .any (Rows.wireBoundsSpec.pre6 enc Try.prog Try.f9 Rows.wireBoundsRow.domain false) (Rows.wireBoundsSpec.post enc Try.prog Try.f9 false true false false) := by
  refine returnsInHanded_of_change (C := Try.checked) own started (by kernel_rfl) Try.func9
    (ChangeSpec.witness6 (enc := enc) (C := Try.checked) false ⟨#[], #[.int .u8 0], []⟩ 8 (by kernel_rfl) (by kernel_rfl) (by kernel_rfl) (by kernel_rfl)) ?_
  intro W base args ds gs before hval0 hW hcnd _
  have hval : ∀ (j : Nat) t v, Try.f9.params[j]? = some t → args[j]? = some v → Value.okWide Try.prog W .any base t v := hval0
  have hW' := hW
  obtain ⟨p, q, hA0, hV, rfl, hfz, hnd⟩ := hW
  have hA : DataW.TrodAll enc Try.prog W 0 (fun _ => true) true Try.f9.params.toList args.toList ds p := hA0
  rw [Try.params9] at hA hval
  obtain ⟨v0, vs0, d0, ds0, p0, q0, hargs, rfl, rfl, h0, r0⟩ := trodAll_cons hA
  obtain ⟨rfl, rfl, rfl⟩ := trodAll_nil r0
  obtain rfl : args = #[v0] := by cases args; simp_all
  obtain ⟨rfl, rfl⟩ := trodVars_none hV
  have k0 := h0
  have lt0 : ∀ x ∈ p0, x.block < W.heap.size := by obtain ⟨m, hm⟩ := k0; exact DataW.trod_lt m _ _ _ hm
  obtain ⟨a0, rfl, rfl, rfl, wa0⟩ := open_int Try.underlying5 (hval 0 5 v0 rfl rfl) h0
  clear hA0 hval0
  refine (walk a0 wa0 W).mono fun e W' ⟨he, bel⟩ => ?_
  subst he
  exact ⟨_, rfl, _, _, _, [], _, [], hW', trodAll_mk1 (shut_bool Try.underlying4 _), (trodAll_cons_mk (Below.trod laidOut (by kernel_rfl) (of_decide_eq_true (by kernel_rfl)) k0 bel lt0) trodAll_mk0), rfl, bel.frame _, fun h => by cases h⟩

theorem over : Rows.wireBoundsRow.holds Try.pinned (OpenSpec.ofChange Rows.wireBoundsSpec) :=
  OpenClaim.holds_of_wide 9 Try.f9 rfl rfl rfl rfl rfl rfl rfl ⟨rfl, rfl, rfl, rfl, rfl⟩ rfl rfl rfl rfl rfl (by kernel_rfl) Try.func9 (by kernel_rfl)
    (of_decide_eq_true (by kernel_rfl)) (by unfold Func.isWrapper; first | (rw [if_pos (by decide +kernel)]; kernel_rfl) | (rw [if_neg (by decide +kernel)]; exact ⟨rfl, rfl⟩))
    (fun os started H enc _ => lifted os started H enc)

end Go.Proofs.Ytkakjpkgbbpjdaa.wireBounds
namespace Go.Proofs.Ytkakjpkgbbpjdaa
theorem wireBounds_proved : Rows.WireBoundsSaid := wireBounds.over
#print axioms wireBounds_proved
end Go.Proofs.Ytkakjpkgbbpjdaa
