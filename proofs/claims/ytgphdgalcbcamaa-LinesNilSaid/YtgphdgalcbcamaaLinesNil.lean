/- For every time and every message LinesNil returns true: nil lines carry nothing, and zero lines have no nodes. No conditions. -/
import Derived.Test.YtgphdgalcbcamaaLn11
namespace Go.Proofs.Ytgphdgalcbcamaa.linesNil
open Go.ChangeShapes Go.WideShapes Go.ChangeAt Go.RowKit Go.Joins Go.Deep
set_option linter.unusedVariables false

theorem LS_zero {W : World} {Z : Nat} (h : W.heap[Z]? = some (.cells #[.int .i64 0, .slice none 0 0, .int .i64 0, .slice none 0 0] 59 (0, 0))) : LS W Z 0 [] 0 [] (fun b => b = Z) :=
  ⟨⟨_, .slice none 0 0, [], ⟨h, World.ownsRow_nil _ _ _ _⟩, List.Perm.refl _, LN.Hp.nil, (fun b e => by cases e), World.ownsRow_nil _ _ _ _, (fun b e => by cases e)⟩, rfl, fun b hb => by rw [hb]; exact (Array.getElem?_eq_some_iff.1 h).1⟩
theorem sendP_none (nd : Int) (hn : nd ≤ 0) (k : Nat) (at' f o : Int) (s : ByteArray) (T : List Tr) : sendP T nd k at' f o s [] = [] := by
  have h : nodeB nd f = false := by unfold nodeB; by_cases h0 : 0 ≤ f <;> simp [h0]; omega
  unfold sendP
  rw [h]
  simp
def pv (Z A B : Nat) : Nat → Value
  | 0 => .pointer none
  | 1 => ptr Z
  | 2 => ptr A
  | _ => ptr B
def GS (Fz Fa Fb : Nat → Prop) (i : Nat) (b : Nat) : Prop := (2 ≤ i ∧ Fz b) ∨ (3 ≤ i ∧ Fa b) ∨ (4 ≤ i ∧ Fb b)
def Mid (Z A B : Nat) (Fz Fa Fb : Nat → Prop) (V w' : World) : Nat → Prop
  | 0 => Below V.heap.size V w'
  | 1 => LSr V Fz w' Z 0 [] 1 []
  | 2 => LSr V Fa w' A 0 [] 1 []
  | _ => LSr V Fb w' B (-3) [] 1 []
theorem GS.up {Fz Fa Fb : Nat → Prop} {i : Nat} (b : Nat) (h : GS Fz Fa Fb i b) : GS Fz Fa Fb (i + 1) b := by
  rcases h with ⟨h1, h2⟩ | ⟨h1, h2⟩ | ⟨h1, h2⟩
  · exact .inl ⟨by omega, h2⟩
  · exact .inr (.inl ⟨by omega, h2⟩)
  · exact .inr (.inr ⟨by omega, h2⟩)
theorem nnext {W V w1 : World} {Z A B : Nat} {Fz Fa Fb : Nat → Prop} (i : Nat) (hi : i < 4) (hf : FrS (GS Fz Fa Fb i) W V) (hm : Mid Z A B Fz Fa Fb V w1 i) : Calls Try.prog 20 #[pv Z A B i] w1 fun x w' => x = .returned (.tuple #[ms0V, .int .i64 0, .bool false]) ∧ FrS (GS Fz Fa Fb (i + 1)) W w' := by
  have hu := hf.mono (T := GS Fz Fa Fb (i + 1)) (fun b h => GS.up b h)
  have h4 : i = 0 ∨ i = 1 ∨ i = 2 ∨ i = 3 := by omega
  rcases h4 with rfl | rfl | rfl | rfl
  · exact (next_nil w1).mono fun x w' h => ⟨h.1, (hu.then hm).then h.2⟩
  · exact (next_none hm).mono fun x w' h => ⟨h.1, hu.trans (h.2.1.mono (fun b hb => .inl ⟨by omega, hb⟩))⟩
  · exact (next_none hm).mono fun x w' h => ⟨h.1, hu.trans (h.2.1.mono (fun b hb => .inr (.inl ⟨by omega, hb⟩)))⟩
  · exact (next_none hm).mono fun x w' h => ⟨h.1, hu.trans (h.2.1.mono (fun b hb => .inr (.inr ⟨by omega, hb⟩)))⟩
section
variable {W V w1 : World} {Z A B : Nat} {Fz Fa Fb : Nat → Prop} (hz : LS W Z 0 [] 0 [] Fz) (ha : LS W A 0 [] 0 [] Fa) (hb : LS W B (-3) [] 0 [] Fb) (hza : ∀ b, Fa b → ¬ Fz b) (hzb : ∀ b, Fb b → ¬ Fz b) (hab : ∀ b, Fb b → ¬ Fa b)
include hz ha hb hza hzb hab
theorem nsend (i : Nat) (hi : i < 4) (hf : FrS (GS Fz Fa Fb i) W V) (at' f o : Int) (s : ByteArray) : Calls Try.prog 15 #[pv Z A B i, .int .i64 at', msV f o s] V fun x w' => x = .returned (.tuple #[]) ∧ Mid Z A B Fz Fa Fb V w' i := by
  have h4 : i = 0 ∨ i = 1 ∨ i = 2 ∨ i = 3 := by omega
  rcases h4 with rfl | rfl | rfl | rfl
  · exact send_nil V at' f o s
  · have h := send_any (hz.kept hf (fun b h1 h2 => by rcases h2 with h2 | h2 | h2 <;> omega)).here at' f o s (by decide) (by decide)
    rw [sendP_none 0 (by decide)] at h
    exact h
  · have h := send_any (ha.kept hf (fun b h1 h2 => by rcases h2 with h2 | h2 | h2; exact hza b h1 h2.2; omega; omega)).here at' f o s (by decide) (by decide)
    rw [sendP_none 0 (by decide)] at h
    exact h
  · have h := send_any (hb.kept hf (fun b h1 h2 => by rcases h2 with h2 | h2 | h2; exact hzb b h1 h2.2; exact hab b h1 h2.2; omega)).here at' f o s (by decide) (by decide)
    rw [sendP_none (-3) (by decide)] at h
    exact h
end
set_option maxRecDepth 100000 in
set_option maxHeartbeats 4000000 in
theorem walk (a0 : Int) (f1 : Int) (o1 : Int) (s1 : ByteArray) (wa0 : (Lit.int .i64 a0).wf = true) (w : World) (H1 : msOk f1 o1 s1) :
    Calls Try.prog 9 #[.int .i64 a0, .agg #[.int .i64 f1, .int .i64 o1, .string s1]] w fun e w' => e = .returned (.bool true) ∧ Below w.heap.size w w' := by
  go_enter Try.func9, Try.ntmps9
  go_wp2_with fail
  have HB0 := Lib.hid (balloc (Below.refl _ w) (.cells #[.int .i64 f1, .int .i64 o1, .string s1] 31))
  have HX0 := Lib.hid (heap_alloc_new w (.cells #[.int .i64 f1, .int .i64 o1, .string s1] 31))
  refine (sanity_any _).mono ?_
  rintro e w2 ⟨rfl, k2⟩
  have HB2 := Lib.hid (bnext HB0.out k2)
  have HX2 := Lib.hid ((k2.block w.heap.size (by simp)).trans HX0.out)
  clear k2
  obtain ⟨X, hX⟩ : ∃ X, w.heap.size = X := ⟨_, rfl⟩
  have HXE := Lib.hid hX
  try rw [hX]
  clear hX
  go_upto_region 4 with fail
  have hb3 := balloc (Below.refl _ w2) (.cells #[.int .i64 0, .slice none 0 0, .int .i64 0, .slice none 0 0] 59)
  have hx3 := heap_alloc_new w2 (.cells #[.int .i64 0, .slice none 0 0, .int .i64 0, .slice none 0 0] 59)
  obtain ⟨Z, hZ⟩ : ∃ Z, w2.heap.size = Z := ⟨_, rfl⟩
  obtain ⟨w3, hw3⟩ : ∃ w3, w2.alloc (.cells #[.int .i64 0, .slice none 0 0, .int .i64 0, .slice none 0 0] 59) = w3 := ⟨_, rfl⟩
  rw [hZ] at hx3
  try rw [hZ]
  rw [hw3] at hb3 hx3
  rw [hw3]
  have HLZ := Lib.hid (LS_zero hx3)
  have HB3 := Lib.hid hb3
  have HZE := Lib.hid hZ
  have HZL : Hid (Z < w3.heap.size) := Lib.hid (Array.getElem?_eq_some_iff.1 hx3).1
  clear hb3 hx3 hZ hw3
  have HN1 := Lib.hid (new_any w3 0 (.slice none 0 0) [] 0 rfl (by decide) (SrcN.nil 3 w3))
  go_wp2_with fail
  go_at_call 11
  refine HN1.out.mono ?_
  rintro x w4 ⟨A, rfl, hla, hb4⟩
  have HLA := Lib.hid hla
  have HB4 := Lib.hid hb4
  clear hla hb4
  have HN2 := Lib.hid (new_any w4 (-3) (.slice none 0 0) [] 0 rfl (by decide) (SrcN.nil 3 w4))
  go_wp2_with fail
  go_at_call 11
  refine HN2.out.mono ?_
  rintro x w5 ⟨B, rfl, hlb, hb5⟩
  have HLB := Lib.hid hlb
  have HB5 := Lib.hid hb5
  clear hlb hb5
  go_upto_region 5 with fail
  have hb6 := balloc (Below.refl _ w5) (.cells #[.pointer none, ptr Z, ptr A, ptr B] 25)
  have hx6 := heap_alloc_new w5 (.cells #[.pointer none, ptr Z, ptr A, ptr B] 25)
  obtain ⟨g, hg⟩ : ∃ g, w5.heap.size = g := ⟨_, rfl⟩
  obtain ⟨W6, hW6⟩ : ∃ W6, w5.alloc (.cells #[.pointer none, ptr Z, ptr A, ptr B] 25) = W6 := ⟨_, rfl⟩
  rw [hg] at hx6
  try rw [hg]
  rw [hW6] at hb6 hx6
  rw [hW6]
  obtain ⟨Fz, hFz⟩ : ∃ Fz, (fun b => b = Z) = Fz := ⟨_, rfl⟩
  obtain ⟨Fa, hFa⟩ : ∃ Fa, (fun b => w3.heap.size ≤ b ∧ b < w4.heap.size) = Fa := ⟨_, rfl⟩
  obtain ⟨Fb, hFb⟩ : ∃ Fb, (fun b => w4.heap.size ≤ b ∧ b < w5.heap.size) = Fb := ⟨_, rfl⟩
  have HLZ6 : Hid (LS W6 Z 0 [] 0 [] Fz) := Lib.hid (by rw [← hFz]; exact ((HLZ.out.below HB4.out).below HB5.out).below hb6)
  have HLA6 : Hid (LS W6 A 0 [] 0 [] Fa) := Lib.hid (by rw [← hFa]; exact (HLA.out.below HB5.out).below hb6)
  have HLB6 : Hid (LS W6 B (-3) [] 0 [] Fb) := Lib.hid (by rw [← hFb]; exact HLB.out.below hb6)
  have HZA : Hid (∀ b, Fa b → ¬ Fz b) := Lib.hid fun b h1 h2 => by rw [← hFa] at h1; rw [← hFz] at h2; have := HZL.out; omega
  have HZB : Hid (∀ b, Fb b → ¬ Fz b) := Lib.hid fun b h1 h2 => by rw [← hFb] at h1; rw [← hFz] at h2; have := HZL.out; have := HB4.out.size; omega
  have HAB : Hid (∀ b, Fb b → ¬ Fa b) := Lib.hid fun b h1 h2 => by rw [← hFb] at h1; rw [← hFa] at h2; omega
  have HLO : Hid (∀ i b, GS Fz Fa Fb i b → w2.heap.size ≤ b ∧ b < g) := Lib.hid fun i b h => by
    have h1 := HB3.out.size
    have h2 := HB4.out.size
    have h3 := HB5.out.size
    have h4 := HZL.out
    have h5 := HZE.out
    rcases h with ⟨-, h⟩ | ⟨-, h⟩ | ⟨-, h⟩
    · rw [← hFz] at h
      omega
    · rw [← hFa] at h
      omega
    · rw [← hFb] at h
      omega
  have HB6 := Lib.hid (bnext (bnext (bnext (bnext HB2.out HB3.out) HB4.out) HB5.out) hb6)
  have HX6 := Lib.hid ((((bnext (bnext (bnext HB3.out HB4.out) HB5.out) hb6)).block w.heap.size (Array.getElem?_eq_some_iff.1 HX2.out).1).trans HX2.out)
  have HWL : Hid (w.heap.size < w2.heap.size) := Lib.hid (Array.getElem?_eq_some_iff.1 HX2.out).1
  have HV : Hid (∀ i V, FrS (GS Fz Fa Fb i) W6 V → Below w.heap.size w V ∧ (∀ j : Nat, j < 4 → V.cell? ⟨g, j, none⟩ = some (pv Z A B j)) ∧ V.cell? ⟨X, 0, none⟩ = some (.int .i64 f1) ∧ V.cell? ⟨X, 1, none⟩ = some (.int .i64 o1) ∧ V.cell? ⟨X, 2, none⟩ = some (.string s1)) := Lib.hid fun i V hV => by
    have q := hV.nd hx6 (fun h => by have := (HLO.out i g h).2; omega)
    have qx := hV.nd HX6.out (fun h => by have := (HLO.out i _ h).1; have := HWL.out; omega)
    rw [HXE.out] at qx
    refine ⟨hV.below w HB6.out (fun b hb => by have := (HLO.out i b hb).1; have := HWL.out; omega), fun j hj => ?_, nd_cell qx rfl, nd_cell qx rfl, nd_cell qx rfl⟩
    have h4 : j = 0 ∨ j = 1 ∨ j = 2 ∨ j = 3 := by omega
    rcases h4 with rfl | rfl | rfl | rfl <;> exact nd_cell q rfl
  clear hb6 hx6 hg hW6 hFz hFa hFb
  have hne : ∀ w, (binOp .neq 31 ms0V ms0V).run Try.prog w = .ok (.bool false) w := fun w => neq_ms w 0 0 ⟨#[]⟩
  have HNE := Lib.hid hne
  clear hne
  go_loopw [22] (fun v22 wr => ∃ i : Nat, v22 = .int .i64 (i : Int) ∧ i ≤ 4 ∧ Hid (FrS (GS Fz Fa Fb i) W6 wr)) (fun v _ => 4 - (intOf v).toNat)
  case atStart => exact ⟨0, rfl, by omega, Lib.hid (FrS.refl _ _)⟩
  case round =>
    obtain ⟨i, rfl, hi, HI⟩ := hrel
    obtain ⟨hbw, hcl, q0, q1, q2⟩ := HV.out i wr HI.out
    by_cases hi4 : i < 4
    · have hii : (i : Int) < 4 := by omega
      have hi0 : (0 : Int) ≤ (i : Int) := by omega
      have hc := hcl i hi4
      have HS := Lib.hid (nsend HLZ6.out HLA6.out HLB6.out HZA.out HZB.out HAB.out i hi4 HI.out a0 f1 o1 s1)
      have HNX := Lib.hid fun w1 hm => nnext (w1 := w1) (Z := Z) (A := A) (B := B) i hi4 HI.out hm
      obtain ⟨v, hv⟩ : ∃ v, pv Z A B i = v := ⟨_, rfl⟩
      rw [hv] at hc HS HNX
      clear hcl hbw hv
      go_upto_region 7 with fail
      clear hc
      go_wp2_with fail
      go_at_call 15
      refine HS.out.mono ?_
      rintro x wa ⟨rfl, ha⟩
      have HA := Lib.hid (HNX.out wa ha)
      clear ha q0 q1 q2
      go_wp2_with fail
      go_at_call 20
      refine HA.out.mono ?_
      rintro x wb ⟨rfl, hb⟩
      have HBB := Lib.hid (hb.then (balloc (Below.refl _ wb) ms0C))
      clear hb
      have hne := HNE.out
      go_wp2
      go_roundw
      case rel => exact ⟨i + 1, by go_num, hi4, HBB⟩
      case measure => simp [intOf]; omega
    · have hii : ¬ (i : Int) < 4 := by omega
      have HFI := Lib.hid hbw
      clear hbw hcl q0 q1 q2
      go_wp2
      go_ret
      exact ⟨rfl, HFI.out⟩

set_option maxRecDepth 100000 in
theorem lifted (os : Os) (started : os.Started) (H : Type) (enc : TypeId × Value → H) :
    ReturnsInHanded {} Try.checked os 9 .any (Rows.linesNilSpec.pre6 enc Try.prog Try.f9 Rows.linesNilRow.domain false) (Rows.linesNilSpec.post enc Try.prog Try.f9 false true false false) := by
  refine returnsInHanded_of_change (C := Try.checked) own started (by kernel_rfl) Try.func9
    (ChangeSpec.witness6 (enc := enc) (C := Try.checked) false ⟨#[], #[.int .i64 0, .agg #[.int .i64 0, .int .i64 0, .string ByteArray.empty]], []⟩ 8 (by kernel_rfl) (by kernel_rfl) (by kernel_rfl) (by kernel_rfl)) ?_
  intro W base args ds gs before hval0 hW hcnd _
  have hval : ∀ (j : Nat) t v, Try.f9.params[j]? = some t → args[j]? = some v → Value.okWide Try.prog W .any base t v := hval0
  have hW' := hW
  obtain ⟨p, q, hA0, hV, rfl, hfz, hnd⟩ := hW
  have hA : DataW.TrodAll enc Try.prog W 0 (fun _ => true) true Try.f9.params.toList args.toList ds p := hA0
  rw [Try.params9] at hA hval
  obtain ⟨v0, vs0, d0, ds0, p0, q0, hargs, rfl, rfl, h0, r0⟩ := trodAll_cons hA
  obtain ⟨v1, vs1, d1, ds1, p1, q1, rfl, rfl, rfl, h1, r1⟩ := trodAll_cons r0
  obtain ⟨rfl, rfl, rfl⟩ := trodAll_nil r1
  obtain rfl : args = #[v0, v1] := by cases args; simp_all
  obtain ⟨rfl, rfl⟩ := trodVars_none hV
  have k0 := h0
  have lt0 : ∀ x ∈ p0, x.block < W.heap.size := by obtain ⟨m, hm⟩ := k0; exact DataW.trod_lt m _ _ _ hm
  have k1 := h1
  have lt1 : ∀ x ∈ p1, x.block < W.heap.size := by obtain ⟨m, hm⟩ := k1; exact DataW.trod_lt m _ _ _ hm
  obtain ⟨a0, rfl, rfl, rfl, wa0⟩ := open_int Try.underlying3 (hval 0 3 v0 rfl rfl) h0
  obtain ⟨f1, o1, s1, rfl, H1⟩ := open_ms (hval 1 31 v1 rfl rfl) h1
  clear hA0 hval0
  refine (walk a0 f1 o1 s1 wa0 W H1).mono fun e W' ⟨he, bel⟩ => ?_
  subst he
  exact ⟨_, rfl, _, _, _, [], _, [], hW', trodAll_mk1 (shut_bool Try.underlying4 _), (trodAll_cons_mk (Below.trod laidOut (by kernel_rfl) (of_decide_eq_true (by kernel_rfl)) k0 bel lt0) (trodAll_cons_mk (Below.trod laidOut (by kernel_rfl) (of_decide_eq_true (by kernel_rfl)) k1 bel lt1) trodAll_mk0)), rfl, bel.frame _, fun h => by cases h⟩

theorem over : Rows.linesNilRow.holds Try.pinned (OpenSpec.ofChange Rows.linesNilSpec) :=
  OpenClaim.holds_of_wide 9 Try.f9 rfl rfl rfl rfl rfl rfl rfl ⟨rfl, rfl, rfl, rfl, rfl⟩ rfl rfl rfl rfl rfl (by kernel_rfl) Try.func9 (by kernel_rfl)
    (of_decide_eq_true (by kernel_rfl)) (by unfold Func.isWrapper; first | (rw [if_pos (by decide +kernel)]; kernel_rfl) | (rw [if_neg (by decide +kernel)]; exact ⟨rfl, rfl⟩))
    (fun os started H enc _ => lifted os started H enc)

end Go.Proofs.Ytgphdgalcbcamaa.linesNil
namespace Go.Proofs.Ytgphdgalcbcamaa
theorem linesNil_proved : Rows.LinesNilSaid := linesNil.over
#print axioms linesNil_proved
end Go.Proofs.Ytgphdgalcbcamaa
