/- What is taken; the next message. No conditions. -/
import Derived.Test.YtgphdgalcbcamaaLn6
namespace Go.Proofs.Ytgphdgalcbcamaa
set_option maxRecDepth 100000
set_option linter.unusedVariables false
open Go.RowKit Go.Deep
abbrev pcC (p : Pc) : Obj := .cells #[.int .i64 p.t, .int .i64 p.n, .int .i64 p.f, .int .i64 p.o, .string p.s] 70
abbrev pc0C : Obj := .cells #[.int .i64 0, .int .i64 0, .int .i64 0, .int .i64 0, .string ⟨#[]⟩] 70
abbrev ms0C : Obj := .cells #[.int .i64 0, .int .i64 0, .string ⟨#[]⟩] 31
abbrev ms0V : Value := .agg #[.int .i64 0, .int .i64 0, .string ⟨#[]⟩]
abbrev msV (f o : Int) (s : ByteArray) : Value := .agg #[.int .i64 f, .int .i64 o, .string s]
section
variable {W w w' V : World} {M : Nat} {nd : Int} {T : List Tr} {k k' : Nat} {P Q C : List Pc} {F F' F2 S : Nat → Prop}
theorem LSr.join (h : FrS F W w) (h3 : ∀ b, F' b → F b ∨ W.heap.size ≤ b) (hV : FrS (fun b => F' b ∨ w.heap.size ≤ b) w V) (ls : LS V M nd T k C F2) (hF2 : ∀ b, F2 b → F' b ∨ w.heap.size ≤ b) : LSr W F V M nd T k C :=
  ⟨h.over hV (fun b hb => hb.elim (h3 b) (fun x => .inr (Nat.le_trans h.size x))), F2, ls, fun b hb => (hF2 b hb).elim (h3 b) (fun x => .inr (Nat.le_trans h.size x))⟩
set_option maxHeartbeats 2000000 in
theorem take_some (h : LSr W F w M nd T k P) (hne : P ≠ []) (hl : P.length ≤ 100000) : Calls Try.prog 29 #[qi M] w fun x w' => ∃ p C, x = .returned (.tuple #[pcV p, .bool true]) ∧ P.Perm (p :: C) ∧ (∀ q ∈ C, LN.le p q) ∧ LSr W F w' M nd T k C := by
  obtain ⟨f, F', hls, h3⟩ := h
  have hb1 := balloc (Below.refl _ w) pc0C
  have hx1 := heap_alloc_new w pc0C
  obtain ⟨n, hn⟩ : ∃ n, P.length = n := ⟨_, rfl⟩
  have hn0 : ((n : Int) == 0) = false := by
    have := List.length_pos_iff.2 hne
    simp
    omega
  have HE := Lib.hid (lempty_s (hls.below hb1).here n hn)
  have HPO := Lib.hid (lpop_s (hls.below hb1).here hne hl)
  have HLT : Hid (∀ b, F' b → b < w.heap.size) := Lib.hid hls.lt
  have HF := Lib.hid f
  have H3 := Lib.hid h3
  have HB1 := Lib.hid hb1
  have HX1 := Lib.hid hx1
  clear hls h3 f hb1 hx1 hn hne
  have hta : ∀ (p : Pc) w, (Instr.typeAssert (.iface 70 (pcV p)) 20 70 true).run Try.prog w = .ok (.tuple #[pcV p, .bool true]) w := fun _ _ => by kernel_rfl
  have HTA := Lib.hid hta
  clear hta
  go_enter Try.func29, Try.ntmps29
  go_wp2_with fail
  go_at_call 55
  refine HE.out.mono ?_
  rintro x w4 ⟨rfl, he⟩
  have he' := he.symm
  subst he'
  go_wp2_with fail
  go_at_call 31
  refine HPO.out.mono ?_
  rintro x w3 ⟨p, C, rfl, hp, hm, hr⟩
  have hta := HTA.out p
  obtain ⟨f3, F2, ls2, hF2⟩ := hr
  have hx3 := f3.nd HX1.out (fun h => by have := HLT.out _ h; omega)
  have HF3 := Lib.hid f3
  have HL2 := Lib.hid ls2
  have HF2 := Lib.hid hF2
  have HP := Lib.hid hp
  have HM := Lib.hid hm
  have HX3 := Lib.hid hx3
  clear f3 ls2 hF2 hp hm hx3
  go_upto_region 4 with fail
  clear hta
  have hb4 := balloc (Below.refl _ w3) (pcC p)
  have hx4 := heap_alloc_new w3 (pcC p)
  obtain ⟨X4, hX4⟩ : ∃ X4, w3.heap.size = X4 := ⟨_, rfl⟩
  obtain ⟨W4, hW4⟩ : ∃ W4, w3.alloc (pcC p) = W4 := ⟨_, rfl⟩
  obtain ⟨X, hX⟩ : ∃ X, w.heap.size = X := ⟨_, rfl⟩
  have HXW := Lib.hid hX
  have hxx := (hb4.block w.heap.size (Array.getElem?_eq_some_iff.1 HX3.out).1).trans HX3.out
  rw [hX4] at hx4
  rw [hX] at hxx
  try rw [hX]
  try rw [hX4]
  rw [hW4] at hb4 hx4 hxx
  rw [hW4]
  obtain ⟨V, hV, hxV, hfV⟩ := set5 hxx (.int .i64 p.t) (.int .i64 p.n) (.int .i64 p.f) (.int .i64 p.o) (.string p.s)
  have k0 : W4.cell? ⟨X4, 0, none⟩ = some (.int .i64 p.t) := nd_cell hx4 rfl
  have k1 : W4.cell? ⟨X4, 1, none⟩ = some (.int .i64 p.n) := nd_cell hx4 rfl
  have k2 : W4.cell? ⟨X4, 2, none⟩ = some (.int .i64 p.f) := nd_cell hx4 rfl
  have k3 : W4.cell? ⟨X4, 3, none⟩ = some (.int .i64 p.o) := nd_cell hx4 rfl
  have k4 : W4.cell? ⟨X4, 4, none⟩ = some (.string p.s) := nd_cell hx4 rfl
  have x0 : W4.cell? ⟨X, 0, none⟩ = some (.int .i64 0) := nd_cell hxx rfl
  have x1 : W4.cell? ⟨X, 1, none⟩ = some (.int .i64 0) := nd_cell hxx rfl
  have x2 : W4.cell? ⟨X, 2, none⟩ = some (.int .i64 0) := nd_cell hxx rfl
  have x3 : W4.cell? ⟨X, 3, none⟩ = some (.int .i64 0) := nd_cell hxx rfl
  have x4 : W4.cell? ⟨X, 4, none⟩ = some (.string ⟨#[]⟩) := nd_cell hxx rfl
  have fz := nd_froz hxx
  have HV := Lib.hid hV
  have HXV := Lib.hid hxV
  have HFIN : Hid (LSr W F V M nd T k C) := Lib.hid (by
    refine LSr.join HF.out H3.out ?_ ((HL2.out.below hb4).kept hfV (fun b hb e => ?_)) (fun b hb => ?_)
    · refine (((FrS.of HB1.out).trans (HF3.out.mono (fun b hb => .inl hb))).trans (FrS.of hb4)).trans (hfV.mono (fun b hb => .inr ?_))
      rw [hb]
      exact Nat.le_of_eq HXW.out
    · subst e
      have h1 := HXW.out
      rcases HF2.out b hb with h | h
      · have := HLT.out b h
        omega
      · have : (w.alloc pc0C).heap.size = w.heap.size + 1 := by simp
        omega
    · exact (HF2.out b hb).elim .inl (fun h => .inr (Nat.le_trans HB1.out.size h)))
  clear hb4 hx4 hxx hV hxV hfV hX hX4 hW4
  go_wp2
  rw [HV.out]
  refine bodyPost_ret (v := .tuple #[pcV p, .bool true]) (results_ct Try.results29 _ _ X 70 _ (0, 0) _ rfl HXV.out Try.underlying70 rfl (by kernel_rfl)) rfl ⟨p, C, rfl, HP.out, HM.out, HFIN.out⟩
end
end Go.Proofs.Ytgphdgalcbcamaa
