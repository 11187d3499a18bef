/- The next message. No conditions. -/
import Derived.Test.YtgphdgalcbcamaaLn8
namespace Go.Proofs.Ytgphdgalcbcamaa
set_option maxRecDepth 100000
set_option linter.unusedVariables false
open Go.RowKit Go.Deep
set_option maxHeartbeats 1000000 in
theorem next_nil (w : World) : Calls Try.prog 20 #[.pointer none] w fun x w' => x = .returned (.tuple #[ms0V, .int .i64 0, .bool false]) ∧ Below w.heap.size w w' := by
  go_enter Try.func20, Try.ntmps20
  go_wp2
  refine bodyPost_ret (v := .tuple #[ms0V, .int .i64 0, .bool false]) (results_ctt Try.results20 _ _ w.heap.size 31 _ (0, 0) _ rfl (heap_alloc_new w _) Try.underlying31 rfl (by kernel_rfl)) rfl ⟨rfl, ?_⟩
  exact balloc (Below.refl _ _) _
set_option maxHeartbeats 1000000 in
theorem send_nil (w : World) (at' f o : Int) (s : ByteArray) : Calls Try.prog 15 #[.pointer none, .int .i64 at', msV f o s] w fun x w' => x = .returned (.tuple #[]) ∧ Below w.heap.size w w' := by
  go_enter Try.func15, Try.ntmps15
  go_wp2
  refine bodyPost_ret (v := .tuple #[]) (results_none Try.results15 _ _ _) rfl ⟨rfl, ?_⟩
  exact balloc (Below.refl _ _) _
section
variable {W w w' V : World} {M : Nat} {nd : Int} {T : List Tr} {k k' : Nat} {P Q C : List Pc} {F F' F2 S : Nat → Prop}
set_option maxHeartbeats 2000000 in
theorem next_none (h : LSr W F w M nd T k []) : Calls Try.prog 20 #[ptr M] w fun x w' => x = .returned (.tuple #[ms0V, .int .i64 0, .bool false]) ∧ LSr W F w' M nd T k [] := by
  obtain ⟨f, F', hls, h3⟩ := h
  have hb1 := balloc (Below.refl _ w) ms0C
  have hx1 := heap_alloc_new w ms0C
  have HTK := Lib.hid (take_none (hls.below hb1).here)
  have HLT : Hid (∀ b, F' b → b < w.heap.size) := Lib.hid hls.lt
  have HF := Lib.hid f
  have H3 := Lib.hid h3
  have HB1 := Lib.hid hb1
  have HX1 := Lib.hid hx1
  clear hls h3 f hb1 hx1
  go_enter Try.func20, Try.ntmps20
  go_wp2_with fail
  go_at_call 29
  refine HTK.out.mono ?_
  rintro x w3 ⟨rfl, hr⟩
  obtain ⟨f3, F2, ls2, hF2⟩ := hr
  have hx3 := f3.nd HX1.out (fun h => by have := HLT.out _ h; omega)
  have HF3 := Lib.hid f3
  have HL2 := Lib.hid ls2
  have HF2 := Lib.hid hF2
  have HX3 := Lib.hid hx3
  clear f3 ls2 hF2 hx3
  go_upto_region 4 with fail
  have hb4 := balloc (Below.refl _ w3) pc0C
  have hx4 := heap_alloc_new w3 pc0C
  obtain ⟨X4, hX4⟩ : ∃ X4, w3.heap.size = X4 := ⟨_, rfl⟩
  obtain ⟨W4, hW4⟩ : ∃ W4, w3.alloc pc0C = W4 := ⟨_, rfl⟩
  obtain ⟨X, hX⟩ : ∃ X, w.heap.size = X := ⟨_, rfl⟩
  have HXW := Lib.hid hX
  have hlt : X < X4 := by rw [← hX, ← hX4]; exact (Array.getElem?_eq_some_iff.1 HX3.out).1
  have hne1 : ¬ X = X4 := by omega
  have hne2 : ¬ X4 = X := by omega
  have hxx := (hb4.block w.heap.size (Array.getElem?_eq_some_iff.1 HX3.out).1).trans HX3.out
  rw [hX4] at hx4
  rw [hX] at hxx
  try rw [hX]
  try rw [hX4]
  rw [hW4] at hb4 hx4 hxx
  rw [hW4]
  obtain ⟨V, hV, hxV, hfV⟩ := set3 hxx (.int .i64 0) (.int .i64 0) (.string ⟨#[]⟩)
  have k0 : W4.cell? ⟨X4, 0, none⟩ = some (.int .i64 0) := nd_cell hx4 rfl
  have k2 : W4.cell? ⟨X4, 2, none⟩ = some (.int .i64 0) := nd_cell hx4 rfl
  have k3 : W4.cell? ⟨X4, 3, none⟩ = some (.int .i64 0) := nd_cell hx4 rfl
  have k4 : W4.cell? ⟨X4, 4, none⟩ = some (.string ⟨#[]⟩) := nd_cell hx4 rfl
  have x0 : W4.cell? ⟨X, 0, none⟩ = some (.int .i64 0) := nd_cell hxx rfl
  have x1 : W4.cell? ⟨X, 1, none⟩ = some (.int .i64 0) := nd_cell hxx rfl
  have x2 : W4.cell? ⟨X, 2, none⟩ = some (.string ⟨#[]⟩) := nd_cell hxx rfl
  have fz := nd_froz hxx
  have HV := Lib.hid hV
  have HXV := Lib.hid hxV
  have hbd := Below.drew (Below.refl V.heap.size V)
  have HFIN : Hid (LSr W F V.drew M nd T k []) := Lib.hid (by
    refine LSr.below (LSr.join HF.out H3.out ?_ ((HL2.out.below hb4).kept hfV (fun b hb e => ?_)) (fun b hb => ?_)) hbd
    · refine (((FrS.of HB1.out).trans (HF3.out.mono (fun b hb => .inl hb))).trans (FrS.of hb4)).trans (hfV.mono (fun b hb => .inr ?_))
      rw [hb]
      exact Nat.le_of_eq HXW.out
    · subst e
      have h1 := HXW.out
      rcases HF2.out b hb with h | h
      · have := HLT.out b h
        omega
      · have : (w.alloc ms0C).heap.size = w.heap.size + 1 := by simp
        omega
    · exact (HF2.out b hb).elim .inl (fun h => .inr (Nat.le_trans HB1.out.size h)))
  have HDR : Hid (V.drew.heap[X]? = some (.cells #[.int .i64 0, .int .i64 0, .string ⟨#[]⟩] 31 (0, 0))) := HXV
  clear hb4 hx4 hxx hV hxV hfV hX hX4 hW4 hbd
  go_region
  rw [HV.out]
  go_wp2
  refine bodyPost_ret (v := .tuple #[ms0V, .int .i64 0, .bool false]) (results_ctt Try.results20 _ _ X 31 _ (0, 0) _ rfl HDR.out Try.underlying31 rfl (by kernel_rfl)) rfl ⟨rfl, HFIN.out⟩
set_option maxHeartbeats 2000000 in
theorem next_some (h : LSr W F w M nd T k P) (ho : LN.Ord P) (hl : P.length ≤ 100000) (p : Pc) (hp : P[LN.bs P]? = some p) : Calls Try.prog 20 #[ptr M] w fun x w' => x = .returned (.tuple #[msV p.f p.o p.s, .int .i64 p.t, .bool true]) ∧ LSr W F w' M nd T k (P.eraseIdx (LN.bs P)) := by
  have hne : P ≠ [] := fun e => by rw [e] at hp; simp at hp
  obtain ⟨f, F', hls, h3⟩ := h
  have hb1 := balloc (Below.refl _ w) ms0C
  have hx1 := heap_alloc_new w ms0C
  have HTK := Lib.hid (take_some (hls.below hb1).here hne hl)
  have HLT : Hid (∀ b, F' b → b < w.heap.size) := Lib.hid hls.lt
  have HF := Lib.hid f
  have H3 := Lib.hid h3
  have HB1 := Lib.hid hb1
  have HX1 := Lib.hid hx1
  have HBP := Lib.hid hp
  have HO := Lib.hid ho
  clear hls h3 f hb1 hx1 hp ho hne
  go_enter Try.func20, Try.ntmps20
  go_wp2_with fail
  go_at_call 29
  refine HTK.out.mono ?_
  rintro x w3 ⟨p', C, rfl, hpm, hmm, hr⟩
  obtain ⟨rfl, hpc⟩ := LN.bs_min HO.out hpm hmm HBP.out
  obtain ⟨f3, F2, ls2, hF2⟩ := hr.perm hpc.symm
  have hx3 := f3.nd HX1.out (fun h => by have := HLT.out _ h; omega)
  have HF3 := Lib.hid f3
  have HL2 := Lib.hid ls2
  have HF2 := Lib.hid hF2
  have HX3 := Lib.hid hx3
  clear f3 ls2 hF2 hx3 hpc hpm hmm
  go_upto_region 4 with fail
  have hb4 := balloc (Below.refl _ w3) (pcC p)
  have hx4 := heap_alloc_new w3 (pcC p)
  obtain ⟨X4, hX4⟩ : ∃ X4, w3.heap.size = X4 := ⟨_, rfl⟩
  obtain ⟨W4, hW4⟩ : ∃ W4, w3.alloc (pcC p) = W4 := ⟨_, rfl⟩
  obtain ⟨X, hX⟩ : ∃ X, w.heap.size = X := ⟨_, rfl⟩
  have HXW := Lib.hid hX
  have hlt : X < X4 := by rw [← hX, ← hX4]; exact (Array.getElem?_eq_some_iff.1 HX3.out).1
  have hne1 : ¬ X = X4 := by omega
  have hne2 : ¬ X4 = X := by omega
  have hxx := (hb4.block w.heap.size (Array.getElem?_eq_some_iff.1 HX3.out).1).trans HX3.out
  rw [hX4] at hx4
  rw [hX] at hxx
  try rw [hX]
  try rw [hX4]
  rw [hW4] at hb4 hx4 hxx
  rw [hW4]
  obtain ⟨V, hV, hxV, hfV⟩ := set3 hxx (.int .i64 p.f) (.int .i64 p.o) (.string p.s)
  have k0 : W4.cell? ⟨X4, 0, none⟩ = some (.int .i64 p.t) := nd_cell hx4 rfl
  have k2 : W4.cell? ⟨X4, 2, none⟩ = some (.int .i64 p.f) := nd_cell hx4 rfl
  have k3 : W4.cell? ⟨X4, 3, none⟩ = some (.int .i64 p.o) := nd_cell hx4 rfl
  have k4 : W4.cell? ⟨X4, 4, none⟩ = some (.string p.s) := nd_cell hx4 rfl
  have x0 : W4.cell? ⟨X, 0, none⟩ = some (.int .i64 0) := nd_cell hxx rfl
  have x1 : W4.cell? ⟨X, 1, none⟩ = some (.int .i64 0) := nd_cell hxx rfl
  have x2 : W4.cell? ⟨X, 2, none⟩ = some (.string ⟨#[]⟩) := nd_cell hxx rfl
  have fz := nd_froz hxx
  have HV := Lib.hid hV
  have HXV := Lib.hid hxV
  have hbd := Below.drew (Below.refl V.heap.size V)
  have HFIN : Hid (LSr W F V.drew M nd T k (P.eraseIdx (LN.bs P))) := Lib.hid (by
    refine LSr.below (LSr.join HF.out H3.out ?_ ((HL2.out.below hb4).kept hfV (fun b hb e => ?_)) (fun b hb => ?_)) hbd
    · refine (((FrS.of HB1.out).trans (HF3.out.mono (fun b hb => .inl hb))).trans (FrS.of hb4)).trans (hfV.mono (fun b hb => .inr ?_))
      rw [hb]
      exact Nat.le_of_eq HXW.out
    · subst e
      have h1 := HXW.out
      rcases HF2.out b hb with h | h
      · have := HLT.out b h
        omega
      · have : (w.alloc ms0C).heap.size = w.heap.size + 1 := by simp
        omega
    · exact (HF2.out b hb).elim .inl (fun h => .inr (Nat.le_trans HB1.out.size h)))
  have HDR : Hid (V.drew.heap[X]? = some (.cells #[.int .i64 p.f, .int .i64 p.o, .string p.s] 31 (0, 0))) := HXV
  clear hb4 hx4 hxx hV hxV hfV hX hX4 hW4 hbd
  go_region
  rw [HV.out]
  go_wp2
  refine bodyPost_ret (v := .tuple #[msV p.f p.o p.s, .int .i64 p.t, .bool true]) (results_ctt Try.results20 _ _ X 31 _ (0, 0) _ rfl HDR.out Try.underlying31 rfl (by kernel_rfl)) rfl ⟨rfl, HFIN.out⟩
end
end Go.Proofs.Ytgphdgalcbcamaa
