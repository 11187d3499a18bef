/- For every number of glyphs and every advance AttachLimits returns true: 200 glyphs have places, 201 have none, and a number that is too far out leads to none. No conditions. -/
import Derived.Test.YtpmmincophaaiaaAttLim
namespace Go.Proofs.Ytpmmincophaaiaa.attachLimits
open Go.ChangeShapes Go.WideShapes Go.ChangeAt Go.RowKit Go.Joins Go.Deep
set_option linter.unusedVariables false

set_option maxRecDepth 100000 in
set_option maxHeartbeats 4000000 in
theorem walk (a0 : Int) (a1 : Int) (wa0 : (Lit.int .u8 a0).wf = true) (wa1 : (Lit.int .i64 a1).wf = true) (w : World) :
    Calls Try.prog 9 #[.int .u8 a0, .int .i64 a1] w fun e w' => e = .returned (.bool true) ∧ Below w.heap.size w w' := by
  obtain ⟨b1, b2⟩ := bd8 wa0
  obtain ⟨n, hn⟩ : ∃ n : Nat, a0 % 210 = (n : Int) := ⟨(a0 % 210).toNat, by omega⟩
  have hn209 : n ≤ 209 := by omega
  have hrem : a0.tmod 210 = (n : Int) := by rw [Int.tmod_eq_emod_of_nonneg b1]; exact hn
  clear hn wa0
  by_cases hn0 : n = 0
  · subst hn0
    go_enter Try.func9, Try.ntmps9
    go_wp2_with fail
    refine (sane_any _).mono ?_
    rintro e w1 ⟨rfl, k1⟩
    obtain ⟨w2, hmk, hblk, k2⟩ := make_dr w1 0 (by omega)
    have HM2 := Lib.hid hblk
    have HB2 := Lib.hid (bnext k1 k2)
    have hsz2 : w1.heap.size < w2.heap.size := (Array.getElem?_eq_some_iff.1 hblk).1
    have HB1 := Lib.hid k1
    clear k1 k2 hblk
    rw [show ((0 : Nat) : Int) = 0 from rfl] at hmk
    go_upto_region 6 with fail
    clear hmk
    have hds : DsAt w2 (.slice (some ⟨w1.heap.size, 0, none⟩) 0 0) [] := ⟨_, 0, rfl, .inl rfl⟩
    go_wp2_with fail
    refine (places_any [] _ w2 (by simp) (fun d hd => by simp at hd) hds).mono ?_
    rintro e w3 ⟨u, rfl, ho, k3⟩
    obtain ⟨ua, uc, rfl⟩ := own_shape ho
    have hp0 : AT.places [] = [] := rfl
    rw [hp0] at ho ⊢
    have HB3 := Lib.hid (bnext HB2.out k3)
    clear k3 ho
    go_wp2_with fail
    go_loopw [49] (fun v wr => v = .int .i64 0 ∧ Below w.heap.size w wr) (fun _ _ => 0)
    case atStart => exact ⟨rfl, HB3.out⟩
    case round =>
      obtain ⟨rfl, hb⟩ := hrel
      have HB4 := Lib.hid hb
      clear hb
      go_wp2
      go_ret
      exact ⟨rfl, HB4.out⟩
  · obtain ⟨m, hnm⟩ : ∃ m, n = m + 1 := ⟨n - 1, by omega⟩
    have hm0 : (0 : Int) < (n : Int) := by omega
    have hm1 : (n : Int) - 1 = (m : Int) := by omega
    have hm2 : (0 : Int) ≤ (m : Int) := by omega
    have hm3 : (m : Int) < (n : Int) := by omega
    have hm4 : m < 300 := by omega
    have HNM := Lib.hid hnm
    clear hnm
    by_cases h200 : (200 : Int) < (n : Int)
    · -- more than 200
      go_enter Try.func9, Try.ntmps9
      go_wp2_with fail
      refine (sane_any _).mono ?_
      rintro e w1 ⟨rfl, k1⟩
      obtain ⟨w2, hmk, hblk, k2⟩ := make_dr w1 n (by omega)
      have HM2 := Lib.hid hblk
      have HB2 := Lib.hid (bnext k1 k2)
      have hsz2 : w1.heap.size < w2.heap.size := (Array.getElem?_eq_some_iff.1 hblk).1
      have HB1 := Lib.hid k1
      clear k1 k2 hblk
      rw [HNM.out] at HM2
      have hx : w2.cell? ⟨w1.heap.size, m * 6 + 5, none⟩ = some (.int .i64 0) := two_at HM2.out (made_at (m + 1) m 5 (by omega) (by omega))
      have hf : w2.frozen? ⟨w1.heap.size, m * 6 + 5, none⟩ = false := by simp [World.frozen?, HM2.out]
      go_upto_region 6 with fail
      clear hmk hx hf
      have hds := lim_ds a1 HM2.out
      rw [← HNM.out] at hds
      have HB2' := Lib.hid (bset HB2.out (p := ⟨w1.heap.size, m * 6 + 5, none⟩) HB1.out.size (.int .i64 a1))
      obtain ⟨W3, hW3⟩ : ∃ W3, w2.setCell ⟨w1.heap.size, m * 6 + 5, none⟩ (.int .i64 a1) = W3 := ⟨_, rfl⟩
      rw [hW3] at hds HB2' ⊢
      clear hW3
      go_wp2_with fail
      refine (places_any (AT.limD m a1) _ W3 (by rw [AT.limD_len]; omega) (fun d hd => by rw [(AT.limD_mem hd).1]; simp) hds).mono ?_
      rintro e w3 ⟨u, rfl, ho, k3⟩
      obtain ⟨ua, uc, rfl⟩ := own_shape ho
      have HB3 := Lib.hid (bnext HB2'.out k3)
      clear k3 hds
      rw [AT.lim_bad (.inl (by have := HNM.out; omega))] at ho ⊢
      go_wp2
      go_ret
      exact ⟨rfl, HB3.out⟩
    · by_cases hbig : 1048576 < a1
      · -- too far out
        go_enter Try.func9, Try.ntmps9
        go_wp2_with fail
        refine (sane_any _).mono ?_
        rintro e w1 ⟨rfl, k1⟩
        obtain ⟨w2, hmk, hblk, k2⟩ := make_dr w1 n (by omega)
        have HM2 := Lib.hid hblk
        have HB2 := Lib.hid (bnext k1 k2)
        have hsz2 : w1.heap.size < w2.heap.size := (Array.getElem?_eq_some_iff.1 hblk).1
        have HB1 := Lib.hid k1
        clear k1 k2 hblk
        rw [HNM.out] at HM2
        have hx : w2.cell? ⟨w1.heap.size, m * 6 + 5, none⟩ = some (.int .i64 0) := two_at HM2.out (made_at (m + 1) m 5 (by omega) (by omega))
        have hf : w2.frozen? ⟨w1.heap.size, m * 6 + 5, none⟩ = false := by simp [World.frozen?, HM2.out]
        go_upto_region 6 with fail
        clear hmk hx hf
        have hds := lim_ds a1 HM2.out
        rw [← HNM.out] at hds
        have HB2' := Lib.hid (bset HB2.out (p := ⟨w1.heap.size, m * 6 + 5, none⟩) HB1.out.size (.int .i64 a1))
        obtain ⟨W3, hW3⟩ : ∃ W3, w2.setCell ⟨w1.heap.size, m * 6 + 5, none⟩ (.int .i64 a1) = W3 := ⟨_, rfl⟩
        rw [hW3] at hds HB2' ⊢
        clear hW3
        go_wp2_with fail
        refine (places_any (AT.limD m a1) _ W3 (by rw [AT.limD_len]; omega) (fun d hd => by rw [(AT.limD_mem hd).1]; simp) hds).mono ?_
        rintro e w3 ⟨u, rfl, ho, k3⟩
        obtain ⟨ua, uc, rfl⟩ := own_shape ho
        have HB3 := Lib.hid (bnext HB2'.out k3)
        clear k3 hds
        rw [AT.lim_bad (.inr (by omega))] at ho ⊢
        go_wp2
        go_ret
        exact ⟨rfl, HB3.out⟩
      · by_cases hlow : a1 < -1048576
        · -- too far out, below
          go_enter Try.func9, Try.ntmps9
          go_wp2_with fail
          refine (sane_any _).mono ?_
          rintro e w1 ⟨rfl, k1⟩
          obtain ⟨w2, hmk, hblk, k2⟩ := make_dr w1 n (by omega)
          have HM2 := Lib.hid hblk
          have HB2 := Lib.hid (bnext k1 k2)
          have hsz2 : w1.heap.size < w2.heap.size := (Array.getElem?_eq_some_iff.1 hblk).1
          have HB1 := Lib.hid k1
          clear k1 k2 hblk
          rw [HNM.out] at HM2
          have hx : w2.cell? ⟨w1.heap.size, m * 6 + 5, none⟩ = some (.int .i64 0) := two_at HM2.out (made_at (m + 1) m 5 (by omega) (by omega))
          have hf : w2.frozen? ⟨w1.heap.size, m * 6 + 5, none⟩ = false := by simp [World.frozen?, HM2.out]
          go_upto_region 6 with fail
          clear hmk hx hf
          have hds := lim_ds a1 HM2.out
          rw [← HNM.out] at hds
          have HB2' := Lib.hid (bset HB2.out (p := ⟨w1.heap.size, m * 6 + 5, none⟩) HB1.out.size (.int .i64 a1))
          obtain ⟨W3, hW3⟩ : ∃ W3, w2.setCell ⟨w1.heap.size, m * 6 + 5, none⟩ (.int .i64 a1) = W3 := ⟨_, rfl⟩
          rw [hW3] at hds HB2' ⊢
          clear hW3
          go_wp2_with fail
          refine (places_any (AT.limD m a1) _ W3 (by rw [AT.limD_len]; omega) (fun d hd => by rw [(AT.limD_mem hd).1]; simp) hds).mono ?_
          rintro e w3 ⟨u, rfl, ho, k3⟩
          obtain ⟨ua, uc, rfl⟩ := own_shape ho
          have HB3 := Lib.hid (bnext HB2'.out k3)
          clear k3 hds
          rw [AT.lim_bad (.inr (by omega))] at ho ⊢
          go_wp2
          go_ret
          exact ⟨rfl, HB3.out⟩
        · -- all small
          go_enter Try.func9, Try.ntmps9
          go_wp2_with fail
          refine (sane_any _).mono ?_
          rintro e w1 ⟨rfl, k1⟩
          obtain ⟨w2, hmk, hblk, k2⟩ := make_dr w1 n (by omega)
          have HM2 := Lib.hid hblk
          have HB2 := Lib.hid (bnext k1 k2)
          have hsz2 : w1.heap.size < w2.heap.size := (Array.getElem?_eq_some_iff.1 hblk).1
          have HB1 := Lib.hid k1
          clear k1 k2 hblk
          rw [HNM.out] at HM2
          have hx : w2.cell? ⟨w1.heap.size, m * 6 + 5, none⟩ = some (.int .i64 0) := two_at HM2.out (made_at (m + 1) m 5 (by omega) (by omega))
          have hf : w2.frozen? ⟨w1.heap.size, m * 6 + 5, none⟩ = false := by simp [World.frozen?, HM2.out]
          go_upto_region 6 with fail
          clear hmk hx hf
          have hds := lim_ds a1 HM2.out
          rw [← HNM.out] at hds
          have HB2' := Lib.hid (bset HB2.out (p := ⟨w1.heap.size, m * 6 + 5, none⟩) HB1.out.size (.int .i64 a1))
          obtain ⟨W3, hW3⟩ : ∃ W3, w2.setCell ⟨w1.heap.size, m * 6 + 5, none⟩ (.int .i64 a1) = W3 := ⟨_, rfl⟩
          rw [hW3] at hds HB2' ⊢
          clear hW3
          go_wp2_with fail
          refine (places_any (AT.limD m a1) _ W3 (by rw [AT.limD_len]; omega) (fun d hd => by rw [(AT.limD_mem hd).1]; simp) hds).mono ?_
          rintro e w3 ⟨u, rfl, ho, k3⟩
          obtain ⟨ua, uc, rfl⟩ := own_shape ho
          have HB3 := Lib.hid (bnext HB2'.out k3)
          clear k3 hds
          have hgd := AT.lim_good (m := m) (a := a1) (by have := HNM.out; omega) ⟨by omega, by omega⟩
          rw [← HNM.out] at hgd
          rw [hgd] at ho ⊢
          clear hgd
          have hlr : (List.replicate n ((0 : Int), (0 : Int))).length = n := List.length_replicate
          have HP := Lib.hid (own_pt rfl ho)
          rw [hlr] at ho ⊢
          have HLR := Lib.hid hlr
          obtain ⟨pa, pc, e1, hcl⟩ := HP.out
          rw [hlr] at e1
          injection e1 with e1 e2 e3
          subst e1 e3
          rcases hcl with h | ⟨g, o, rfl, hg, hcl⟩
          · have hz : n = 0 := by simpa using h
            omega
          have hcl' : ∀ j, j < n → w3.cell? ⟨g, o + j * 2, none⟩ = some (.int .i64 0) ∧ w3.cell? ⟨g, o + j * 2 + 1, none⟩ = some (.int .i64 0) := fun j hj => hcl j (0, 0) (by rw [List.getElem?_replicate, if_pos hj])
          have HCL := Lib.hid hcl'
          clear hcl hcl' ho hlr
          go_wp2_with fail
          go_loopw [49] (fun v wr => ∃ k : Nat, v = .int .i64 (k : Int) ∧ k ≤ n ∧ Below w3.heap.size w3 wr) (fun v _ => n - (intOf v).toNat)
          case atStart => exact ⟨0, rfl, by omega, Below.refl _ _⟩
          case round =>
            obtain ⟨k, rfl, hk, hb⟩ := hrel
            have HBR := Lib.hid hb
            by_cases hin : k < n
            · have hii : (k : Int) < (n : Int) := by omega
              have hi0 : (0 : Int) ≤ (k : Int) := by omega
              obtain ⟨c0, c1⟩ := HCL.out k hin
              replace c0 := (hb.cell (p := ⟨g, o + k * 2, none⟩) hg).trans c0
              replace c1 := (hb.cell (p := ⟨g, o + k * 2 + 1, none⟩) hg).trans c1
              have hneq := fun V => neq_two V 0 0 0 0
              simp only [beq_self_eq_true, Bool.and_self, Bool.not_true] at hneq
              clear hb
              go_wp2_with fail
              go_roundw
              case rel => exact ⟨k + 1, by go_num, by omega, by first | exact balloc HBR.out _ | exact (balloc HBR.out _).drew | exact below_drewN (balloc HBR.out _) _⟩
              case measure => simp [intOf]; omega
            · obtain rfl : k = n := by omega
              clear hb
              go_wp2
              go_ret
              exact ⟨rfl, bnext HB3.out HBR.out⟩

set_option maxRecDepth 100000 in
theorem lifted (os : Os) (started : os.Started) (H : Type) (enc : TypeId × Value → H) :
    ReturnsInHanded {} Try.checked os 9 .any (Rows.attachLimitsSpec.pre6 enc Try.prog Try.f9 Rows.attachLimitsRow.domain false) (Rows.attachLimitsSpec.post enc Try.prog Try.f9 false true false false) := by
  refine returnsInHanded_of_change (C := Try.checked) own started (by kernel_rfl) Try.func9
    (ChangeSpec.witness6 (enc := enc) (C := Try.checked) false ⟨#[], #[.int .u8 0, .int .i64 0], []⟩ 8 (by kernel_rfl) (by kernel_rfl) (by kernel_rfl) (by kernel_rfl)) ?_
  intro W base args ds gs before hval0 hW hcnd _
  have hval : ∀ (j : Nat) t v, Try.f9.params[j]? = some t → args[j]? = some v → Value.okWide Try.prog W .any base t v := hval0
  have hW' := hW
  obtain ⟨p, q, hA0, hV, rfl, hfz, hnd⟩ := hW
  have hA : DataW.TrodAll enc Try.prog W 0 (fun _ => true) true Try.f9.params.toList args.toList ds p := hA0
  rw [Try.params9] at hA hval
  obtain ⟨v0, vs0, d0, ds0, p0, q0, hargs, rfl, rfl, h0, r0⟩ := trodAll_cons hA
  obtain ⟨v1, vs1, d1, ds1, p1, q1, rfl, rfl, rfl, h1, r1⟩ := trodAll_cons r0
  obtain ⟨rfl, rfl, rfl⟩ := trodAll_nil r1
  obtain rfl : args = #[v0, v1] := by cases args; simp_all
  obtain ⟨rfl, rfl⟩ := trodVars_none hV
  have k0 := h0
  have lt0 : ∀ x ∈ p0, x.block < W.heap.size := by obtain ⟨m, hm⟩ := k0; exact DataW.trod_lt m _ _ _ hm
  have k1 := h1
  have lt1 : ∀ x ∈ p1, x.block < W.heap.size := by obtain ⟨m, hm⟩ := k1; exact DataW.trod_lt m _ _ _ hm
  obtain ⟨a0, rfl, rfl, rfl, wa0⟩ := open_int Try.underlying5 (hval 0 5 v0 rfl rfl) h0
  obtain ⟨a1, rfl, rfl, rfl, wa1⟩ := open_int Try.underlying3 (hval 1 3 v1 rfl rfl) h1
  clear hA0 hval0
  refine (walk a0 a1 wa0 wa1 W).mono fun e W' ⟨he, bel⟩ => ?_
  subst he
  exact ⟨_, rfl, _, _, _, [], _, [], hW', trodAll_mk1 (shut_bool Try.underlying4 _), (trodAll_cons_mk (Below.trod laidOut (by kernel_rfl) (of_decide_eq_true (by kernel_rfl)) k0 bel lt0) (trodAll_cons_mk (Below.trod laidOut (by kernel_rfl) (of_decide_eq_true (by kernel_rfl)) k1 bel lt1) trodAll_mk0)), rfl, bel.frame _, fun h => by cases h⟩

theorem over : Rows.attachLimitsRow.holds Try.pinned (OpenSpec.ofChange Rows.attachLimitsSpec) :=
  OpenClaim.holds_of_wide 9 Try.f9 rfl rfl rfl rfl rfl rfl rfl ⟨rfl, rfl, rfl, rfl, rfl⟩ rfl rfl rfl rfl rfl (by kernel_rfl) Try.func9 (by kernel_rfl)
    (of_decide_eq_true (by kernel_rfl)) (by unfold Func.isWrapper; first | (rw [if_pos (by decide +kernel)]; kernel_rfl) | (rw [if_neg (by decide +kernel)]; exact ⟨rfl, rfl⟩))
    (fun os started H enc _ => lifted os started H enc)

end Go.Proofs.Ytpmmincophaaiaa.attachLimits
namespace Go.Proofs.Ytpmmincophaaiaa
theorem attachLimits_proved : Rows.AttachLimitsSaid := attachLimits.over
#print axioms attachLimits_proved
end Go.Proofs.Ytpmmincophaaiaa
