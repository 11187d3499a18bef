/- For every list of lists of numbers AttachPens returns true: glyphs that are no marks stand behind one another, as far apart as their advances say. No conditions. -/
import Derived.Test.YtpmmincophaaiaaAttFacts
namespace Go.Proofs.Ytpmmincophaaiaa.attachPens
open Go.ChangeShapes Go.WideShapes Go.ChangeAt Go.RowKit Go.Joins Go.Deep
set_option linter.unusedVariables false

set_option maxRecDepth 100000 in
set_option maxHeartbeats 4000000 in
theorem walk (v0 : Value) (a0 : List (List Int))  (w : World) (H0 : LLAt w v0 a0) (L0 : a0.length ≤ maxLen ∧ ∀ a n c, v0 = .slice a n c → n ≤ c) :
    Calls Try.prog 6 #[v0] w fun e w' => e = .returned (.bool true) ∧ Below w.heap.size w w' := by
  have HM : Hid (∀ V, Below w.heap.size w V → LLAt V v0 a0) := Lib.hid fun V hV => H0.keep hV
  obtain ⟨va, vc, hv0⟩ : ∃ va vc, v0 = .slice va a0.length vc := by obtain ⟨va, vc, e, -⟩ := H0; exact ⟨va, vc, e⟩
  subst hv0
  have L0' := L0.1
  clear H0 L0
  go_enter Try.func6, Try.ntmps6
  go_wp2_with fail
  refine (sane_any _).mono ?_
  rintro e w1 ⟨rfl, k1⟩
  have HB1 := Lib.hid k1
  clear k1
  go_wp2_with fail
  refine (made_c a0 _ _ (HM.out _ HB1.out) L0').mono ?_
  rintro e w2 ⟨da, dc, rfl, hds, k2⟩
  have HA := Lib.hid (AT.made_anch a0)
  have HR := Lib.hid (AT.made_right a0)
  have hdl := AT.made_len a0
  have HPL := Lib.hid (AT.made_places a0)
  obtain ⟨D, hD⟩ : ∃ D, AT.made a0 = D := ⟨_, rfl⟩
  rw [hD] at hds hdl HA HR HPL ⊢
  have HDD := Lib.hid hD
  have HDS := Lib.hid hds
  have HB2 := Lib.hid (bnext HB1.out k2)
  clear k2 hds hD
  go_wp2_with fail
  refine (mplaces_c D _ _ (by omega) HA.out HDS.out).mono ?_
  rintro e w3 ⟨pa, pc, rfl, hp, k3⟩
  have hpl : (AT.places D).length = D.length := by rw [HPL.out]; exact AT.go_len D D.length (Nat.le_refl _)
  obtain ⟨n, hn⟩ : ∃ n, D.length = n := ⟨_, rfl⟩
  have HN := Lib.hid hn
  have HPV : Hid (∀ k p, (AT.places D)[k]? = some p → (AT.go D (k + 1)).1[k]? = some p) := Lib.hid (fun k p h => AT.go_pre h)
  rw [hpl, hn] at hp ⊢
  rw [hn] at hdl HDS
  have HP := Lib.hid hp
  have HDS3 := Lib.hid (HDS.out.keep k3)
  have HB3 := Lib.hid (bnext HB2.out k3)
  have HPLEN := Lib.hid hpl
  clear k3 hp hpl hn
  go_wp2_with fail
  go_loopw [6, 21] (fun v6 v21 wr => ∃ k : Nat, v21 = .int .i64 (k : Int) ∧ v6 = .int .i64 (AT.go D k).2 ∧ k ≤ n ∧ Below w3.heap.size w3 wr) (fun _ v _ => n - (intOf v).toNat)
  case atStart => exact ⟨0, rfl, rfl, Nat.zero_le _, Below.refl _ _⟩
  case round =>
    obtain ⟨k, rfl, rfl, hk, hb⟩ := hrel
    have HBR := Lib.hid hb
    by_cases hin : k < n
    · have hii : (k : Int) < (n : Int) := by omega
      have hi0 : (0 : Int) ≤ (k : Int) := by omega
      obtain ⟨d, hd⟩ : ∃ d, D[k]? = some d := ⟨D[k]'(by rw [HN.out]; exact hin), List.getElem?_eq_getElem _⟩
      obtain ⟨ad, cd, e1, hcw⟩ := HDS3.out.keep hb
      rw [HN.out] at e1
      injection e1 with e1 e2 e3
      subst e1 e3
      rcases hcw with h | ⟨g, o, rfl, hg, hcl⟩
      · rw [h] at hd
        simp at hd
      obtain ⟨ca, cn, cc, vv, ha, c0, c1, c2, c3, c4, c5⟩ := hcl k d hd
      obtain ⟨aa, ac, rfl, hal⟩ := ha
      obtain ⟨p, hp⟩ : ∃ p, (AT.places D)[k]? = some p := ⟨(AT.places D)[k]'(by rw [HPLEN.out, HN.out]; exact hin), List.getElem?_eq_getElem _⟩
      obtain ⟨aq, cq, e1, hcq⟩ := HP.out.keep hb
      rw [HPLEN.out, HN.out] at e1
      injection e1 with e1 e2 e3
      subst e1 e3
      rcases hcq with h | ⟨g2, o2, rfl, hg2, hcl2⟩
      · rw [h] at hp
        simp at hp
      obtain ⟨q0, q1⟩ := hcl2 k p hp
      have hgo := AT.go_succ hd
      have hbd := AT.go_bd (l := D) k (by rw [HN.out]; omega) (fun j e _ he => by
        have := HR.out
        rw [List.all_eq_true] at this
        exact this e (List.mem_of_getElem? he))
      have hrt := AT.right_parts (show AT.right d = true by
        have := HR.out
        rw [List.all_eq_true] at this
        exact this d (List.mem_of_getElem? hd))
      have hpv := HPV.out k p hp
      obtain ⟨hpb, -⟩ := hbd
      obtain ⟨hav, -⟩ := hrt
      unfold AT.In at hpb
      have hlenk := AT.go_len D k (by rw [HN.out]; omega)
      rw [hgo] at hpv
      simp only at hpv
      rw [List.getElem?_append_right (by omega), hlenk, Nat.sub_self] at hpv
      have hps : p = AT.step D (AT.go D k).1 (AT.go D k).2 k d := by simpa using hpv.symm
      have hgo2 := congrArg Prod.snd hgo
      simp only at hgo2
      obtain ⟨pen, hpen⟩ : ∃ pen, (AT.go D k).2 = pen := ⟨_, rfl⟩
      rw [hpen] at hps hpb hgo2 ⊢
      have HG2 := Lib.hid hgo2
      have HPS := Lib.hid hps
      clear hcl hcl2 hal hd hp hb hgo hpv hlenk hps hpen hgo2
      by_cases hc0 : d.hang.1 = 0
      · have hq0 : (d.hang.1 == 0) = true := by simpa using hc0
        have hpp : p = (pen, 0) := by rw [HPS.out]; exact AT.step_zero hc0
        subst hpp
        have HPN : Hid ((AT.go D (k + 1)).2 = pen + d.adv) := Lib.hid (by rw [HG2.out]; exact if_pos hc0)
        have hneq := fun V => neq_two V pen 0 pen 0
        simp only [beq_self_eq_true, Bool.and_self, Bool.not_true] at hneq
        simp only at q0 q1
        clear hc0
        go_wp2_with fail
        go_roundw
        case rel => exact ⟨k + 1, by go_num, by rw [HPN.out], hin, by first | exact balloc HBR.out _ | exact (balloc HBR.out _).drew | exact below_drewN (balloc HBR.out _) _⟩
        case measure => simp [intOf]; omega
      · have hq0 : (d.hang.1 == 0) = false := by simpa using hc0
        have HPN : Hid ((AT.go D (k + 1)).2 = pen) := Lib.hid (by rw [HG2.out]; exact if_neg hc0)
        clear hc0
        go_wp2_with fail
        go_roundw
        case rel => exact ⟨k + 1, by go_num, by rw [HPN.out], hin, by first | exact balloc HBR.out _ | exact (balloc HBR.out _).drew | exact below_drewN (balloc HBR.out _) _⟩
        case measure => simp [intOf]; omega
    · obtain rfl : k = n := by omega
      clear hb
      go_wp2
      go_ret
      exact ⟨rfl, bnext HB3.out HBR.out⟩

set_option maxRecDepth 100000 in
theorem lifted (os : Os) (started : os.Started) (H : Type) (enc : TypeId × Value → H) :
    ReturnsInHanded {} Try.checked os 6 .any (Rows.attachPensSpec.pre6 enc Try.prog Try.f6 Rows.attachPensRow.domain false) (Rows.attachPensSpec.post enc Try.prog Try.f6 false true false false) := by
  refine returnsInHanded_of_change (C := Try.checked) own started (by kernel_rfl) Try.func6
    (ChangeSpec.witness6 (enc := enc) (C := Try.checked) false ⟨#[], #[.slice none 0 0], []⟩ 8 (by kernel_rfl) (by kernel_rfl) (by kernel_rfl) (by kernel_rfl)) ?_
  intro W base args ds gs before hval0 hW hcnd _
  have hval : ∀ (j : Nat) t v, Try.f6.params[j]? = some t → args[j]? = some v → Value.okWide Try.prog W .any base t v := hval0
  have hW' := hW
  obtain ⟨p, q, hA0, hV, rfl, hfz, hnd⟩ := hW
  have hA : DataW.TrodAll enc Try.prog W 0 (fun _ => true) true Try.f6.params.toList args.toList ds p := hA0
  rw [Try.params6] at hA hval
  obtain ⟨v0, vs0, d0, ds0, p0, q0, hargs, rfl, rfl, h0, r0⟩ := trodAll_cons hA
  obtain ⟨rfl, rfl, rfl⟩ := trodAll_nil r0
  obtain rfl : args = #[v0] := by cases args; simp_all
  obtain ⟨rfl, rfl⟩ := trodVars_none hV
  have k0 := h0
  have lt0 : ∀ x ∈ p0, x.block < W.heap.size := by obtain ⟨m, hm⟩ := k0; exact DataW.trod_lt m _ _ _ hm
  obtain ⟨a0, H0, L0⟩ := open_lll (hval 0 22 v0 rfl rfl) h0
  clear hA0 hval0
  refine (walk v0 a0  W H0 L0).mono fun e W' ⟨he, bel⟩ => ?_
  subst he
  exact ⟨_, rfl, _, _, _, [], _, [], hW', trodAll_mk1 (shut_bool Try.underlying4 _), (trodAll_cons_mk (Below.trod laidOut (by kernel_rfl) (of_decide_eq_true (by kernel_rfl)) k0 bel lt0) trodAll_mk0), rfl, bel.frame _, fun h => by cases h⟩

theorem over : Rows.attachPensRow.holds Try.pinned (OpenSpec.ofChange Rows.attachPensSpec) :=
  OpenClaim.holds_of_wide 6 Try.f6 rfl rfl rfl rfl rfl rfl rfl ⟨rfl, rfl, rfl, rfl, rfl⟩ rfl rfl rfl rfl rfl (by kernel_rfl) Try.func6 (by kernel_rfl)
    (of_decide_eq_true (by kernel_rfl)) (by unfold Func.isWrapper; first | (rw [if_pos (by decide +kernel)]; kernel_rfl) | (rw [if_neg (by decide +kernel)]; exact ⟨rfl, rfl⟩))
    (fun os started H enc _ => lifted os started H enc)

end Go.Proofs.Ytpmmincophaaiaa.attachPens
namespace Go.Proofs.Ytpmmincophaaiaa
theorem attachPens_proved : Rows.AttachPensSaid := attachPens.over
#print axioms attachPens_proved
end Go.Proofs.Ytpmmincophaaiaa
