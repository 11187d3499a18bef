/- For every list of strings and every index DigestRoots returns true: roots and proofs are those of the reference. No conditions. -/
import Derived.Test.YtfikbcgadpbblaaDigLaw0
import Derived.ChangeMaps5
namespace Go.Proofs.Ytfikbcgadpbblaa.digestRoots
open Go.ChangeShapes Go.WideShapes Go.ChangeAt Go.RowKit Go.Joins Go.Deep Go.ChangeMaps
set_option linter.unusedVariables false

/-- The two proofs, and that they are the same. -/
theorem proofs_c {M l : List ByteArray} {h n m : Nat} {i : Int} {a : Option Addr} {c : Nat} {w : World} (hn : M.length = n) (hl : DG.proof M h i = l) (hm : l.length = m) (hr : RowAt w (.slice a n c) (M.map Value.string)) (hL : M.length ≤ 1000000) (hs : ∀ s ∈ M, s.size < 2147483648) (hh : DG.IsH M.length h) :
    Calls Try.prog 19 #[.slice a n c, .int .i64 i] w fun e W' => ∃ pa pc, e = .returned (.slice pa m pc) ∧ RowAt W' (.slice pa m pc) (l.map Value.string) ∧ Below w.heap.size w W' := by
  subst hn hl hm
  refine (proof_any M a c h i w hr hL hs hh).mono fun e W' ⟨v, he, hv, hb⟩ => ?_
  obtain ⟨pa, pc, rfl⟩ := own_shape hv
  exact ⟨pa, pc, he, row_own hv (by rw [List.length_map]), hb⟩
theorem rproofs_c {M l : List ByteArray} {h n m : Nat} {i : Int} {a : Option Addr} {c : Nat} {w : World} (hn : M.length = n) (hl : DG.proof M h i = l) (hm : l.length = m) (hr : Src w (.slice a n c) (M.map Value.string)) (hL : M.length ≤ 1000000) (hs : ∀ s ∈ M, s.size < 2147483648) (hh : DG.IsH M.length h) :
    Calls Try.prog 20 #[.slice a n c, .int .i64 i] w fun e W' => ∃ pa pc, e = .returned (.slice pa m pc) ∧ RowAt W' (.slice pa m pc) (l.map Value.string) ∧ Below w.heap.size w W' := by
  subst hn hl hm
  refine (rproof_any a c M h i w hr hL hs hh).mono fun e W' ⟨v, he, hv, hb⟩ => ?_
  obtain ⟨pa, pc, rfl⟩ := own_shape hv
  exact ⟨pa, pc, he, row_own hv (by rw [List.length_map]), hb⟩
theorem proof_short {M : List ByteArray} {h : Nat} {i : Int} (h20 : h ≤ 20) : (DG.proof M h i).length ≤ 20 := by
  unfold DG.proof
  split
  · rw [DG.prf_len]; exact h20
  · simp
theorem rroot_c {L : List ByteArray} {h n : Nat} {z : ByteArray} {a : Option Addr} {c : Nat} {w : World} (hn : L.length = n) (hz : DG.root L h = z) (hr : Src w (.slice a n c) (L.map Value.string)) (hL : L.length ≤ 1000000) (hs : ∀ s ∈ L, s.size < 2147483648) (hh : DG.IsH L.length h) :
    Calls Try.prog 22 #[.slice a n c] w fun e W' => e = .returned (.string z) ∧ Below w.heap.size w W' := by
  subst hn hz; exact rroot_any a c L h w hr hL hs hh
set_option maxRecDepth 100000 in
set_option maxHeartbeats 8000000 in
theorem walk (v0 : Value) (a0 : List ByteArray) (a1 : Int) (wa1 : (Lit.int .i64 a1).wf = true) (w : World) (H0 : RowAt w v0 (a0.map Value.string)) (L0 : a0.length ≤ maxLen ∧ ∀ a n c, v0 = .slice a n c → n ≤ c) (E0 : ∀ x, x ∈ a0 → x.size ≤ maxLen) :
    Calls Try.prog 4 #[v0, .int .i64 a1] w fun e w' => e = .returned (.bool true) ∧ Below w.heap.size w w' := by
  obtain ⟨M, hM⟩ : ∃ M, DG.few a0 20 = M := ⟨_, rfl⟩
  have hMs : ∀ s ∈ M, s.size < 2147483648 := by rw [← hM]; exact few_small _ _
  have hMl : M.length ≤ 20 := by rw [← hM]; exact DG.few_len _ _
  obtain ⟨h, hh⟩ := DG.exists_h M.length
  have h20 := hh.le20 (by omega)
  have HF := Lib.hid (fun W hW => few_c (w := W) hM (H0.keep hW) E0 L0.1)
  obtain ⟨n, hn⟩ : ∃ n, M.length = n := ⟨_, rfl⟩
  have HN := Lib.hid hn
  have HH := Lib.hid hh
  have HMS := Lib.hid hMs
  rw [hn] at HF hMl
  have acc : Below w.heap.size w w := Below.refl _ _
  obtain ⟨R, hR⟩ : ∃ R, DG.root M h = R := ⟨_, rfl⟩
  have HRT := Lib.hid hR
  obtain ⟨y0, y1⟩ := bd64 wa1
  clear hR wa1
  clear hM hMs hh hn H0 L0 E0
  go_enter Try.func4, Try.ntmps4
  go_wp2_with fail
  refine (sane_any _).mono ?_
  rintro e w1 ⟨rfl, k1⟩
  replace acc := bnext acc k1
  clear k1
  go_wp2_with fail
  refine (HF.out _ acc).mono ?_
  rintro e w2 ⟨v, rfl, hv, k2⟩
  replace acc := bnext acc k2
  obtain ⟨va, vc, rfl⟩ := own_shape hv
  have hrow := row_own hv (by rw [List.length_map, HN.out])
  have hsrc := own_src hv (by rw [List.length_map, HN.out])
  have HR := Lib.hid hrow
  have HSRC := Lib.hid hsrc
  clear hv k2 hrow hsrc HF
  go_wp2
  go_loopw [6] (fun v6 wr => ∃ k : Int, v6 = .int .i64 k ∧ -1 ≤ k ∧ k ≤ (n : Int) + 1 ∧ Below w2.heap.size w2 wr) (fun v _ => (((n : Int) + 1 - intOf v)).toNat)
  case atStart => exact ⟨-1, rfl, by omega, by omega, Below.refl _ _⟩
  case round =>
    obtain ⟨k, rfl, hk1, hk2, hb⟩ := hrel
    have HB := Lib.hid hb
    clear hb
    by_cases hkn : k ≤ (n : Int)
    · obtain ⟨l, hl⟩ : ∃ l, DG.proof M h k = l := ⟨_, rfl⟩
      obtain ⟨m, hm⟩ : ∃ m, l.length = m := ⟨_, rfl⟩
      have hm20 : m ≤ 20 := by rw [← hm, ← hl]; exact proof_short h20
      have HL := Lib.hid hl
      have HLM := Lib.hid hm
      clear hl hm
      go_wp2_with fail
      refine (proofs_c HN.out HL.out HLM.out (HR.out.keep HB.out) (by rw [HN.out]; omega) HMS.out HH.out).mono ?_
      rintro e w3 ⟨pa, pc, rfl, hp, k3⟩
      have HB3 := Lib.hid (bnext HB.out k3)
      have HP := Lib.hid hp
      clear hp k3
      go_wp2_with fail
      refine (rproofs_c HN.out HL.out HLM.out (HSRC.out.keep HB3.out) (by rw [HN.out]; omega) HMS.out HH.out).mono ?_
      rintro e w4 ⟨qa, qc, rfl, hq, k4⟩
      have HB4 := Lib.hid (bnext HB3.out k4)
      have HP4 := Lib.hid (HP.out.keep k4)
      have HQ := Lib.hid hq
      clear hq k4
      go_wp2_with fail
      refine (same_c rfl HLM.out HLM.out HP4.out HQ.out (by rw [HLM.out]; unfold maxLen; omega)).mono ?_
      rintro e w5 ⟨rfl, k5⟩
      have HB5 := Lib.hid (bnext HB4.out k5)
      clear k5
      go_wp2
      go_roundw
      case rel => exact ⟨k + 1, rfl, by omega, by omega, HB5.out⟩
      case measure => simp [intOf]; omega
    · go_wp2_with fail
      refine (root_c HN.out HRT.out (HR.out.keep HB.out) (by rw [HN.out]; omega) HMS.out HH.out).mono ?_
      rintro e w6 ⟨rfl, k6⟩
      replace HB := Lib.hid (bnext HB.out k6)
      clear k6
      go_wp2_with fail
      refine (rroot_c HN.out HRT.out (HSRC.out.keep HB.out) (by rw [HN.out]; omega) HMS.out HH.out).mono ?_
      rintro e w7 ⟨rfl, k7⟩
      replace HB := Lib.hid (bnext HB.out k7)
      clear k7
      obtain ⟨l, hl⟩ : ∃ l, DG.proof M h a1 = l := ⟨_, rfl⟩
      obtain ⟨m, hm⟩ : ∃ m, l.length = m := ⟨_, rfl⟩
      have hm20 : m ≤ 20 := by rw [← hm, ← hl]; exact proof_short h20
      have HL := Lib.hid hl
      have HLM := Lib.hid hm
      clear hl hm
      go_wp2_with fail
      refine (proofs_c HN.out HL.out HLM.out (HR.out.keep HB.out) (by rw [HN.out]; omega) HMS.out HH.out).mono ?_
      rintro e w3 ⟨pa, pc, rfl, hp, k3⟩
      have HB3 := Lib.hid (bnext HB.out k3)
      have HP := Lib.hid hp
      clear hp k3
      go_wp2_with fail
      refine (rproofs_c HN.out HL.out HLM.out (HSRC.out.keep HB3.out) (by rw [HN.out]; omega) HMS.out HH.out).mono ?_
      rintro e w4 ⟨qa, qc, rfl, hq, k4⟩
      have HB4 := Lib.hid (bnext HB3.out k4)
      have HP4 := Lib.hid (HP.out.keep k4)
      have HQ := Lib.hid hq
      clear hq k4
      go_wp2_with fail
      refine (same_c rfl HLM.out HLM.out HP4.out HQ.out (by rw [HLM.out]; unfold maxLen; omega)).mono ?_
      rintro e w5 ⟨rfl, k5⟩
      have HB5 := Lib.hid (bnext HB4.out k5)
      clear k5
      go_wp2
      go_ret
      exact ⟨rfl, bnext acc HB5.out⟩

set_option maxRecDepth 100000 in
theorem lifted (os : Os) (started : os.Started) (H : Type) (enc : TypeId × Value → H) :
    ReturnsInHanded {} Try.checked os 4 .any (Rows.digestRootsSpec.pre6 enc Try.prog Try.f4 Rows.digestRootsRow.domain false) (Rows.digestRootsSpec.post enc Try.prog Try.f4 false true false false) := by
  refine returnsInHanded_of_change (C := Try.checked) own started (by kernel_rfl) Try.func4
    (ChangeSpec.witness6 (enc := enc) (C := Try.checked) false ⟨#[], #[.slice none 0 0, .int .i64 0], []⟩ 8 (by kernel_rfl) (by kernel_rfl) (by kernel_rfl) (by kernel_rfl)) ?_
  intro W base args ds gs before hval0 hW hcnd _
  have hval : ∀ (j : Nat) t v, Try.f4.params[j]? = some t → args[j]? = some v → Value.okWide Try.prog W .any base t v := hval0
  have hW' := hW
  obtain ⟨p, q, hA0, hV, rfl, hfz, hnd⟩ := hW
  have hA : DataW.TrodAll enc Try.prog W 0 (fun _ => true) true Try.f4.params.toList args.toList ds p := hA0
  rw [Try.params4] at hA hval
  obtain ⟨v0, vs0, d0, ds0, p0, q0, hargs, rfl, rfl, h0, r0⟩ := trodAll_cons hA
  obtain ⟨v1, vs1, d1, ds1, p1, q1, rfl, rfl, rfl, h1, r1⟩ := trodAll_cons r0
  obtain ⟨rfl, rfl, rfl⟩ := trodAll_nil r1
  obtain rfl : args = #[v0, v1] := by cases args; simp_all
  obtain ⟨rfl, rfl⟩ := trodVars_none hV
  have k0 := h0
  have lt0 : ∀ x ∈ p0, x.block < W.heap.size := by obtain ⟨m, hm⟩ := k0; exact DataW.trod_lt m _ _ _ hm
  have k1 := h1
  have lt1 : ∀ x ∈ p1, x.block < W.heap.size := by obtain ⟨m, hm⟩ := k1; exact DataW.trod_lt m _ _ _ hm
  obtain ⟨a0, H0, L0, E0⟩ := open_ts (hval 0 26 v0 rfl rfl) h0
  obtain ⟨a1, rfl, rfl, rfl, wa1⟩ := open_int Try.underlying3 (hval 1 3 v1 rfl rfl) h1
  clear hA0 hval0
  refine (walk v0 a0 a1 wa1 W H0 L0 E0).mono fun e W' ⟨he, bel⟩ => ?_
  subst he
  exact ⟨_, rfl, _, _, _, [], _, [], hW', trodAll_mk1 (shut_bool Try.underlying4 _), (trodAll_cons_mk (Below.trod laidOut (by kernel_rfl) (of_decide_eq_true (by kernel_rfl)) k0 bel lt0) (trodAll_cons_mk (Below.trod laidOut (by kernel_rfl) (of_decide_eq_true (by kernel_rfl)) k1 bel lt1) trodAll_mk0)), rfl, bel.frame _, fun h => by cases h⟩

theorem over : Rows.digestRootsRow.holds Try.pinned (OpenSpec.ofChange Rows.digestRootsSpec) :=
  OpenClaim.holds_of_wide 4 Try.f4 rfl rfl rfl rfl rfl rfl rfl ⟨rfl, rfl, rfl, rfl, rfl⟩ rfl rfl rfl rfl rfl (by kernel_rfl) Try.func4 (by kernel_rfl)
    (of_decide_eq_true (by kernel_rfl)) (by unfold Func.isWrapper; first | (rw [if_pos (by decide +kernel)]; kernel_rfl) | (rw [if_neg (by decide +kernel)]; exact ⟨rfl, rfl⟩))
    (fun os started H enc _ => lifted os started H enc)

end Go.Proofs.Ytfikbcgadpbblaa.digestRoots
namespace Go.Proofs.Ytfikbcgadpbblaa
theorem digestRoots_proved : Rows.DigestRootsSaid := digestRoots.over
#print axioms digestRoots_proved
end Go.Proofs.Ytfikbcgadpbblaa
