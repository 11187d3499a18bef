/- For every list of strings DigestFills returns true: empty strings behind a list do not change its root, as long as it is filled up to the same number. No conditions. -/
import Derived.Test.YtfikbcgadpbblaaDigLaw0
import Derived.Test.YtfikbcgadpbblaaDigFills0
import Derived.ChangeMaps5
namespace Go.Proofs.Ytfikbcgadpbblaa.digestFills
open Go.ChangeShapes Go.WideShapes Go.ChangeAt Go.RowKit Go.Joins Go.Deep Go.ChangeMaps
set_option linter.unusedVariables false

set_option maxRecDepth 100000 in
set_option maxHeartbeats 8000000 in
theorem walk (v0 : Value) (a0 : List ByteArray)  (w : World) (H0 : RowAt w v0 (a0.map Value.string)) (L0 : a0.length ≤ maxLen ∧ ∀ a n c, v0 = .slice a n c → n ≤ c) (E0 : ∀ x, x ∈ a0 → x.size ≤ maxLen) :
    Calls Try.prog 8 #[v0] w fun e w' => e = .returned (.bool true) ∧ Below w.heap.size w w' := by
  obtain ⟨M, hM⟩ : ∃ M, DG.few a0 20 = M := ⟨_, rfl⟩
  have hMs : ∀ s ∈ M, s.size < 2147483648 := by rw [← hM]; exact few_small _ _
  have hMl : M.length ≤ 20 := by rw [← hM]; exact DG.few_len _ _
  obtain ⟨h, hh⟩ := DG.exists_h M.length
  have h20 := hh.le20 (by omega)
  have HF := Lib.hid (fun W hW => few_c (w := W) hM (H0.keep hW) E0 L0.1)
  obtain ⟨n, hn⟩ : ∃ n, M.length = n := ⟨_, rfl⟩
  have HN := Lib.hid hn
  have HH := Lib.hid hh
  have HMS := Lib.hid hMs
  rw [hn] at HF hMl
  have acc : Below w.heap.size w w := Below.refl _ _
  obtain ⟨R, hR⟩ : ∃ R, DG.root M h = R := ⟨_, rfl⟩
  have HRT := Lib.hid hR
  clear hR
  obtain ⟨i0, hif, hz0, hz1, hz2⟩ := info_parts info_string
  clear hM hMs hh hn H0 L0 E0
  go_enter Try.func8, Try.ntmps8
  go_wp2_with fail
  refine (sane_any _).mono ?_
  rintro e w1 ⟨rfl, k1⟩
  replace acc := bnext acc k1
  clear k1
  go_wp2_with fail
  refine (HF.out _ acc).mono ?_
  rintro e w2 ⟨v, rfl, hv, k2⟩
  replace acc := bnext acc k2
  obtain ⟨va, vc, rfl⟩ := own_shape hv
  have hrow := row_own hv (by rw [List.length_map, HN.out])
  have hsrc := own_src hv (by rw [List.length_map, HN.out])
  have HR := Lib.hid hrow
  have HSRC := Lib.hid hsrc
  clear hv k2 hrow hsrc HF
  go_wp2
  go_loop [4] (fun v => ∃ j : Nat, v = .int .i64 ((2 ^ j : Nat) : Int) ∧ j ≤ h) (fun v => n - (intOf v).toNat)
  case atStart => exact ⟨0, rfl, Nat.zero_le _⟩
  case round =>
    obtain ⟨j, rfl, hj⟩ := hrel
    have hiff := HH.out.lt_iff hj
    rw [HN.out] at hiff
    have hle : 2 ^ j ≤ 1048576 := Nat.le_trans (Nat.pow_le_pow_right (by omega) (Nat.le_trans hj h20)) (by decide)
    have hdbl : 2 ^ (j + 1) = 2 * 2 ^ j := Nat.pow_succ'
    have hpos : 0 < 2 ^ j := Nat.two_pow_pos j
    by_cases hlt : 2 ^ j < n
    · have hjh := hiff.1 hlt
      obtain ⟨s, hs⟩ : ∃ s, 2 ^ j = s := ⟨_, rfl⟩
      have HSJ := Lib.hid hs
      have HD := Lib.hid hdbl
      rw [hs] at hle hlt hpos
      have hlti : (s : Int) < (n : Int) := by omega
      clear hdbl hiff
      simp only [hs]
      clear hs
      go_wp2
      go_round
      case rel => exact ⟨j + 1, by rw [HD.out, HSJ.out]; go_num, hjh⟩
      case measure => simp [intOf]; omega
    · obtain rfl : j = h := by omega
      have hnm : n ≤ 2 ^ j := by have := HH.out.1; rw [HN.out] at this; exact this
      obtain ⟨m, hm⟩ : ∃ m, 2 ^ j = m := ⟨_, rfl⟩
      rw [hm] at hle hlt hpos hnm
      simp only [hm]
      have HM := Lib.hid hm
      have hlti : ¬ (m : Int) < (n : Int) := by omega
      have hm40 : m ≤ 40 := by
        rw [← hm]
        by_cases hj0 : j = 0
        · subst hj0; decide
        · have h1 := HH.out.2 (j - 1) (by omega)
          rw [HN.out] at h1
          have h2 : 2 ^ j = 2 * 2 ^ (j - 1) := by rw [← Nat.pow_succ']; congr 1; omega
          omega
      clear hiff hdbl hm hlt hj
      have hone := strs_one M
      go_wp2_with (at_builtin; refine wpList_app _ rfl _ _ 26 rfl w2.heap.size 9 i0 (.string ⟨#[]⟩) 16 Try.underlying26 hif hz0 hz1 hz2 rfl _ _ _ rfl (own_lit w2 [] 9 w2.heap.size (Nat.le_refl _) (by simp)) _ (M.map Value.string) rfl (HSRC.out.keep (balloc (Below.refl _ _) _)) hone ?c1 ?c2 ?c3 ?_)
      case c1 => have := HN.out; (try unfold maxLen); (try simp only [List.length_map, List.length_nil]); omega
      case c2 => have := HN.out; (try simp only [List.length_map, List.length_nil]); omega
      try case c3 => exact (balloc (Below.refl _ _) _).size
      intro v6 w6 hown6 hgrow6 _
      have hb6 : Below w2.heap.size w2 w6 := ((Below.refl _ w2).alloc (Nat.le_refl _) _).grown hgrow6 (by simp) (fun k e => by cases e; simp)
      replace hown6 : w6.ownsRow w2.heap.size 9 1 v6 n (M.map Value.string) := by have := HN.out; subst this; simpa using hown6
      have HB6 := Lib.hid hb6
      have HO6 := Lib.hid hown6
      clear hgrow6 hb6 hown6 hone
      go_wp2
      go_loopw [5] (fun v5 wq => ∃ N, n ≤ N ∧ N ≤ m ∧ wq.ownsRow w2.heap.size 9 1 v5 N ((M ++ List.replicate (N - n) (⟨#[]⟩ : ByteArray)).map Value.string) ∧ Below w2.heap.size w2 wq) (fun v _ => m - lenOf v)
      case atStart => exact ⟨n, Nat.le_refl _, hnm, by simpa using HO6.out, HB6.out⟩
      case round =>
        clear HO6 HB6
        obtain ⟨N, hN1, hN2, hrow, hbq⟩ := hrel
        obtain ⟨qa, qc, rfl⟩ := own_shape hrow
        have HRQ := Lib.hid hrow
        have HBQ := Lib.hid hbq
        have hqs := hbq.size
        clear hrow hbq
        by_cases hN : N < m
        · have hNi : (N : Int) < (m : Int) := by omega
          have hlen : (M ++ List.replicate (N + 1 - n) (⟨#[]⟩ : ByteArray)).length = N + 1 := by rw [List.length_append, List.length_replicate, HN.out]; omega
          have hroot : DG.root (M ++ List.replicate (N + 1 - n) (⟨#[]⟩ : ByteArray)) j = R := by
            rw [← HRT.out]
            exact DG.root_fill HH.out (by rw [HN.out, HM.out]; omega)
          have hHH : DG.IsH (M ++ List.replicate (N + 1 - n) (⟨#[]⟩ : ByteArray)).length j := by
            rw [hlen]
            have h0 := HH.out
            rw [HN.out] at h0
            exact h0.more (by omega) (by rw [HM.out]; omega)
          have hMS : ∀ s ∈ M ++ List.replicate (N + 1 - n) (⟨#[]⟩ : ByteArray), s.size < 2147483648 := by
            intro s hs
            rcases List.mem_append.1 hs with hs | hs
            · exact HMS.out s hs
            · rw [(List.mem_replicate.1 hs).2]; decide
          have HROOT := Lib.hid (fun (W : World) (qa : Option Addr) (qc : Nat) (hr : RowAt W (.slice qa (N + 1) qc) ((M ++ List.replicate (N + 1 - n) (⟨#[]⟩ : ByteArray)).map Value.string)) => root_c (w := W) hlen hroot hr (by rw [hlen]; omega) hMS hHH)
          have HROOT2 := Lib.hid (fun (W : World) (hr : RowAt W (.slice va n vc) (M.map Value.string)) => root_c (w := W) HN.out HRT.out hr (by rw [HN.out]; omega) HMS.out HH.out)
          have hl1 : (M ++ List.replicate (N - n) (⟨#[]⟩ : ByteArray)) ++ [⟨#[]⟩] = M ++ List.replicate (N + 1 - n) ⟨#[]⟩ := by rw [show N + 1 - n = N - n + 1 by omega, List.replicate_succ', List.append_assoc]
          have HL1 := Lib.hid hl1
          have HLEN := Lib.hid hlen
          clear hlen hroot hHH hMS hl1
          go_wp2_with (at_builtin; refine wpList_app _ rfl _ _ 26 rfl w2.heap.size 9 i0 (.string ⟨#[]⟩) 16 Try.underlying26 hif hz0 hz1 hz2 rfl _ _ _ rfl (HRQ.out.alloc _) _ [.string ⟨#[]⟩] rfl (Src.one (World.cell?_alloc_at _ _ _ _ rfl)) (by simp [Value.oneCell']) ?d1 ?d2 ?d3 ?_)
          case d1 => (try unfold maxLen); (try simp only [List.length_cons, List.length_nil]); omega
          case d2 => (try simp only [List.length_cons, List.length_nil]); omega
          case d3 => simp; omega
          intro v7 w7 hown7 hgrow7 _
          have HB7 : Hid (Below w2.heap.size w2 w7) := Lib.hid ((HBQ.out.alloc hqs _).grown hgrow7 (by simp; omega) (fun k e => (HRQ.out.lt k e).1))
          replace hown7 : w7.ownsRow w2.heap.size 9 1 v7 (N + 1) ((M ++ List.replicate (N + 1 - n) (⟨#[]⟩ : ByteArray)).map Value.string) := by rw [← HL1.out]; simpa using hown7
          obtain ⟨g7, c7, rfl⟩ := ownsRow_succ hown7
          have HO7 := Lib.hid hown7
          clear hown7 hgrow7
          go_wp2_with fail
          refine (HROOT.out _ _ _ (row_own HO7.out (by rw [List.length_map, HLEN.out]))).mono ?_
          rintro e w8 ⟨rfl, k8⟩
          have HB8 := Lib.hid (bnext (Below.refl _ _) k8)
          have hrr := HR.out.keep (HB7.out)
          have hrr8 := hrr.keep k8
          clear hrr k8
          have HR8 := Lib.hid hrr8
          clear hrr8
          go_wp2_with fail
          refine (HROOT2.out _ HR8.out).mono ?_
          rintro e w9 ⟨rfl, k9⟩
          have HB9 := Lib.hid (bnext (bnext HB7.out HB8.out) k9)
          have HO9 := Lib.hid (own_kept (own_kept HO7.out HB8.out) k9)
          clear k9
          go_wp2
          go_roundw
          case rel => exact ⟨N + 1, by omega, by omega, HO9.out, HB9.out⟩
          case measure => simp [lenOf]; omega
        · obtain rfl : N = m := by omega
          have hNi : ¬ (N : Int) < (N : Int) := by omega
          go_wp2
          go_ret
          exact ⟨rfl, bnext acc HBQ.out⟩

set_option maxRecDepth 100000 in
theorem lifted (os : Os) (started : os.Started) (H : Type) (enc : TypeId × Value → H) :
    ReturnsInHanded {} Try.checked os 8 .any (Rows.digestFillsSpec.pre6 enc Try.prog Try.f8 Rows.digestFillsRow.domain false) (Rows.digestFillsSpec.post enc Try.prog Try.f8 false true false false) := by
  refine returnsInHanded_of_change (C := Try.checked) own started (by kernel_rfl) Try.func8
    (ChangeSpec.witness6 (enc := enc) (C := Try.checked) false ⟨#[], #[.slice none 0 0], []⟩ 8 (by kernel_rfl) (by kernel_rfl) (by kernel_rfl) (by kernel_rfl)) ?_
  intro W base args ds gs before hval0 hW hcnd _
  have hval : ∀ (j : Nat) t v, Try.f8.params[j]? = some t → args[j]? = some v → Value.okWide Try.prog W .any base t v := hval0
  have hW' := hW
  obtain ⟨p, q, hA0, hV, rfl, hfz, hnd⟩ := hW
  have hA : DataW.TrodAll enc Try.prog W 0 (fun _ => true) true Try.f8.params.toList args.toList ds p := hA0
  rw [Try.params8] at hA hval
  obtain ⟨v0, vs0, d0, ds0, p0, q0, hargs, rfl, rfl, h0, r0⟩ := trodAll_cons hA
  obtain ⟨rfl, rfl, rfl⟩ := trodAll_nil r0
  obtain rfl : args = #[v0] := by cases args; simp_all
  obtain ⟨rfl, rfl⟩ := trodVars_none hV
  have k0 := h0
  have lt0 : ∀ x ∈ p0, x.block < W.heap.size := by obtain ⟨m, hm⟩ := k0; exact DataW.trod_lt m _ _ _ hm
  obtain ⟨a0, H0, L0, E0⟩ := open_ts (hval 0 26 v0 rfl rfl) h0
  clear hA0 hval0
  refine (walk v0 a0  W H0 L0 E0).mono fun e W' ⟨he, bel⟩ => ?_
  subst he
  exact ⟨_, rfl, _, _, _, [], _, [], hW', trodAll_mk1 (shut_bool Try.underlying4 _), (trodAll_cons_mk (Below.trod laidOut (by kernel_rfl) (of_decide_eq_true (by kernel_rfl)) k0 bel lt0) trodAll_mk0), rfl, bel.frame _, fun h => by cases h⟩

theorem over : Rows.digestFillsRow.holds Try.pinned (OpenSpec.ofChange Rows.digestFillsSpec) :=
  OpenClaim.holds_of_wide 8 Try.f8 rfl rfl rfl rfl rfl rfl rfl ⟨rfl, rfl, rfl, rfl, rfl⟩ rfl rfl rfl rfl rfl (by kernel_rfl) Try.func8 (by kernel_rfl)
    (of_decide_eq_true (by kernel_rfl)) (by unfold Func.isWrapper; first | (rw [if_pos (by decide +kernel)]; kernel_rfl) | (rw [if_neg (by decide +kernel)]; exact ⟨rfl, rfl⟩))
    (fun os started H enc _ => lifted os started H enc)

end Go.Proofs.Ytfikbcgadpbblaa.digestFills
namespace Go.Proofs.Ytfikbcgadpbblaa
theorem digestFills_proved : Rows.DigestFillsSaid := digestFills.over
#print axioms digestFills_proved
end Go.Proofs.Ytfikbcgadpbblaa
