/- For every list of strings and every string DigestProofs returns true: each proof is accepted, and none of another height or index. No conditions. -/
import Derived.Test.YtfikbcgadpbblaaDigLaw0
import Derived.ChangeMaps5
namespace Go.Proofs.Ytfikbcgadpbblaa.digestProofs
open Go.ChangeShapes Go.WideShapes Go.ChangeAt Go.RowKit Go.Joins Go.Deep Go.ChangeMaps
set_option linter.unusedVariables false

set_option maxRecDepth 100000 in
set_option maxHeartbeats 8000000 in
theorem walk (v0 : Value) (a0 : List ByteArray) (a1 : ByteArray) (wa1 : a1.size ≤ maxLen) (w : World) (H0 : RowAt w v0 (a0.map Value.string)) (L0 : a0.length ≤ maxLen ∧ ∀ a n c, v0 = .slice a n c → n ≤ c) (E0 : ∀ x, x ∈ a0 → x.size ≤ maxLen) :
    Calls Try.prog 6 #[v0, .string a1] w fun e w' => e = .returned (.bool true) ∧ Below w.heap.size w w' := by
  obtain ⟨M, hM⟩ : ∃ M, DG.few a0 20 = M := ⟨_, rfl⟩
  have hMs : ∀ s ∈ M, s.size < 2147483648 := by rw [← hM]; exact few_small _ _
  have hMl : M.length ≤ 20 := by rw [← hM]; exact DG.few_len _ _
  obtain ⟨h, hh⟩ := DG.exists_h M.length
  have h20 := hh.le20 (by omega)
  have HF := Lib.hid (fun W hW => few_c (w := W) hM (H0.keep hW) E0 L0.1)
  obtain ⟨n, hn⟩ : ∃ n, M.length = n := ⟨_, rfl⟩
  have HN := Lib.hid hn
  have HH := Lib.hid hh
  have HMS := Lib.hid hMs
  rw [hn] at HF hMl
  have acc : Below w.heap.size w w := Below.refl _ _
  obtain ⟨R, hR⟩ : ∃ R, DG.root M h = R := ⟨_, rfl⟩
  have hR8 : R.size = 8 := by rw [← hR]; rfl
  have HRT := Lib.hid hR
  have HR8 := Lib.hid hR8
  have HZ := Lib.hid wa1
  clear hR hR8 wa1
  obtain ⟨i0, hif, hz0, hz1, hz2⟩ := info_parts info_string
  clear hM hMs hh hn H0 L0 E0
  go_enter Try.func6, Try.ntmps6
  go_wp2_with fail
  refine (sane_any _).mono ?_
  rintro e w1 ⟨rfl, k1⟩
  replace acc := bnext acc k1
  clear k1
  go_wp2_with fail
  refine (HF.out _ acc).mono ?_
  rintro e w2 ⟨v, rfl, hv, k2⟩
  replace acc := bnext acc k2
  obtain ⟨va, vc, rfl⟩ := own_shape hv
  have hrow := row_own hv (by rw [List.length_map, HN.out])
  have hsrc := own_src hv (by rw [List.length_map, HN.out])
  have HR := Lib.hid hrow
  have HSRC := Lib.hid hsrc
  clear hv k2 hrow hsrc HF
  go_upto_region 3 with (fail)
  go_cut [1] from 14 to 18 (fun s1 wx => wx = w2 ∧ ∃ s : ByteArray, s1 = .string s ∧ s.size ≤ 40)
  case first =>
    have hzz := HZ.out
    unfold maxLen at hzz
    go_wp2
    all_goals
      go_meet
      case rel => exact ⟨rfl, _, rfl, by first | omega | (rw [ByteArray.size_extract]; omega)⟩
  case rest =>
    obtain ⟨rfl, s, rfl, hs40⟩ := hcut
    have hsz : M.length ≤ 1000000 := by have := HN.out; omega
    have hrt := rootP_any M va vc h wc (by rw [HN.out]; exact HR.out) hsz HMS.out HH.out
    rw [HN.out, HRT.out] at hrt
    have HRO := Lib.hid hrt
    clear hrt hsz
    go_wp2_with fail
    refine HRO.out.mono ?_
    rintro e w3 ⟨rfl, k3⟩
    replace acc := bnext acc k3
    replace HR := Lib.hid (HR.out.keep k3)
    clear k3 HRO
    go_wp2
    go_loop [7] (fun v => ∃ j : Nat, v = .int .i64 (j : Int) ∧ j ≤ h) (fun v => h - (intOf v).toNat)
    case atStart => exact ⟨0, rfl, Nat.zero_le _⟩
    case round =>
      obtain ⟨j, rfl, hj⟩ := hrel
      have hiff := HH.out.lt_iff hj
      rw [HN.out] at hiff
      obtain ⟨P, hP, hP', hP0, hP1⟩ := pow_int (Nat.le_trans hj h20)
      rw [hP'] at hiff
      by_cases hlt : P < n
      · have hjh := hiff.1 hlt
        have hlti : (P : Int) < (n : Int) := by omega
        clear hP' hiff
        go_wp2
        go_round
        case rel => exact ⟨j + 1, by go_num, hjh⟩
        case measure => simp [intOf]; omega
      · obtain rfl : j = h := by omega
        have hlti : ¬ (P : Int) < (n : Int) := by omega
        have HP' := Lib.hid hP'
        clear hiff hP' hj
        go_wp2
        go_loopw [8] (fun v8 wr => ∃ k : Nat, v8 = .int .i64 (k : Int) ∧ k ≤ n ∧ Below w3.heap.size w3 wr) (fun v _ => n - (intOf v).toNat)
        case atStart => exact ⟨0, rfl, Nat.zero_le _, Below.refl _ _⟩
        case round =>
          obtain ⟨k, rfl, hk, hb⟩ := hrel
          by_cases hkn : k < n
          · have hki : (k : Int) < (n : Int) := by omega
            have hk0 : (0 : Int) ≤ (k : Int) := by omega
            have hkM : k < M.length := by rw [HN.out]; exact hkn
            obtain ⟨x, hx⟩ : ∃ x, M[k] = x := ⟨_, rfl⟩
            have hxs : x.size < 2147483648 := by rw [← hx]; exact HMS.out _ (List.getElem_mem _)
            obtain ⟨l, hl⟩ : ∃ l, DG.prf M k j = l := ⟨_, rfl⟩
            have hlen : l.length = j := by rw [← hl, DG.prf_len]
            have hls : ∀ s ∈ l, s.size < 2147483648 := by rw [← hl]; exact prf_small HMS.out k j
            have v1 : VOut R x l (k : Int) true := ⟨by rw [← hl, ← HRT.out]; exact DG.verify_right HH.out h20 hkM (by rw [← hx]; exact List.getElem?_eq_getElem hkM), by omega, by omega⟩
            have v2 : VOut R x l ((k : Int) + (P : Int)) false := ⟨DG.verify_beyond (by rw [hlen, hP]; omega), by omega, by omega⟩
            have v3 : VOut R x l (-1 - (k : Int)) false := ⟨DG.verify_neg (by omega), by omega, by omega⟩
            obtain ⟨g, o, rfl, hg, hc⟩ := HR.out.cell (a := va) (k := k) (by simpa using hkM)
            have hc' : w3.cell? ⟨g, o + k, none⟩ = some (.string x) := by rw [hc]; simp [hx]
            have HC : Hid (∀ V, Below w3.heap.size w3 V → V.cell? ⟨g, o + k, none⟩ = some (.string x)) := Lib.hid fun V hV => (hV.cell (p := ⟨g, o + k, none⟩) hg).trans hc'
            have HPC := Lib.hid (proof_k (w := wr) HN.out hl (HR.out.keep hb) (by rw [HN.out]; omega) HMS.out HH.out hkn)
            have HVL : Hid (DG.verify R x (k : Int) (l ++ List.replicate (21 - j) s) = false) := Lib.hid (DG.verify_long (by rw [List.length_append, List.length_replicate, hlen]; omega))
            have HB := Lib.hid hb
            have HLEN := Lib.hid hlen
            have HLS := Lib.hid hls
            clear hx hl hlen hls hc hc' hb hkM
            go_wp2_with fail
            refine HPC.out.mono ?_
            rintro e w4 ⟨pa, pc, rfl, hsp, k4⟩
            have hb4 := bnext HB.out k4
            have HSP := Lib.hid hsp
            clear hsp k4 HPC
            have HVV : Hid (∀ i r, VOut R x l i r → ∀ V, Below w4.heap.size w4 V → Calls Try.prog 23 #[.string R, .string x, .int .i64 i, .slice pa j pc] V fun e w' => e = .returned (.bool r) ∧ Below w4.heap.size w4 w') := Lib.hid fun i r hv V hV => (ver_k hv HLEN.out hxs (HSP.out.row.keep hV) HLS.out).mono fun e w' h => ⟨h.1, bnext hV h.2⟩
            have HB4 := Lib.hid hb4
            have HCC : Hid (∀ V, Below w4.heap.size w4 V → V.cell? ⟨g, o + k, none⟩ = some (.string x)) := Lib.hid fun V hV => HC.out V (bnext HB4.out hV)
            have c4 := HC.out w4 hb4
            clear hb4
            go_wp2_with fail
            have xw1 : IntKind.i64.wrap (P : Int) = (P : Int) := by rw [IntKind.wrap_i64]; omega
            have xw2 : IntKind.i64.wrap ((k : Int) + (P : Int)) = (k : Int) + (P : Int) := by rw [IntKind.wrap_i64]; omega
            have xw3 : IntKind.i64.wrap (-1 - (k : Int)) = -1 - (k : Int) := by rw [IntKind.wrap_i64]; omega
            go_region_held3 (fun w' => w'.cell? ⟨g, o + k, none⟩ = some (.string x))
              (first | (refine HCC.out _ ?_; (repeat' (first | exact Below.refl _ _ | (with_reducible assumption) | (refine bnext ?_ (by with_reducible assumption)) | (refine balloc ?_ _) | (refine below_drewN ?_ _) | (refine Below.drew ?_))); done))
              (first | (go_at_call 23; refine (HVV.out _ _ (by with_reducible assumption) _ (by (repeat' (first | exact Below.refl _ _ | (with_reducible assumption) | (refine bnext ?_ (by with_reducible assumption)) | (refine balloc ?_ _) | (refine below_drewN ?_ _) | (refine Below.drew ?_))))).mono ?_; rintro e w5 ⟨rfl, hb5⟩))
            have HB5 := Lib.hid hb5
            have HSP5 := Lib.hid (HSP.out.keep hb5)
            clear hb5 xw1 xw2 xw3 v1 v2 v3
            have hone := strs_one l
            go_wp2_with (at_builtin; refine wpList_app _ rfl _ _ 26 rfl w5.heap.size 9 i0 (.string ⟨#[]⟩) 16 Try.underlying26 hif hz0 hz1 hz2 rfl _ _ _ rfl (own_lit w5 [] 9 w5.heap.size (Nat.le_refl _) (by simp)) _ (l.map Value.string) rfl (HSP5.out.keep (balloc (Below.refl _ _) _)) hone ?c1 ?c2 ?c3 ?_)
            case c1 => have := HLEN.out; (try unfold maxLen); (try simp only [List.length_map, List.length_nil]); omega
            case c2 => have := HLEN.out; (try simp only [List.length_map, List.length_nil]); omega
            try case c3 => exact (balloc (Below.refl _ _) _).size
            intro v6 w6 hown6 hgrow6 _
            have hb6 : Below w5.heap.size w5 w6 := ((Below.refl _ w5).alloc (Nat.le_refl _) _).grown hgrow6 (by simp) (fun k e => by cases e; simp)
            replace hown6 : w6.ownsRow w5.heap.size 9 1 v6 j (l.map Value.string) := by have := HLEN.out; subst this; simpa using hown6
            have HB6 := Lib.hid hb6
            have HO6 := Lib.hid hown6
            clear hgrow6 hb6 hown6 hone
            go_wp2
            go_loopw [10] (fun v10 wq => ∃ N, j ≤ N ∧ N ≤ 21 ∧ wq.ownsRow w5.heap.size 9 1 v10 N ((l ++ List.replicate (N - j) s).map Value.string) ∧ Below w5.heap.size w5 wq) (fun v _ => 21 - lenOf v)
            case atStart => exact ⟨j, Nat.le_refl _, by omega, by simpa using HO6.out, HB6.out⟩
            case round =>
              obtain ⟨N, hN1, hN2, hrow, hbq⟩ := hrel
              obtain ⟨qa, qc, rfl⟩ := own_shape hrow
              have HRQ := Lib.hid hrow
              have HBQ := Lib.hid hbq
              have hqs := hbq.size
              clear hrow hbq
              by_cases hN : N < 21
              · have hNi : (N : Int) < 21 := by omega
                go_wp2_with (at_builtin; refine wpList_app _ rfl _ _ 26 rfl w5.heap.size 9 i0 (.string ⟨#[]⟩) 16 Try.underlying26 hif hz0 hz1 hz2 rfl _ _ _ rfl (HRQ.out.alloc _) _ [.string s] rfl (Src.one (World.cell?_alloc_at _ _ _ _ rfl)) (by simp [Value.oneCell']) ?d1 ?d2 ?d3 ?_)
                case d1 => (try unfold maxLen); (try simp only [List.length_cons, List.length_nil]); omega
                case d2 => (try simp only [List.length_cons, List.length_nil]); omega
                case d3 => simp; omega
                intro v7 w7 hown7 hgrow7 _
                have HB7 : Hid (Below w5.heap.size w5 w7) := Lib.hid ((HBQ.out.alloc hqs _).grown hgrow7 (by simp; omega) (fun k e => (HRQ.out.lt k e).1))
                have HO7 := Lib.hid hown7
                obtain ⟨g7, c7, rfl⟩ := ownsRow_succ hown7
                clear hown7 hgrow7
                go_wp2
                go_roundw
                case rel =>
                  refine ⟨N + 1, by omega, by omega, ?_, HB7.out⟩
                  rw [show N + 1 - j = N - j + 1 by omega, List.replicate_succ']
                  simpa using HO7.out
                case measure => simp [lenOf]; omega
              · obtain rfl : N = 21 := by omega
                have hll : (l ++ List.replicate (21 - j) s).length = 21 := by rw [List.length_append, List.length_replicate, HLEN.out]; omega
                have HV := Lib.hid (ver_k (root := R) (leaf := x) (i := (k : Int)) (w := wr) (a := qa) (c := qc) ⟨HVL.out, by omega, by omega⟩ hll hxs (row_own HRQ.out (by rw [List.length_map, hll])) (fun t ht => by
                  rcases List.mem_append.1 ht with ht | ht
                  · exact HLS.out t ht
                  · rw [(List.mem_replicate.1 ht).2]; omega))
                have c7 := HCC.out wr (bnext HB5.out HBQ.out)
                have hbw := Lib.hid (bnext HB4.out (bnext HB5.out HBQ.out))
                clear hll
                go_wp2_with (go_at_call 23; refine HV.out.mono ?_; rintro e w8 ⟨rfl, k8⟩; have hb8 := bnext hbw.out k8; clear k8)
                go_roundw
                case rel => exact ⟨k + 1, by go_num, hkn, hb8⟩
                case measure => simp [intOf]; omega
          · have hki : ¬ (k : Int) < (n : Int) := by omega
            have h8 := HR8.out
            go_wp2
            go_ret
            exact ⟨rfl, bnext acc hb⟩

set_option maxRecDepth 100000 in
theorem lifted (os : Os) (started : os.Started) (H : Type) (enc : TypeId × Value → H) :
    ReturnsInHanded {} Try.checked os 6 .any (Rows.digestProofsSpec.pre6 enc Try.prog Try.f6 Rows.digestProofsRow.domain false) (Rows.digestProofsSpec.post enc Try.prog Try.f6 false true false false) := by
  refine returnsInHanded_of_change (C := Try.checked) own started (by kernel_rfl) Try.func6
    (ChangeSpec.witness6 (enc := enc) (C := Try.checked) false ⟨#[], #[.slice none 0 0, .string ByteArray.empty], []⟩ 8 (by kernel_rfl) (by kernel_rfl) (by kernel_rfl) (by kernel_rfl)) ?_
  intro W base args ds gs before hval0 hW hcnd _
  have hval : ∀ (j : Nat) t v, Try.f6.params[j]? = some t → args[j]? = some v → Value.okWide Try.prog W .any base t v := hval0
  have hW' := hW
  obtain ⟨p, q, hA0, hV, rfl, hfz, hnd⟩ := hW
  have hA : DataW.TrodAll enc Try.prog W 0 (fun _ => true) true Try.f6.params.toList args.toList ds p := hA0
  rw [Try.params6] at hA hval
  obtain ⟨v0, vs0, d0, ds0, p0, q0, hargs, rfl, rfl, h0, r0⟩ := trodAll_cons hA
  obtain ⟨v1, vs1, d1, ds1, p1, q1, rfl, rfl, rfl, h1, r1⟩ := trodAll_cons r0
  obtain ⟨rfl, rfl, rfl⟩ := trodAll_nil r1
  obtain rfl : args = #[v0, v1] := by cases args; simp_all
  obtain ⟨rfl, rfl⟩ := trodVars_none hV
  have k0 := h0
  have lt0 : ∀ x ∈ p0, x.block < W.heap.size := by obtain ⟨m, hm⟩ := k0; exact DataW.trod_lt m _ _ _ hm
  have k1 := h1
  have lt1 : ∀ x ∈ p1, x.block < W.heap.size := by obtain ⟨m, hm⟩ := k1; exact DataW.trod_lt m _ _ _ hm
  obtain ⟨a0, H0, L0, E0⟩ := open_ts (hval 0 26 v0 rfl rfl) h0
  obtain ⟨a1, rfl, rfl, rfl, wa1⟩ := open_string Try.underlying9 (hval 1 9 v1 rfl rfl) h1
  clear hA0 hval0
  refine (walk v0 a0 a1 wa1 W H0 L0 E0).mono fun e W' ⟨he, bel⟩ => ?_
  subst he
  exact ⟨_, rfl, _, _, _, [], _, [], hW', trodAll_mk1 (shut_bool Try.underlying4 _), (trodAll_cons_mk (Below.trod laidOut (by kernel_rfl) (of_decide_eq_true (by kernel_rfl)) k0 bel lt0) (trodAll_cons_mk (Below.trod laidOut (by kernel_rfl) (of_decide_eq_true (by kernel_rfl)) k1 bel lt1) trodAll_mk0)), rfl, bel.frame _, fun h => by cases h⟩

theorem over : Rows.digestProofsRow.holds Try.pinned (OpenSpec.ofChange Rows.digestProofsSpec) :=
  OpenClaim.holds_of_wide 6 Try.f6 rfl rfl rfl rfl rfl rfl rfl ⟨rfl, rfl, rfl, rfl, rfl⟩ rfl rfl rfl rfl rfl (by kernel_rfl) Try.func6 (by kernel_rfl)
    (of_decide_eq_true (by kernel_rfl)) (by unfold Func.isWrapper; first | (rw [if_pos (by decide +kernel)]; kernel_rfl) | (rw [if_neg (by decide +kernel)]; exact ⟨rfl, rfl⟩))
    (fun os started H enc _ => lifted os started H enc)

end Go.Proofs.Ytfikbcgadpbblaa.digestProofs
namespace Go.Proofs.Ytfikbcgadpbblaa
theorem digestProofs_proved : Rows.DigestProofsSaid := digestProofs.over
#print axioms digestProofs_proved
end Go.Proofs.Ytfikbcgadpbblaa
