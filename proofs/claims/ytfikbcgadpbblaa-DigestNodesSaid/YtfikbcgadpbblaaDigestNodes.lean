/- For every list of strings DigestNodes returns true: a node of a tree is not accepted as a leaf by the rest of a proof. No conditions. -/
import Derived.Test.YtfikbcgadpbblaaDigLaw0
import Derived.Test.YtfikbcgadpbblaaDigNodes0
import Derived.ChangeMaps5
namespace Go.Proofs.Ytfikbcgadpbblaa.digestNodes
open Go.ChangeShapes Go.WideShapes Go.ChangeAt Go.RowKit Go.Joins Go.Deep Go.ChangeMaps
set_option linter.unusedVariables false

theorem proof_k2 {L l : List ByteArray} {h n k : Nat} {a : Option Addr} {c : Nat} {w : World} (hn : L.length = n) (hl : DG.prf L k h = l) (hr : RowAt w (.slice a n c) (L.map Value.string)) (hL : L.length ≤ 1000000) (hs : ∀ s ∈ L, s.size < 2147483648) (hh : DG.IsH L.length h) (hk : k < n) :
    Calls Try.prog 19 #[.slice a n c, .int .i64 (k : Int)] w fun e W' => ∃ pa pc, e = .returned (.slice pa h pc) ∧ Src W' (.slice pa h pc) (l.map Value.string) ∧ h ≤ pc ∧ Below w.heap.size w W' := by
  subst hn
  have hp : DG.proof L h (k : Int) = l := by unfold DG.proof; rw [if_pos (by omega), ← hl]; rfl
  have hlen : l.length = h := by rw [← hl, DG.prf_len]
  refine (proof_any L a c h k w hr hL hs hh).mono fun e W' ⟨v, he, hv, hb⟩ => ?_
  rw [hp, hlen] at hv
  obtain ⟨pa, pc, rfl⟩ := own_shape hv
  refine ⟨pa, pc, he, own_src hv (by rw [List.length_map, hlen]), ?_, hb⟩
  rcases hv.2 with ⟨e1, e2⟩ | ⟨g, cap, cur, e1, _, _, e2, _⟩
  · omega
  · injection e1 with _ _ e3
    omega
theorem drop_none {w : World} {l : List ByteArray} {a : Option Addr} {m c : Nat} (h : l.length = m) (h0 : m = 0) : RowAt w (.slice a m c) (l.map Value.string) := by
  subst h
  exact ⟨a, c, by rw [List.length_map], .inl (by rw [List.eq_nil_of_length_eq_zero h0]; rfl)⟩
theorem _root_.Go.Proofs.Ytfikbcgadpbblaa.Src.row_drop {w : World} {g o n cap k : Nat} {l : List ByteArray} (h : Src w (.slice (some ⟨g, o, none⟩) n cap) (l.map Value.string)) (hl : l.length = n) (hk : k ≤ n) : RowAt w (.slice (some ⟨g, o + k, none⟩) (n - k) (cap - k)) ((l.drop k).map Value.string) := by
  have := (h.drop hk (ao := some ⟨g, o + k, none⟩) (by simp) (fun _ g' o' e => by injection e with e; injection e with e1 e2; rw [e1, e2])).row
  rwa [← List.map_drop] at this
set_option maxRecDepth 100000 in
set_option maxHeartbeats 8000000 in
theorem walk (v0 : Value) (a0 : List ByteArray)  (w : World) (H0 : RowAt w v0 (a0.map Value.string)) (L0 : a0.length ≤ maxLen ∧ ∀ a n c, v0 = .slice a n c → n ≤ c) (E0 : ∀ x, x ∈ a0 → x.size ≤ maxLen) :
    Calls Try.prog 9 #[v0] w fun e w' => e = .returned (.bool true) ∧ Below w.heap.size w w' := by
  obtain ⟨M, hM⟩ : ∃ M, DG.few a0 20 = M := ⟨_, rfl⟩
  have hMs : ∀ s ∈ M, s.size < 2147483648 := by rw [← hM]; exact few_small _ _
  have hMl : M.length ≤ 20 := by rw [← hM]; exact DG.few_len _ _
  obtain ⟨h, hh⟩ := DG.exists_h M.length
  have h20 := hh.le20 (by omega)
  have HF := Lib.hid (fun W hW => few_c (w := W) hM (H0.keep hW) E0 L0.1)
  obtain ⟨n, hn⟩ : ∃ n, M.length = n := ⟨_, rfl⟩
  have HN := Lib.hid hn
  have HH := Lib.hid hh
  have HMS := Lib.hid hMs
  rw [hn] at HF hMl
  have acc : Below w.heap.size w w := Below.refl _ _
  obtain ⟨R, hR⟩ : ∃ R, DG.root M h = R := ⟨_, rfl⟩
  have HRT := Lib.hid hR
  clear hR
  obtain ⟨i0, hif, hz0, hz1, hz2⟩ := info_parts info_string
  clear hM hMs hh hn H0 L0 E0
  go_enter Try.func9, Try.ntmps9
  go_wp2_with fail
  refine (sane_any _).mono ?_
  rintro e w1 ⟨rfl, k1⟩
  replace acc := bnext acc k1
  clear k1
  go_wp2_with fail
  refine (HF.out _ acc).mono ?_
  rintro e w2 ⟨v, rfl, hv, k2⟩
  replace acc := bnext acc k2
  obtain ⟨va, vc, rfl⟩ := own_shape hv
  have hrow := row_own hv (by rw [List.length_map, HN.out])
  have hsrc := own_src hv (by rw [List.length_map, HN.out])
  have HR := Lib.hid hrow
  have HSRC := Lib.hid hsrc
  clear hv k2 hrow hsrc HF
  have HROOT := Lib.hid (fun (W : World) (hr : RowAt W (.slice va n vc) (M.map Value.string)) => root_c (w := W) HN.out HRT.out hr (by rw [HN.out]; omega) HMS.out HH.out)
  go_wp2_with fail
  refine (HROOT.out _ HR.out).mono ?_
  rintro e w3 ⟨rfl, k3⟩
  replace acc := bnext acc k3
  replace HR := Lib.hid (HR.out.keep k3)
  clear k3 HROOT
  go_wp2
  go_loopw [5] (fun v5 wr => ∃ k : Nat, v5 = .int .i64 (k : Int) ∧ k ≤ n ∧ Below w3.heap.size w3 wr) (fun v _ => n - (intOf v).toNat)
  case atStart => exact ⟨0, rfl, Nat.zero_le _, Below.refl _ _⟩
  case round =>
    obtain ⟨k, rfl, hk, hb⟩ := hrel
    by_cases hkn : k < n
    · have hki : (k : Int) < (n : Int) := by omega
      have hk0 : (0 : Int) ≤ (k : Int) := by omega
      have hkM : k < M.length := by rw [HN.out]; exact hkn
      have hk2 : k < 2 ^ h := Nat.lt_of_lt_of_le hkM HH.out.1
      obtain ⟨x0, hx⟩ : ∃ x, M[k] = x := ⟨_, rfl⟩
      obtain ⟨l, hl⟩ : ∃ l, DG.prf M k h = l := ⟨_, rfl⟩
      have hlen : l.length = h := by rw [← hl, DG.prf_len]
      have hls : ∀ s ∈ l, s.size < 2147483648 := by rw [← hl]; exact prf_small HMS.out k h
      obtain ⟨g, o, rfl, hg, hc⟩ := HR.out.cell (a := va) (k := k) (by simpa using hkM)
      have hc' : w3.cell? ⟨g, o + k, none⟩ = some (.string x0) := by rw [hc]; simp [hx]
      have HPC := Lib.hid (proof_k2 (w := wr) HN.out hl (HR.out.keep hb) (by rw [HN.out]; omega) HMS.out HH.out hkn)
      have HX0 : Hid (DG.nodeAt M h k 0 = x0) := Lib.hid (DG.node_zero hk2 (by rw [← hx]; exact List.getElem?_eq_getElem hkM))
      have HB := Lib.hid hb
      have HC := Lib.hid (fun V (hV : Below w3.heap.size w3 V) => (hV.cell (p := ⟨g, o + k, none⟩) hg).trans hc')
      have HLEN := Lib.hid hlen
      have HLS := Lib.hid hls
      have HLL := Lib.hid hl
      have HK2 := Lib.hid hk2
      clear hx hl hlen hls hc hc' hb hkM hk2
      go_wp2_with fail
      refine HPC.out.mono ?_
      rintro e w4 ⟨pa, pc, rfl, hsp, hcap, k4⟩
      have hb4 := bnext HB.out k4
      have HSP := Lib.hid hsp
      have c4 := HC.out w4 hb4
      have HB4 := Lib.hid hb4
      clear hsp k4 HPC hb4
      go_wp2
      go_loopw [7, 8, 9] (fun v7 v8 v9 wq => ∃ t : Nat, v9 = .int .i64 (t : Int) ∧ t ≤ h ∧ v8 = .int .i64 ((k / 2 ^ t : Nat) : Int) ∧ v7 = .string (DG.nodeAt M h k t) ∧ Below w4.heap.size w4 wq) (fun _ _ v _ => h - (intOf v).toNat)
      case atStart => exact ⟨0, rfl, Nat.zero_le _, by simp, by rw [HX0.out], Below.refl _ _⟩
      case round =>
        obtain ⟨t, rfl, ht, rfl, rfl, hbq⟩ := hrel
        by_cases hth : t < h
        · have hti : (t : Int) < (h : Int) := by omega
          have ht0 : (0 : Int) ≤ (t : Int) := by omega
          have hV := DG.node_refused (L := M) HH.out h20 HK2.out hth
          have hsc := DG.node_succ (L := M) HH.out HK2.out hth
          have hxs := DG.node_small HMS.out h k t
          have hd2 : k / 2 ^ (t + 1) = k / 2 ^ t / 2 := by rw [Nat.pow_succ, Nat.div_div_eq_div_mul]
          have hle := Nat.div_le_self k (2 ^ t)
          rw [HRT.out, HLL.out] at hV
          have htl : t < l.length := by rw [HLEN.out]; exact hth
          obtain ⟨y, hy⟩ : ∃ y, DG.nbr M k t = y := ⟨_, rfl⟩
          have hlt : l[t] = y := by
            rw [← hy]
            have h1 : l[t]? = (DG.prf M k h)[t]? := by rw [HLL.out]
            rw [List.getElem?_eq_getElem htl] at h1
            simpa [DG.prf, hth] using h1
          have hys : y.size < 2147483648 := by rw [← hlt]; exact HLS.out _ (List.getElem_mem _)
          obtain ⟨g2, o2, rfl, hg2, hcy⟩ := HSP.out.row.cell (a := pa) (k := t) (by simpa using htl)
          replace hcy : w4.cell? ⟨g2, o2 + t, none⟩ = some (.string y) := by rw [hcy]; simp [hlt]
          have cy := (hbq.cell (p := ⟨g2, o2 + t, none⟩) hg2).trans hcy
          obtain ⟨q, hq⟩ : ∃ q, k / 2 ^ t = q := ⟨_, rfl⟩
          obtain ⟨x, hX⟩ : ∃ x, DG.nodeAt M h k t = x := ⟨_, rfl⟩
          obtain ⟨z, hZ⟩ : ∃ z, DG.nodeAt M h k (t + 1) = z := ⟨_, rfl⟩
          have hzs : z.size < 2147483648 := by rw [← hZ]; exact DG.node_small HMS.out h k (t + 1)
          rw [hq, hX, hZ, hy] at hsc
          rw [hq, hZ, show ((q / 2 : Nat) : Int) = (q : Int) / 2 by omega] at hV
          rw [hq] at hd2 hle
          rw [hX] at hxs
          rw [hq, hX]
          have HV := Lib.hid hV
          have HD2 := Lib.hid hd2
          have HZ := Lib.hid hZ
          have HBQ := Lib.hid hbq
          have hi1 : (0 : Int) ≤ (t : Int) + 1 := by omega
          have hi2 : (t : Int) + 1 ≤ (h : Int) := by omega
          have hi3 : ((t : Int) + 1).toNat = t + 1 := by omega
          have HDS : Hid (∀ s ∈ l.drop (t + 1), s.size < 2147483648) := Lib.hid fun s hs => HLS.out s (List.mem_of_mem_drop hs)
          clear hy hlt hq hX hZ hV hd2 hbq hcy htl
          by_cases hev : q % 2 = 0
          · by_cases hcc : t + 1 = pc
            · have hPP := Lib.hid (fun W => Pair_any x y W (by omega) (by unfold maxLen; omega))
              have hzp : DG.Pair x y = z := by rw [if_pos hev] at hsc; exact hsc.symm
              rw [hzp] at hPP
              have hm0 : ((q : Int) % 2 == 0) = true := by
                have : (q : Int) % 2 = 0 := by omega
                rw [this]; rfl
              have hm : (q : Int) % 2 = 0 := by omega
              clear hzp hsc hev
              have hce : t + 1 = pc := hcc
              have hte : t + 1 = h := by omega
              go_wp2_with (go_at_call 15; refine (hPP.out _).mono ?_; rintro e w6 ⟨rfl, k6⟩; have HB6 := Lib.hid (bnext HBQ.out k6); clear k6)
              have hld : (l.drop (t + 1)).length = 0 := by rw [List.length_drop, HLEN.out]; omega
              have hrd : RowAt w6 (.slice (some ⟨g2, o2, none⟩) 0 0) ((l.drop (t + 1)).map Value.string) := drop_none hld rfl
              have hvo : VOut R z (l.drop (t + 1)) ((q : Int) / 2) false := ⟨HV.out, by omega, by omega⟩
              (with_reducible refine (ver_k hvo hld hzs hrd HDS.out).mono ?_)
              rintro e w7 ⟨rfl, k7⟩
              have HB7 := Lib.hid (bnext HB6.out k7)
              clear k7
              go_wp2
              go_roundw
              case rel => exact ⟨t + 1, by go_num, hth, by rw [HD2.out]; go_num, by rw [HZ.out], HB7.out⟩
              case measure => simp [intOf]; omega
            · have hPP := Lib.hid (fun W => Pair_any x y W (by omega) (by unfold maxLen; omega))
              have hzp : DG.Pair x y = z := by rw [if_pos hev] at hsc; exact hsc.symm
              rw [hzp] at hPP
              have hm0 : ((q : Int) % 2 == 0) = true := by
                have : (q : Int) % 2 = 0 := by omega
                rw [this]; rfl
              have hm : (q : Int) % 2 = 0 := by omega
              clear hzp hsc hev
              have hcn : ¬ t + 1 = pc := hcc
              go_wp2_with (go_at_call 15; refine (hPP.out _).mono ?_; rintro e w6 ⟨rfl, k6⟩; have HB6 := Lib.hid (bnext HBQ.out k6); clear k6)
              have hld : (l.drop (t + 1)).length = h - (t + 1) := by rw [List.length_drop, HLEN.out]
              have hrd : RowAt w6 (.slice (some ⟨g2, o2 + (t + 1), none⟩) (h - (t + 1)) (pc - (t + 1))) ((l.drop (t + 1)).map Value.string) := (HSP.out.keep HB6.out).row_drop HLEN.out (by omega)
              have hvo : VOut R z (l.drop (t + 1)) ((q : Int) / 2) false := ⟨HV.out, by omega, by omega⟩
              (with_reducible refine (ver_k hvo hld hzs hrd HDS.out).mono ?_)
              rintro e w7 ⟨rfl, k7⟩
              have HB7 := Lib.hid (bnext HB6.out k7)
              clear k7
              go_wp2
              go_roundw
              case rel => exact ⟨t + 1, by go_num, hth, by rw [HD2.out]; go_num, by rw [HZ.out], HB7.out⟩
              case measure => simp [intOf]; omega
          · by_cases hcc : t + 1 = pc
            · have hPP := Lib.hid (fun W => Pair_any y x W (by omega) (by unfold maxLen; omega))
              have hzp : DG.Pair y x = z := by rw [if_neg hev] at hsc; exact hsc.symm
              rw [hzp] at hPP
              have hm0 : ((q : Int) % 2 == 0) = false := by
                have : (q : Int) % 2 = 1 := by omega
                rw [this]; rfl
              have hm : (q : Int) % 2 = 1 := by omega
              clear hzp hsc hev
              have hce : t + 1 = pc := hcc
              have hte : t + 1 = h := by omega
              go_wp2_with (go_at_call 15; refine (hPP.out _).mono ?_; rintro e w6 ⟨rfl, k6⟩; have HB6 := Lib.hid (bnext HBQ.out k6); clear k6)
              have hld : (l.drop (t + 1)).length = 0 := by rw [List.length_drop, HLEN.out]; omega
              have hrd : RowAt w6 (.slice (some ⟨g2, o2, none⟩) 0 0) ((l.drop (t + 1)).map Value.string) := drop_none hld rfl
              have hvo : VOut R z (l.drop (t + 1)) ((q : Int) / 2) false := ⟨HV.out, by omega, by omega⟩
              (with_reducible refine (ver_k hvo hld hzs hrd HDS.out).mono ?_)
              rintro e w7 ⟨rfl, k7⟩
              have HB7 := Lib.hid (bnext HB6.out k7)
              clear k7
              go_wp2
              go_roundw
              case rel => exact ⟨t + 1, by go_num, hth, by rw [HD2.out]; go_num, by rw [HZ.out], HB7.out⟩
              case measure => simp [intOf]; omega
            · have hPP := Lib.hid (fun W => Pair_any y x W (by omega) (by unfold maxLen; omega))
              have hzp : DG.Pair y x = z := by rw [if_neg hev] at hsc; exact hsc.symm
              rw [hzp] at hPP
              have hm0 : ((q : Int) % 2 == 0) = false := by
                have : (q : Int) % 2 = 1 := by omega
                rw [this]; rfl
              have hm : (q : Int) % 2 = 1 := by omega
              clear hzp hsc hev
              have hcn : ¬ t + 1 = pc := hcc
              go_wp2_with (go_at_call 15; refine (hPP.out _).mono ?_; rintro e w6 ⟨rfl, k6⟩; have HB6 := Lib.hid (bnext HBQ.out k6); clear k6)
              have hld : (l.drop (t + 1)).length = h - (t + 1) := by rw [List.length_drop, HLEN.out]
              have hrd : RowAt w6 (.slice (some ⟨g2, o2 + (t + 1), none⟩) (h - (t + 1)) (pc - (t + 1))) ((l.drop (t + 1)).map Value.string) := (HSP.out.keep HB6.out).row_drop HLEN.out (by omega)
              have hvo : VOut R z (l.drop (t + 1)) ((q : Int) / 2) false := ⟨HV.out, by omega, by omega⟩
              (with_reducible refine (ver_k hvo hld hzs hrd HDS.out).mono ?_)
              rintro e w7 ⟨rfl, k7⟩
              have HB7 := Lib.hid (bnext HB6.out k7)
              clear k7
              go_wp2
              go_roundw
              case rel => exact ⟨t + 1, by go_num, hth, by rw [HD2.out]; go_num, by rw [HZ.out], HB7.out⟩
              case measure => simp [intOf]; omega
        · have hti : ¬ (t : Int) < (h : Int) := by omega
          have hbw := bnext HB4.out hbq
          go_wp2
          go_roundw
          case rel => exact ⟨k + 1, by go_num, hkn, hbw⟩
          case measure => simp [intOf]; omega
    · have hki : ¬ (k : Int) < (n : Int) := by omega
      go_wp2
      go_ret
      exact ⟨rfl, bnext acc hb⟩

set_option maxRecDepth 100000 in
theorem lifted (os : Os) (started : os.Started) (H : Type) (enc : TypeId × Value → H) :
    ReturnsInHanded {} Try.checked os 9 .any (Rows.digestNodesSpec.pre6 enc Try.prog Try.f9 Rows.digestNodesRow.domain false) (Rows.digestNodesSpec.post enc Try.prog Try.f9 false true false false) := by
  refine returnsInHanded_of_change (C := Try.checked) own started (by kernel_rfl) Try.func9
    (ChangeSpec.witness6 (enc := enc) (C := Try.checked) false ⟨#[], #[.slice none 0 0], []⟩ 8 (by kernel_rfl) (by kernel_rfl) (by kernel_rfl) (by kernel_rfl)) ?_
  intro W base args ds gs before hval0 hW hcnd _
  have hval : ∀ (j : Nat) t v, Try.f9.params[j]? = some t → args[j]? = some v → Value.okWide Try.prog W .any base t v := hval0
  have hW' := hW
  obtain ⟨p, q, hA0, hV, rfl, hfz, hnd⟩ := hW
  have hA : DataW.TrodAll enc Try.prog W 0 (fun _ => true) true Try.f9.params.toList args.toList ds p := hA0
  rw [Try.params9] at hA hval
  obtain ⟨v0, vs0, d0, ds0, p0, q0, hargs, rfl, rfl, h0, r0⟩ := trodAll_cons hA
  obtain ⟨rfl, rfl, rfl⟩ := trodAll_nil r0
  obtain rfl : args = #[v0] := by cases args; simp_all
  obtain ⟨rfl, rfl⟩ := trodVars_none hV
  have k0 := h0
  have lt0 : ∀ x ∈ p0, x.block < W.heap.size := by obtain ⟨m, hm⟩ := k0; exact DataW.trod_lt m _ _ _ hm
  obtain ⟨a0, H0, L0, E0⟩ := open_ts (hval 0 26 v0 rfl rfl) h0
  clear hA0 hval0
  refine (walk v0 a0  W H0 L0 E0).mono fun e W' ⟨he, bel⟩ => ?_
  subst he
  exact ⟨_, rfl, _, _, _, [], _, [], hW', trodAll_mk1 (shut_bool Try.underlying4 _), (trodAll_cons_mk (Below.trod laidOut (by kernel_rfl) (of_decide_eq_true (by kernel_rfl)) k0 bel lt0) trodAll_mk0), rfl, bel.frame _, fun h => by cases h⟩

theorem over : Rows.digestNodesRow.holds Try.pinned (OpenSpec.ofChange Rows.digestNodesSpec) :=
  OpenClaim.holds_of_wide 9 Try.f9 rfl rfl rfl rfl rfl rfl rfl ⟨rfl, rfl, rfl, rfl, rfl⟩ rfl rfl rfl rfl rfl (by kernel_rfl) Try.func9 (by kernel_rfl)
    (of_decide_eq_true (by kernel_rfl)) (by unfold Func.isWrapper; first | (rw [if_pos (by decide +kernel)]; kernel_rfl) | (rw [if_neg (by decide +kernel)]; exact ⟨rfl, rfl⟩))
    (fun os started H enc _ => lifted os started H enc)

end Go.Proofs.Ytfikbcgadpbblaa.digestNodes
namespace Go.Proofs.Ytfikbcgadpbblaa
theorem digestNodes_proved : Rows.DigestNodesSaid := digestNodes.over
#print axioms digestNodes_proved
end Go.Proofs.Ytfikbcgadpbblaa
