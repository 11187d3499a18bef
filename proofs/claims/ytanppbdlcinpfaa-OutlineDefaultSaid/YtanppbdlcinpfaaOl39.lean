/- Regions that numbers make. No conditions. -/
import Derived.Test.YtanppbdlcinpfaaOl37
import Derived.Test.YtanppbdlcinpfaaAx22
set_option linter.unusedSimpArgs false
set_option linter.unusedVariables false
namespace Go.Proofs.Ytanppbdlcinpfaa
set_option maxRecDepth 100000
set_option linter.unusedVariables false
open Go.RowKit Go.Deep
theorem info_rg : (Try.prog.info? 63).map (fun i => (i.zero, i.size, i.bytes)) = some (some (.agg #[.slice none 0 0]), 1, 24) := by kernel_rfl
set_option maxHeartbeats 4000000 in
theorem rregions_any (W : World) (v : Value) (L : List Int) (n many : Nat) (hv : InAt W v L) (hL : L.length ≤ maxLen) (hcap : ∀ a m c, v = .slice a m c → m ≤ c) (hn : n ≤ 3) (hm : many ≤ 8) (hwp : 0 < W.heap.size) :
    Calls Try.prog 31 #[v, .int .i64 (n : Int), .int .i64 (many : Int)] W fun e W' => ∃ u R, e = .returned u ∧ (∀ U, FrS (fun b => b < W.heap.size) W' U → RgAt U u R) ∧ R.length = many ∧ (∀ r ∈ R, AX.right r n = true ∧ r.length = n) ∧ Below W.heap.size W W' := by
  obtain ⟨i0, hi0', hz0, hz1, hz2⟩ := info_parts info_rg
  have HV := Lib.hid hv
  have HWP := Lib.hid hwp
  clear hwp
  obtain ⟨la, lc, rfl, -⟩ := hv
  obtain ⟨ln, hln⟩ : ∃ z, L.length = z := ⟨_, rfl⟩
  have HLN := Lib.hid (And.intro hln hL)
  have hl9 : ln ≤ 9223372036854775807 := by unfold maxLen at hL; omega
  rw [hln] at HV hcap ⊢
  have hlc : ln ≤ lc := hcap _ _ _ rfl
  clear hcap
  clear hln hL
  go_enter Try.func31, Try.ntmps31
  go_upto_region 3 with fail
  go_loopw [7, 8] (fun v7 v8 wr => ∃ (k : Nat) (qa : Option Addr) (qc : Nat) (R : List (List AX.Tn)) (vs : List Value), v8 = .int .i64 (k : Int) ∧ v7 = .slice qa k qc ∧ k ≤ many ∧ Hid (R.length = k ∧ ∀ r ∈ R, AX.right r n = true ∧ r.length = n) ∧ Hid (wr.ownsRow W.heap.size 63 1 (.slice qa k qc) k vs) ∧ Hid (NsS wr (W.heap.size - 1) 3 (.slice qa k qc) (R.map fun r => (r.length, AX.tnc r)) vs) ∧ Hid (Below W.heap.size W wr)) (fun _ v8 _ => many - (intOf v8).toNat)
  case atStart => exact ⟨0, none, 0, [], [], rfl, rfl, Nat.zero_le _, Lib.hid ⟨rfl, fun r h => by simp at h⟩, Lib.hid ⟨rfl, .inl ⟨rfl, rfl⟩⟩, Lib.hid (NsS.nil _ _ _ _), Lib.hid (Below.refl _ _)⟩
  case round =>
    obtain ⟨k, qa, qc, R, vs, rfl, rfl, hk, HR, HOW, HNS, HB⟩ := hrel
    by_cases hkm : k < many
    · have hkk : (k : Int) < (many : Int) := by omega
      have hk0 : (0 : Int) ≤ (k : Int) := by omega
      have hw9 : IntKind.i64.wrap (9 * (k : Int)) = 9 * (k : Int) := IntWalk.i64_in _ (by omega)
      obtain ⟨q, hq⟩ : ∃ q, min ln (9 * k) = q := ⟨_, rfl⟩
      have hqm : min (ln : Int) (9 * (k : Int)) = (q : Int) := by omega
      have hqi : (if 9 * (k : Int) < (ln : Int) then 9 * (k : Int) else (ln : Int)) = (q : Int) := by split <;> omega
      have hql : q ≤ ln := by omega
      have HQI : Hid (∀ ax, (lc = q ∨ ax = Option.map (fun x => x.add q) la) → ∀ U, Below W.heap.size W U → InAt U (.slice ax (ln - q) (lc - q)) (L.drop q)) := Lib.hid fun ax hax U hU => by
        obtain ⟨a', c', e1, h⟩ := HV.out
        injection e1 with e1 _ _
        subst e1
        refine ⟨_, _, by rw [List.length_drop, HLN.out.1], ?_⟩
        rcases h with h | ⟨g, o, rfl, hg, hc⟩
        · exact .inl (by rw [h, List.drop_nil])
        · rcases hax with e | e
          · exact .inl (List.drop_eq_nil_of_le (by rw [HLN.out.1]; omega))
          · refine .inr ⟨g, o + q, by rw [e]; simp [Addr.add], Nat.lt_of_lt_of_le hg hU.size, fun i x hx => ?_⟩
            rw [List.getElem?_drop] at hx
            rw [Nat.add_assoc]
            exact (hU.cell (p := ⟨g, o + (q + i), none⟩) hg).trans (hc (q + i) x hx)
      have HDR : Hid ((L.drop q).length ≤ maxLen) := Lib.hid (by rw [List.length_drop]; have := HLN.out.2; omega)
      clear hq
      by_cases hcq : lc = q
      · subst hcq
        have HMR := Lib.hid (maderegion_any (L.drop lc) n (.slice la 0 0) wr (by have h := HQI.out la (.inl rfl) wr HB.out; rw [Nat.sub_self, show ln - lc = 0 by omega] at h; exact h) HDR.out hn)
        go_wp2_with fail
        go_at_call 70
        refine HMR.out.mono ?_
        rintro e w5 ⟨u, rfl, hu, k5⟩
        obtain ⟨ua, uc, rfl⟩ := own_shape hu
        have HU := Lib.hid hu
        have HK5 := Lib.hid k5
        clear hu k5 HMR
        have HOW5 := Lib.hid (own_below HOW.out HK5.out)
        have HSZ : Hid (W.heap.size ≤ w5.heap.size) := Lib.hid (by have := HB.out.size; have := HK5.out.size; omega)
        have hu1 : (Value.slice ua n uc).oneCell' = true := rfl
        go_upto_region 4 with (at_builtin; refine wpList_appN _ rfl _ _ 35 rfl W.heap.size 63 i0 (.agg #[.slice none 0 0]) 1 24 Try.underlying35 hi0' hz0 hz1 hz2 rfl (by decide) _ k vs rfl (own_below HOW5.out (balloc (Below.refl _ _) _)) _ 1 [Value.slice ua n uc] rfl (srcN_new _ [Value.slice ua n uc] _ 1 1 1 rfl) (fun x hx => by rw [List.mem_singleton.1 hx]; exact hu1) (by unfold maxLen; omega) (by omega) (by have := HSZ.out; simp; omega) ?_; intro v4 w6 hown hgrow hor; obtain ⟨na, nc, rfl⟩ := own_shape hown)
        have HB6 : Hid (Below W.heap.size W w6) := Lib.hid ((balloc (bnext HB.out HK5.out) (.cells #[Value.slice ua n uc] 63)).grown hgrow (by have := HSZ.out; simp; omega) (fun q e => (own_lt HOW.out e).1))
        have HNS6 : Hid (NsS w6 (W.heap.size - 1) 3 (.slice na (k + 1) nc) ((R ++ [AX.mkReg (L.drop lc) n]).map fun r => (r.length, AX.tnc r)) (vs ++ [Value.slice ua n uc])) := Lib.hid (by
          have h := (HNS.out.fr (FrS.of (S := fun _ => False) HK5.out) (fun _ x => x.elim)).add (n := n) (U := AX.tnc (AX.mkReg (L.drop lc) n)) (own_srcN HU.out) (own_cap2 HU.out) (fun g o e => by
            have h1 := own_lt HU.out (q := g) (by rw [e]; rfl)
            refine ⟨?_, h1.2, fun e2 => ?_⟩
            · have := HWP.out
              have := HB.out.size
              omega
            · have := (own_lt HOW.out e2).2
              omega) (balloc (Below.refl _ w5) (.cells #[Value.slice ua n uc] 63)) hgrow hor
          rw [List.map_append]
          show NsS _ _ _ _ (_ ++ [((AX.mkReg (L.drop lc) n).length, _)]) _
          rw [AX.mkReg_len]
          exact h)
        have HR6 : Hid ((R ++ [AX.mkReg (L.drop lc) n]).length = k + 1 ∧ ∀ r ∈ R ++ [AX.mkReg (L.drop lc) n], AX.right r n = true ∧ r.length = n) := Lib.hid ⟨by rw [List.length_append, HR.out.1]; rfl, fun r hr => by
          rcases List.mem_append.1 hr with h | h
          · exact HR.out.2 r h
          · rw [List.mem_singleton.1 h]
            exact ⟨AX.mkReg_right _ hn, AX.mkReg_len _ _⟩⟩
        have HOW6 := Lib.hid hown
        clear hown hgrow hor hu1
        go_wp2
        go_roundw
        case rel => exact ⟨k + 1, na, nc, _, _, by go_num, rfl, by omega, HR6, HOW6, HNS6, HB6⟩
        case measure => simp [intOf]; omega
      · have HMR := Lib.hid (maderegion_any (L.drop q) n (.slice (Option.map (fun x => x.add q) la) (ln - q) (lc - q)) wr (HQI.out _ (.inr rfl) wr HB.out) HDR.out hn)
        go_wp2_with fail
        go_at_call 70
        refine HMR.out.mono ?_
        rintro e w5 ⟨u, rfl, hu, k5⟩
        obtain ⟨ua, uc, rfl⟩ := own_shape hu
        have HU := Lib.hid hu
        have HK5 := Lib.hid k5
        clear hu k5 HMR
        have HOW5 := Lib.hid (own_below HOW.out HK5.out)
        have HSZ : Hid (W.heap.size ≤ w5.heap.size) := Lib.hid (by have := HB.out.size; have := HK5.out.size; omega)
        have hu1 : (Value.slice ua n uc).oneCell' = true := rfl
        go_upto_region 4 with (at_builtin; refine wpList_appN _ rfl _ _ 35 rfl W.heap.size 63 i0 (.agg #[.slice none 0 0]) 1 24 Try.underlying35 hi0' hz0 hz1 hz2 rfl (by decide) _ k vs rfl (own_below HOW5.out (balloc (Below.refl _ _) _)) _ 1 [Value.slice ua n uc] rfl (srcN_new _ [Value.slice ua n uc] _ 1 1 1 rfl) (fun x hx => by rw [List.mem_singleton.1 hx]; exact hu1) (by unfold maxLen; omega) (by omega) (by have := HSZ.out; simp; omega) ?_; intro v4 w6 hown hgrow hor; obtain ⟨na, nc, rfl⟩ := own_shape hown)
        have HB6 : Hid (Below W.heap.size W w6) := Lib.hid ((balloc (bnext HB.out HK5.out) (.cells #[Value.slice ua n uc] 63)).grown hgrow (by have := HSZ.out; simp; omega) (fun q e => (own_lt HOW.out e).1))
        have HNS6 : Hid (NsS w6 (W.heap.size - 1) 3 (.slice na (k + 1) nc) ((R ++ [AX.mkReg (L.drop q) n]).map fun r => (r.length, AX.tnc r)) (vs ++ [Value.slice ua n uc])) := Lib.hid (by
          have h := (HNS.out.fr (FrS.of (S := fun _ => False) HK5.out) (fun _ x => x.elim)).add (n := n) (U := AX.tnc (AX.mkReg (L.drop q) n)) (own_srcN HU.out) (own_cap2 HU.out) (fun g o e => by
            have h1 := own_lt HU.out (q := g) (by rw [e]; rfl)
            refine ⟨?_, h1.2, fun e2 => ?_⟩
            · have := HWP.out
              have := HB.out.size
              omega
            · have := (own_lt HOW.out e2).2
              omega) (balloc (Below.refl _ w5) (.cells #[Value.slice ua n uc] 63)) hgrow hor
          rw [List.map_append]
          show NsS _ _ _ _ (_ ++ [((AX.mkReg (L.drop q) n).length, _)]) _
          rw [AX.mkReg_len]
          exact h)
        have HR6 : Hid ((R ++ [AX.mkReg (L.drop q) n]).length = k + 1 ∧ ∀ r ∈ R ++ [AX.mkReg (L.drop q) n], AX.right r n = true ∧ r.length = n) := Lib.hid ⟨by rw [List.length_append, HR.out.1]; rfl, fun r hr => by
          rcases List.mem_append.1 hr with h | h
          · exact HR.out.2 r h
          · rw [List.mem_singleton.1 h]
            exact ⟨AX.mkReg_right _ hn, AX.mkReg_len _ _⟩⟩
        have HOW6 := Lib.hid hown
        clear hown hgrow hor hu1
        go_wp2
        go_roundw
        case rel => exact ⟨k + 1, na, nc, _, _, by go_num, rfl, by omega, HR6, HOW6, HNS6, HB6⟩
        case measure => simp [intOf]; omega
    · have hkk : ¬ (k : Int) < (many : Int) := by omega
      obtain rfl : k = many := by omega
      have HRG : Hid (∀ U, FrS (fun b => b < W.heap.size) wr U → RgAt U (.slice qa k qc) R) := Lib.hid (fun U hU => by
        have ho := own_srcN (hU.own HOW.out (fun q hq e => by have := (own_lt HOW.out hq).1; omega))
        have hns := HNS.out.fr hU (fun q e => .inl (by omega))
        obtain ⟨ao, c, e, hl, h⟩ := ho
        injection e with e1 _ _
        subst e1
        refine ⟨_, _, by rw [HR.out.1], ?_⟩
        rcases h with ⟨h, -⟩ | ⟨g, o, rfl, hg, hc⟩
        · exact .inl (List.length_eq_zero_iff.1 (by rw [HR.out.1]; exact h))
        · refine .inr ⟨g, o, rfl, hg, fun i r hr => ?_⟩
          obtain ⟨a, c2, h1, -, h3⟩ := hns.inn i (r.length, AX.tnc r) (by rw [List.getElem?_map, hr]; rfl)
          exact ⟨a, c2, hc i _ h1, SrcN.tn h3⟩)
      clear hkm
      go_wp2
      go_ret
      first | exact ⟨_, R, rfl, HRG.out, HR.out.1, HR.out.2, HB.out⟩ | exact ⟨_, rfl, R, HRG.out, HR.out.1, HR.out.2, HB.out⟩
end Go.Proofs.Ytanppbdlcinpfaa
