/- The heap's down, and Pop. No conditions. -/
import Derived.Test.YtgphdgalcbcamaaLn3
namespace Go.Proofs.Ytgphdgalcbcamaa
set_option maxRecDepth 100000
set_option linter.unusedVariables false
open Go.RowKit Go.Deep
def IsB (x : Ending) : Prop := ∃ b, x = .returned (.bool b)
set_option maxHeartbeats 4000000 in
theorem down_any (W : World) (M : Nat) (nd : Int) (sc : Value) (k : Int) (v : Value) (C : List Pc) (h : Qu W M nd sc k v C) (n : Nat) (hn : n < C.length) (hl : C.length ≤ 1000000) (hu : LN.DnI C n 0) :
    Calls Try.prog 33 #[qi M, .int .i64 0, .int .i64 (n : Int)] W fun x w' => IsB x ∧ ∃ C', Qu w' M nd sc k v C' ∧ C'.Perm C ∧ LN.HpN C' n ∧ (∀ k, n ≤ k → C'[k]? = C[k]?) ∧ FrS (fun b => v.ownBlock = some b) W w' := by
  obtain ⟨m, hm⟩ : ∃ m, C.length = m := ⟨_, rfl⟩
  rw [hm] at hn hl
  have HN := Lib.hid hm
  have HH := Lib.hid h
  have HU := Lib.hid hu
  clear hm h hu
  go_enter Try.func33, Try.ntmps33
  go_wp2
  go_loopw [7] (fun v7 wr => ∃ (i : Nat) (D : List Pc), v7 = .int .i64 (i : Int) ∧ i ≤ n ∧ Hid (D.length = m) ∧ Hid (LN.DnI D n i) ∧ Hid (D.Perm C) ∧ Hid (∀ k, n ≤ k → D[k]? = C[k]?) ∧ Hid (Qu wr M nd sc k v D) ∧ Hid (FrS (fun b => v.ownBlock = some b) W wr)) (fun v _ => n + 1 - (intOf v).toNat)
  case atStart => exact ⟨0, C, rfl, Nat.zero_le _, HN, HU, Lib.hid (List.Perm.refl _), Lib.hid (fun _ _ => rfl), HH, Lib.hid (FrS.refl _ _)⟩
  case round =>
    clear HH HU HN
    obtain ⟨i, D, rfl, hi, HL, HU, HP, HK, HQ, HF⟩ := hrel
    obtain ⟨l, hl1⟩ : ∃ l, 2 * i + 1 = l := ⟨_, rfl⟩
    obtain ⟨r, hr1⟩ : ∃ r, 2 * i + 2 = r := ⟨_, rfl⟩
    have e1 : 2 * (i : Int) + 1 = (l : Int) := by omega
    have e2 : (l : Int) + 1 = (r : Int) := by omega
    have hlb : l ≤ 2000001 := by omega
    have hl0 : ¬ (l : Int) < 0 := by omega
    by_cases hln : n ≤ l
    · have hlz : (n : Int) ≤ (l : Int) := by omega
      have HE := Lib.hid (HU.out.leaf (by omega))
      clear hl1 hr1
      go_wp2
      go_ret
      exact ⟨⟨_, rfl⟩, D, HQ.out, HP.out, HE.out, HK.out, HF.out⟩
    · have hlz : ¬ (n : Int) ≤ (l : Int) := by omega
      obtain ⟨p, hpp⟩ : ∃ p, D[i]? = some p := ⟨_, List.getElem?_eq_getElem (by rw [HL.out]; omega)⟩
      obtain ⟨q, hqq⟩ : ∃ q, D[l]? = some q := ⟨_, List.getElem?_eq_getElem (by rw [HL.out]; omega)⟩
      have HII := Lib.hid hpp
      have HJJ := Lib.hid hqq
      by_cases hrn : r < n
      · have hrz : (r : Int) < (n : Int) := by omega
        obtain ⟨s, hss⟩ : ∃ s, D[r]? = some s := ⟨_, List.getElem?_eq_getElem (by rw [HL.out]; omega)⟩
        obtain ⟨d, hd⟩ : ∃ d, ltB s q = d := ⟨_, rfl⟩
        have hle := less_any wr M nd sc k v D HQ.out r l s q hss hqq
        rw [hd] at hle
        have HLE := Lib.hid hle
        cases d with
        | false =>
          have HCH : Hid (LN.Chs D n i l q) := Lib.hid (by subst hl1 hr1; exact LN.chs_left hqq hss (by omega) hd)
          clear hl1 hr1 hpp hqq hss hd hle
          go_wp2_with fail
          go_at_call 51
          refine HLE.out.mono ?_
          rintro x w3 ⟨rfl, hb3⟩
          have HQQ := Lib.hid (HQ.out.below hb3)
          have HFF := Lib.hid (HF.out.then hb3)
          clear hb3
          obtain ⟨e, he⟩ : ∃ e, ltB q p = e := ⟨_, rfl⟩
          have hle2 := less_any w3 M nd sc k v D HQQ.out l i q p HCH.out.2.2.1 HII.out
          rw [he] at hle2
          have HLE2 := Lib.hid hle2
          have HE2 := Lib.hid he
          have hij : i < l := by have := HCH.out.1; omega
          have hjn : l < n := HCH.out.2.1
          clear he hle2
          cases e with
          | false =>
            go_wp2_with fail
            go_at_call 51
            refine HLE2.out.mono ?_
            rintro x w4 ⟨rfl, hb4⟩
            have HQ4 := Lib.hid (HQQ.out.below hb4)
            have HF4 := Lib.hid (HFF.out.then hb4)
            have HE := Lib.hid (HU.out.stop HII.out HCH.out HE2.out)
            clear hb4
            go_wp2
            go_ret
            exact ⟨⟨_, rfl⟩, D, HQ4.out, HP.out, HE.out, HK.out, HF4.out⟩
          | true =>
            go_wp2_with fail
            go_at_call 51
            refine HLE2.out.mono ?_
            rintro x w4 ⟨rfl, hb4⟩
            have HQ4 := Lib.hid (HQQ.out.below hb4)
            have HF4 := Lib.hid (HFF.out.then hb4)
            have HSW := Lib.hid (swap_any w4 M nd sc k v D HQ4.out i l p q HII.out HCH.out.2.2.1)
            clear hb4
            go_wp2_with fail
            go_at_call 54
            refine HSW.out.mono ?_
            rintro x w5 ⟨rfl, hq5, hf5⟩
            have HQ5 := Lib.hid hq5
            have HF5 := Lib.hid (HF4.out.trans hf5)
            have HL5 : Hid ((LN.swp D i l p q).length = m) := Lib.hid (by rw [LN.swp_len]; exact HL.out)
            have HU5 := Lib.hid (HU.out.step HII.out HCH.out HE2.out)
            have HP5 := Lib.hid ((LN.swp_perm HII.out HCH.out.2.2.1).trans HP.out)
            have HK5 : Hid (∀ k, n ≤ k → (LN.swp D i l p q)[k]? = C[k]?) := Lib.hid fun k hk => by
              rw [LN.swp_at HII.out HCH.out.2.2.1, if_neg (by omega), if_neg (by omega)]
              exact HK.out k hk
            clear hq5 hf5
            go_wp2
            go_roundw
            case rel => exact ⟨l, LN.swp D i l p q, rfl, Nat.le_of_lt hjn, HL5, HU5, HP5, HK5, HQ5, HF5⟩
            case measure => simp [intOf]; omega
        | true =>
          have HCH : Hid (LN.Chs D n i r s) := Lib.hid (by subst hl1 hr1; exact LN.chs_right hqq hss (by omega) hd)
          clear hl1 hr1 hpp hqq hss hd hle
          go_wp2_with fail
          go_at_call 51
          refine HLE.out.mono ?_
          rintro x w3 ⟨rfl, hb3⟩
          have HQQ := Lib.hid (HQ.out.below hb3)
          have HFF := Lib.hid (HF.out.then hb3)
          clear hb3
          obtain ⟨e, he⟩ : ∃ e, ltB s p = e := ⟨_, rfl⟩
          have hle2 := less_any w3 M nd sc k v D HQQ.out r i s p HCH.out.2.2.1 HII.out
          rw [he] at hle2
          have HLE2 := Lib.hid hle2
          have HE2 := Lib.hid he
          have hij : i < r := by have := HCH.out.1; omega
          have hjn : r < n := HCH.out.2.1
          clear he hle2
          cases e with
          | false =>
            go_wp2_with fail
            go_at_call 51
            refine HLE2.out.mono ?_
            rintro x w4 ⟨rfl, hb4⟩
            have HQ4 := Lib.hid (HQQ.out.below hb4)
            have HF4 := Lib.hid (HFF.out.then hb4)
            have HE := Lib.hid (HU.out.stop HII.out HCH.out HE2.out)
            clear hb4
            go_wp2
            go_ret
            exact ⟨⟨_, rfl⟩, D, HQ4.out, HP.out, HE.out, HK.out, HF4.out⟩
          | true =>
            go_wp2_with fail
            go_at_call 51
            refine HLE2.out.mono ?_
            rintro x w4 ⟨rfl, hb4⟩
            have HQ4 := Lib.hid (HQQ.out.below hb4)
            have HF4 := Lib.hid (HFF.out.then hb4)
            have HSW := Lib.hid (swap_any w4 M nd sc k v D HQ4.out i r p s HII.out HCH.out.2.2.1)
            clear hb4
            go_wp2_with fail
            go_at_call 54
            refine HSW.out.mono ?_
            rintro x w5 ⟨rfl, hq5, hf5⟩
            have HQ5 := Lib.hid hq5
            have HF5 := Lib.hid (HF4.out.trans hf5)
            have HL5 : Hid ((LN.swp D i r p s).length = m) := Lib.hid (by rw [LN.swp_len]; exact HL.out)
            have HU5 := Lib.hid (HU.out.step HII.out HCH.out HE2.out)
            have HP5 := Lib.hid ((LN.swp_perm HII.out HCH.out.2.2.1).trans HP.out)
            have HK5 : Hid (∀ k, n ≤ k → (LN.swp D i r p s)[k]? = C[k]?) := Lib.hid fun k hk => by
              rw [LN.swp_at HII.out HCH.out.2.2.1, if_neg (by omega), if_neg (by omega)]
              exact HK.out k hk
            clear hq5 hf5
            go_wp2
            go_roundw
            case rel => exact ⟨r, LN.swp D i r p s, rfl, Nat.le_of_lt hjn, HL5, HU5, HP5, HK5, HQ5, HF5⟩
            case measure => simp [intOf]; omega
      · have hrz : ¬ (r : Int) < (n : Int) := by omega
        have HCH : Hid (LN.Chs D n i l q) := Lib.hid (by subst hl1; exact LN.chs_one hqq (by omega) (by omega))
        have HQQ := HQ
        have HFF := HF
        clear hl1 hr1 hpp hqq
        obtain ⟨e, he⟩ : ∃ e, ltB q p = e := ⟨_, rfl⟩
        have hle2 := less_any wr M nd sc k v D HQQ.out l i q p HCH.out.2.2.1 HII.out
        rw [he] at hle2
        have HLE2 := Lib.hid hle2
        have HE2 := Lib.hid he
        have hij : i < l := by have := HCH.out.1; omega
        have hjn : l < n := HCH.out.2.1
        clear he hle2
        cases e with
        | false =>
          go_wp2_with fail
          go_at_call 51
          refine HLE2.out.mono ?_
          rintro x w4 ⟨rfl, hb4⟩
          have HQ4 := Lib.hid (HQQ.out.below hb4)
          have HF4 := Lib.hid (HFF.out.then hb4)
          have HE := Lib.hid (HU.out.stop HII.out HCH.out HE2.out)
          clear hb4
          go_wp2
          go_ret
          exact ⟨⟨_, rfl⟩, D, HQ4.out, HP.out, HE.out, HK.out, HF4.out⟩
        | true =>
          go_wp2_with fail
          go_at_call 51
          refine HLE2.out.mono ?_
          rintro x w4 ⟨rfl, hb4⟩
          have HQ4 := Lib.hid (HQQ.out.below hb4)
          have HF4 := Lib.hid (HFF.out.then hb4)
          have HSW := Lib.hid (swap_any w4 M nd sc k v D HQ4.out i l p q HII.out HCH.out.2.2.1)
          clear hb4
          go_wp2_with fail
          go_at_call 54
          refine HSW.out.mono ?_
          rintro x w5 ⟨rfl, hq5, hf5⟩
          have HQ5 := Lib.hid hq5
          have HF5 := Lib.hid (HF4.out.trans hf5)
          have HL5 : Hid ((LN.swp D i l p q).length = m) := Lib.hid (by rw [LN.swp_len]; exact HL.out)
          have HU5 := Lib.hid (HU.out.step HII.out HCH.out HE2.out)
          have HP5 := Lib.hid ((LN.swp_perm HII.out HCH.out.2.2.1).trans HP.out)
          have HK5 : Hid (∀ k, n ≤ k → (LN.swp D i l p q)[k]? = C[k]?) := Lib.hid fun k hk => by
            rw [LN.swp_at HII.out HCH.out.2.2.1, if_neg (by omega), if_neg (by omega)]
            exact HK.out k hk
          clear hq5 hf5
          go_wp2
          go_roundw
          case rel => exact ⟨l, LN.swp D i l p q, rfl, Nat.le_of_lt hjn, HL5, HU5, HP5, HK5, HQ5, HF5⟩
          case measure => simp [intOf]; omega
theorem Qu.lt {W : World} {M : Nat} {nd k : Int} {sc v : Value} {A : List Pc} (h : Qu W M nd sc k v A) : M < W.heap.size := (Array.getElem?_eq_some_iff.1 h.blk).1
set_option maxHeartbeats 1000000 in
theorem hpop_any (W : World) (M : Nat) (nd : Int) (sc : Value) (k : Int) (v : Value) (A : List Pc) (h : Qu W M nd sc k v A) (hne : 0 < A.length) (hlen : A.length ≤ 1000000) (hh : LN.Hp A) :
    Calls Try.prog 31 #[qi M] W fun x w' => ∃ p C v', x = .returned (.iface 70 (pcV p)) ∧ A.Perm (p :: C) ∧ (∀ q ∈ C, LN.le p q) ∧ Qu w' M nd sc k v' C ∧ LN.Hp C ∧ v'.ownBlock = v.ownBlock ∧ FrS (fun b => b = M ∨ v.ownBlock = some b) W w' := by
  obtain ⟨m, hm⟩ : ∃ m, A.length = m := ⟨_, rfl⟩
  rw [hm] at hne hlen
  obtain ⟨n, hn⟩ : ∃ n, m = n + 1 := ⟨m - 1, by omega⟩
  have hmn : (m : Int) - 1 = (n : Int) := by omega
  obtain ⟨p, hp⟩ : ∃ p, A[0]? = some p := ⟨_, List.getElem?_eq_getElem (by rw [hm]; omega)⟩
  obtain ⟨q, hq⟩ : ∃ q, A[n]? = some q := ⟨_, List.getElem?_eq_getElem (by rw [hm]; omega)⟩
  have hnb : n ≤ 1000000 := by omega
  have HN := Lib.hid hn
  have HM := Lib.hid hm
  have HQ := Lib.hid h
  have HP := Lib.hid hp
  have HQN := Lib.hid hq
  have HHP := Lib.hid hh
  have HLN := Lib.hid (len_any W M nd sc k v A h m hm)
  have HSW := Lib.hid (swap_any W M nd sc k v A h 0 n p q hp hq)
  clear hn hm h hp hq hh
  go_enter Try.func31, Try.ntmps31
  go_wp2_with fail
  go_at_call 50
  refine HLN.out.mono ?_
  rintro x w2 ⟨rfl, he⟩
  have he' := he.symm
  subst he'
  go_wp2_with fail
  go_at_call 54
  refine HSW.out.mono ?_
  rintro x w3 ⟨rfl, hq3, hf3⟩
  have HF3 := Lib.hid hf3
  have hsl : (LN.swp A 0 n p q).length = m := by rw [LN.swp_len]; exact HM.out
  have HDN := Lib.hid (down_any w3 M nd sc k v (LN.swp A 0 n p q) hq3 n (by rw [hsl]; have := HN.out; omega) (by rw [hsl]; omega) (LN.DnI.start HHP.out HP.out HQN.out))
  clear hq3 hf3 hsl
  go_wp2_with fail
  go_at_call 33
  refine HDN.out.mono ?_
  rintro x w4 ⟨⟨b, rfl⟩, C, hqc, hpc, hhn, hkc, hfc⟩
  have hcl : C.length = n + 1 := by rw [hpc.length_eq, LN.swp_len, HM.out, HN.out]
  have hcn : C[n]? = some p := by rw [hkc n (Nat.le_refl _), LN.swp_at HP.out HQN.out, if_pos rfl]
  have hcc : C = C.take n ++ [p] := by
    have h1 := List.take_add_one (l := C) (i := n)
    rw [List.take_of_length_le (by omega), hcn] at h1
    exact h1
  obtain ⟨B, hB⟩ : ∃ B, C.take n = B := ⟨_, rfl⟩
  rw [hB] at hcc
  subst hcc
  have HPO := Lib.hid (pop_any w4 M nd sc k v B p hqc)
  have hbl : B.length = n := by simpa using hcl
  have hpm : A.Perm (p :: B) := ((LN.swp_perm HP.out HQN.out).symm.trans hpc.symm).trans (List.perm_append_comm (l₁ := B) (l₂ := [p]))
  have HPM := Lib.hid hpm
  have HHB := Lib.hid (LN.HpN.hp hhn hbl)
  have HMIN : Hid (∀ q ∈ B, LN.le p q) := Lib.hid fun q hq => by
    obtain ⟨i, hi⟩ := List.getElem?_of_mem (hpm.symm.subset (List.mem_cons_of_mem p hq))
    exact HHP.out.root HP.out i q hi
  have HF4 := Lib.hid (HF3.out.trans hfc)
  clear hqc hpc hhn hkc hfc hcl hcn hB hbl hpm
  go_wp2_with fail
  go_at_call 52
  refine HPO.out.mono ?_
  rintro x w5 ⟨rfl, v5, hq5, ho5, hf5⟩
  have HFF : Hid (FrS (fun b => b = M ∨ v.ownBlock = some b) W w5) := Lib.hid ((HF4.out.mono (fun b hb => .inr hb)).trans (hf5.mono (fun b hb => .inl hb)))
  have HQ5 := Lib.hid hq5
  have HO5 := Lib.hid ho5
  clear hq5 ho5 hf5
  go_wp2
  go_ret
  exact ⟨p, B, v5, rfl, HPM.out, HMIN.out, HQ5.out, HHB.out, HO5.out, HFF.out⟩
end Go.Proofs.Ytgphdgalcbcamaa
