/- The heap's up. No conditions. -/
import Derived.Test.YtgphdgalcbcamaaLn2
import Derived.Test.YtgphdgalcbcamaaLnP
namespace Go.Proofs.Ytgphdgalcbcamaa
set_option maxRecDepth 100000
set_option linter.unusedVariables false
open Go.RowKit Go.Deep
abbrev qi (M : Nat) : Value := .iface 72 (qp M)
set_option maxHeartbeats 2000000 in
theorem up_any (W : World) (M : Nat) (nd : Int) (sc : Value) (k : Int) (v : Value) (C : List Pc) (h : Qu W M nd sc k v C) (j : Nat) (hj : j < C.length) (hl : C.length ≤ 1000000) (hu : LN.UpI C j) :
    Calls Try.prog 32 #[qi M, .int .i64 (j : Int)] W fun x w' => x = .returned (.tuple #[]) ∧ ∃ C', Qu w' M nd sc k v C' ∧ C'.Perm C ∧ LN.Hp C' ∧ FrS (fun b => v.ownBlock = some b) W w' := by
  obtain ⟨n, hn⟩ : ∃ n, C.length = n := ⟨_, rfl⟩
  rw [hn] at hj hl
  have HN := Lib.hid hn
  have HH := Lib.hid h
  have HU := Lib.hid hu
  clear hn h hu
  go_enter Try.func32, Try.ntmps32
  go_wp2
  go_loopw [1] (fun v1 wr => ∃ (j : Nat) (D : List Pc), v1 = .int .i64 (j : Int) ∧ j < n ∧ Hid (D.length = n) ∧ Hid (LN.UpI D j) ∧ Hid (D.Perm C) ∧ Hid (Qu wr M nd sc k v D) ∧ Hid (FrS (fun b => v.ownBlock = some b) W wr)) (fun v _ => (intOf v).toNat)
  case atStart => exact ⟨j, C, rfl, hj, HN, HU, Lib.hid (List.Perm.refl _), HH, Lib.hid (FrS.refl _ _)⟩
  case round =>
    clear hj HH HU HN
    obtain ⟨j, D, rfl, hj, HL, HU, HP, HQ, HF⟩ := hrel
    by_cases h0 : j = 0
    · subst h0
      have HE := Lib.hid HU.out.zero
      go_wp2
      go_end0
      exact ⟨rfl, D, HQ.out, HP.out, HE.out, HF.out⟩
    · obtain ⟨i, hi⟩ : ∃ i, (j - 1) / 2 = i := ⟨_, rfl⟩
      have hj1 : (0 : Int) ≤ (j : Int) - 1 := by omega
      have hj2 : (1 : Int) ≤ (j : Int) := by omega
      have hq : ((j : Int) - 1) / 2 = (i : Int) := by omega
      have hne : ((i : Int) == (j : Int)) = false := by simp; omega
      have hij : i < j := by omega
      have HI := Lib.hid hi
      obtain ⟨q, hqq⟩ : ∃ q, D[j]? = some q := ⟨_, List.getElem?_eq_getElem (by rw [HL.out]; exact hj)⟩
      obtain ⟨p, hpp⟩ : ∃ p, D[i]? = some p := ⟨_, List.getElem?_eq_getElem (by rw [HL.out]; omega)⟩
      have HJJ := Lib.hid hqq
      have HII := Lib.hid hpp
      obtain ⟨d, hd⟩ : ∃ d, ltB q p = d := ⟨_, rfl⟩
      have hle := less_any wr M nd sc k v D HQ.out j i q p hqq hpp
      rw [hd] at hle
      have HLE := Lib.hid hle
      have HD := Lib.hid hd
      clear hi hqq hpp hd hle
      cases d with
      | false =>
        go_wp2_with fail
        go_at_call 51
        refine HLE.out.mono ?_
        rintro x w1 ⟨rfl, hb⟩
        have HQ1 := Lib.hid (HQ.out.below hb)
        have HF1 := Lib.hid (HF.out.then hb)
        have HE := Lib.hid (HU.out.stop HJJ.out (by rw [HI.out]; exact HII.out) HD.out)
        clear hb
        go_wp2
        go_end0
        exact ⟨rfl, D, HQ1.out, HP.out, HE.out, HF1.out⟩
      | true =>
        go_wp2_with fail
        go_at_call 51
        refine HLE.out.mono ?_
        rintro x w1 ⟨rfl, hb⟩
        have HQ1 := Lib.hid (HQ.out.below hb)
        have HF1 := Lib.hid (HF.out.then hb)
        have HSW := Lib.hid (swap_any w1 M nd sc k v D HQ1.out i j p q HII.out HJJ.out)
        clear hb
        go_wp2_with fail
        go_at_call 54
        refine HSW.out.mono ?_
        rintro x w2 ⟨rfl, hq2, hf2⟩
        have HQ2 := Lib.hid hq2
        have HF2 := Lib.hid (HF1.out.trans hf2)
        have HL2 : Hid ((LN.swp D i j p q).length = n) := Lib.hid (by rw [LN.swp_len]; exact HL.out)
        have HU2 := Lib.hid (HU.out.step (by omega) HI.out HJJ.out HII.out HD.out)
        have HP2 := Lib.hid ((LN.swp_perm HII.out HJJ.out).trans HP.out)
        clear hq2 hf2
        go_wp2
        go_roundw
        case rel => exact ⟨i, LN.swp D i j p q, rfl, by omega, HL2, HU2, HP2, HQ2, HF2⟩
        case measure => simp [intOf]; omega
set_option maxHeartbeats 1000000 in
theorem hpush_any (W : World) (M : Nat) (nd : Int) (sc : Value) (k : Int) (v : Value) (A : List Pc) (h : Qu W M nd sc k v A) (p : Pc) (hlen : A.length ≤ 100000) (hh : LN.Hp A) :
    Calls Try.prog 30 #[qi M, .iface 70 (pcV p)] W fun x w' => x = .returned (.tuple #[]) ∧ ∃ v' C, Qu w' M nd sc k v' C ∧ C.Perm (A ++ [p]) ∧ LN.Hp C ∧ (v'.ownBlock = v.ownBlock ∨ ∀ b, v'.ownBlock = some b → W.heap.size ≤ b) ∧ FrS (fun b => b = M ∨ v.ownBlock = some b) W w' := by
  have HH := Lib.hid h
  go_enter Try.func30, Try.ntmps30
  go_wp2_with fail
  go_at_call 53
  refine (push_any W M nd sc k v A HH.out p hlen).mono ?_
  rintro x w1 ⟨rfl, v1, hq1, ho1, hf1⟩
  obtain ⟨n, hn⟩ : ∃ n, A.length = n := ⟨_, rfl⟩
  have hl1 : (A ++ [p]).length = n + 1 := by rw [List.length_append, hn]; rfl
  obtain ⟨m, hm⟩ : ∃ m, n + 1 = m := ⟨_, rfl⟩
  rw [hm] at hl1
  have hmn : (m : Int) - 1 = (n : Int) := by omega
  have hmb : m ≤ 100001 := by omega
  have HQ1 := Lib.hid hq1
  have HLN := Lib.hid (len_any w1 M nd sc k v1 (A ++ [p]) hq1 m hl1)
  have hup := up_any w1 M nd sc k v1 (A ++ [p]) hq1 n (by rw [hl1]; omega) (by rw [hl1]; omega) (by rw [← hn]; exact LN.UpI.new hh)
  have HUP := Lib.hid hup
  have HO1 := Lib.hid ho1
  have HF1 := Lib.hid hf1
  clear hq1 ho1 hf1 hl1 hm hn hh h hup
  go_wp2_with fail
  go_at_call 50
  refine HLN.out.mono ?_
  rintro x w2 ⟨rfl, he⟩
  have he' := he.symm
  subst he'
  go_wp2_with fail
  go_at_call 32
  refine HUP.out.mono ?_
  rintro x w3 ⟨rfl, C, hq, hp, hhp, hf⟩
  have HFF : Hid (FrS (fun b => b = M ∨ v.ownBlock = some b) W w3) := Lib.hid (HF1.out.over hf (fun b hb => by
    rcases HO1.out with h | h
    · exact .inl (.inr (h.symm.trans hb))
    · exact .inr (h b hb)))
  have HFIN := Lib.hid (And.intro hq (And.intro hp hhp))
  clear hq hp hhp hf
  go_wp2
  go_end0
  exact ⟨rfl, v1, C, HFIN.out.1, HFIN.out.2.1, HFIN.out.2.2, HO1.out, HFF.out⟩
end Go.Proofs.Ytgphdgalcbcamaa
