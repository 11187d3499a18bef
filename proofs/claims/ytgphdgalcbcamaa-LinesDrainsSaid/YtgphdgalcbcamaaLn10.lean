/- The law's messages, and the examples. No conditions. -/
import Derived.Test.YtgphdgalcbcamaaLn9
namespace Go.Proofs.Ytgphdgalcbcamaa
set_option maxRecDepth 100000
set_option linter.unusedVariables false
open Go.RowKit Go.Deep
theorem told_any (w : World) (s : ByteArray) : Calls Try.prog 18 #[.string s] w fun x w' => x = .returned (msV 0 1 s) ∧ Below w.heap.size w w' := by
  go_enter Try.func18, Try.ntmps18
  go_wp2
  refine bodyPost_ret (v := msV 0 1 s) (results_cell_row Try.results18 _ _ w.heap.size 31 _ (0, 0) _ rfl (heap_alloc_new w _) Try.underlying31 rfl (by kernel_rfl)) rfl ⟨rfl, ?_⟩
  exact balloc (Below.refl _ _) _
section
variable {W w w' V : World} {M : Nat} {nd : Int} {T : List Tr} {k k' : Nat} {P Q C : List Pc} {F F' F2 S : Nat → Prop}
set_option maxHeartbeats 1000000 in
theorem gives_yes (h : LSr W F w M nd T k P) (ho : LN.Ord P) (hl : P.length ≤ 100000) (p : Pc) (hp : P[LN.bs P]? = some p) : Calls Try.prog 21 #[ptr M, .string p.s, .int .i64 p.t] w fun x w' => x = .returned (.bool true) ∧ LSr W F w' M nd T k (P.eraseIdx (LN.bs P)) := by
  have HN := Lib.hid (next_some h ho hl p hp)
  obtain ⟨Q, hQ⟩ : ∃ Q, P.eraseIdx (LN.bs P) = Q := ⟨_, rfl⟩
  rw [hQ] at HN ⊢
  have hss : (p.s.toList == p.s.toList) = true := by simp
  clear h ho hl hp hQ
  go_enter Try.func21, Try.ntmps21
  go_wp2_with fail
  go_at_call 20
  refine HN.out.mono ?_
  rintro x w1 ⟨rfl, h1⟩
  have H1 := Lib.hid (h1.below (balloc (Below.refl _ w1) (.cells #[.int .i64 p.f, .int .i64 p.o, .string p.s] 31)))
  clear h1
  go_wp2
  go_ret
  exact ⟨rfl, H1.out⟩
/-- The examples' troubles, and their texts. -/
def exT : List Tr := [⟨true, 0, 0⟩, ⟨false, 2, 5⟩, ⟨false, 1, 1⟩]
def exS (i : Nat) : ByteArray := ⟨#[97 + i.toUInt8]⟩
def exP : Nat → List Pc
  | 0 => []
  | i + 1 => sendP exT 2 i 0 0 1 (exS i) (exP i)
abbrev exR : List Pc := [⟨5, 1, 0, 1, ⟨#[98]⟩⟩, ⟨6, 1, 0, 1, ⟨#[98]⟩⟩, ⟨1, 2, 0, 1, ⟨#[99]⟩⟩, ⟨0, 3, 0, 1, ⟨#[100]⟩⟩]
theorem exP_four : exP 4 = exR := by rfl
theorem exP_len : ∀ i, i ≤ 4 → (exP i).length ≤ 90000 := by
  intro i hi
  have h : ∀ i : Fin 5, (exP i.1).length ≤ 90000 := by decide +kernel
  exact h ⟨i, by omega⟩
set_option maxHeartbeats 4000000 in
theorem sanity_any (w : World) : Calls Try.prog 10 #[] w fun x w' => x = .returned (.bool true) ∧ Below w.heap.size w w' := by
  have HBT := Lib.hid (balloc (Below.refl _ w) (.cells (trs exT).toArray 43))
  have HNEW := Lib.hid (new_any (w.alloc (.cells (trs exT).toArray 43)) 2 (.slice (some ⟨w.heap.size, 0, none⟩) 3 3) exT 3 rfl (by decide) (srcN_new w (trs exT) 43 3 3 3 rfl))
  go_enter Try.func10, Try.ntmps10
  go_wp2_with fail
  go_at_call 11
  refine HNEW.out.mono ?_
  rintro x w1 ⟨M, rfl, hls, hb1⟩
  have HB1 := Lib.hid (bnext HBT.out hb1)
  obtain ⟨F, hF⟩ : ∃ F, (fun b => (w.alloc (.cells (trs exT).toArray 43)).heap.size ≤ b ∧ b < w1.heap.size) = F := ⟨_, rfl⟩
  have HF0 : Hid (∀ b, F b → w.heap.size ≤ b) := Lib.hid fun b hb => by
    rw [← hF] at hb
    have := HBT.out.size
    omega
  rw [hF] at hls
  have HLS := Lib.hid hls
  clear hls hF hb1
  go_upto_region 5 with fail
  have hb2 := balloc (Below.refl _ w1) (.cells #[.string ⟨#[97]⟩, .string ⟨#[98]⟩, .string ⟨#[99]⟩, .string ⟨#[100]⟩] 9)
  have hx2 := heap_alloc_new w1 (.cells #[.string ⟨#[97]⟩, .string ⟨#[98]⟩, .string ⟨#[99]⟩, .string ⟨#[100]⟩] 9)
  obtain ⟨g, hg⟩ : ∃ g, w1.heap.size = g := ⟨_, rfl⟩
  obtain ⟨W2, hW2⟩ : ∃ W2, w1.alloc (.cells #[.string ⟨#[97]⟩, .string ⟨#[98]⟩, .string ⟨#[99]⟩, .string ⟨#[100]⟩] 9) = W2 := ⟨_, rfl⟩
  rw [hg] at hx2
  try rw [hg]
  rw [hW2] at hb2 hx2
  rw [hW2]
  have HL2 := Lib.hid (HLS.out.below hb2)
  have HB2 := Lib.hid (bnext HB1.out hb2)
  have HR : Hid (∀ V, FrS F W2 V → ∀ i : Nat, i < 4 → V.cell? ⟨g, i, none⟩ = some (.string (exS i))) := Lib.hid fun V hV i hi => by
    have q := hV.nd hx2 (fun h => by have := HLS.out.lt g h; omega)
    have h4 : i = 0 ∨ i = 1 ∨ i = 2 ∨ i = 3 := by omega
    rcases h4 with rfl | rfl | rfl | rfl <;> exact nd_cell q rfl
  clear hb2 hx2 hg hW2
  go_loopw [20] (fun v20 wr => ∃ i : Nat, v20 = .int .i64 (i : Int) ∧ i ≤ 4 ∧ Hid (LSr W2 F wr M 2 exT i (exP i))) (fun v _ => 4 - (intOf v).toNat)
  case atStart => exact ⟨0, rfl, Nat.zero_le _, Lib.hid HL2.out.here⟩
  case round =>
    obtain ⟨i, rfl, hi, HI⟩ := hrel
    by_cases hi4 : i < 4
    · have hii : (i : Int) < 4 := by omega
      have hi0 : (0 : Int) ≤ (i : Int) := by omega
      have hc := HR.out wr HI.out.1 i hi4
      have HPL := Lib.hid (exP_len i hi)
      go_upto_region 7 with fail
      clear hc
      go_wp2_with fail
      go_at_call 18
      refine (told_any _ _).mono ?_
      rintro x w4 ⟨rfl, hb4⟩
      have HS := Lib.hid (send_any (HI.out.below hb4) 0 0 1 (exS i) (by omega) HPL.out)
      clear hb4
      go_wp2_with fail
      go_at_call 15
      refine HS.out.mono ?_
      rintro x w5 ⟨rfl, h5⟩
      have H5 : Hid (LSr W2 F w5 M 2 exT (i + 1) (exP (i + 1))) := Lib.hid h5
      clear h5
      go_wp2
      go_roundw
      case rel => exact ⟨i + 1, by go_num, hi4, H5⟩
      case measure => simp [intOf]; omega
    · obtain rfl : i = 4 := by omega
      have hii : ¬ ((4 : Nat) : Int) < 4 := by omega
      have h0 := HI.out
      rw [exP_four] at h0
      have H0 := Lib.hid h0
      clear h0 hi4 hi
      go_upto_region 9 with fail
      have HG1 := Lib.hid (gives_yes H0.out (by unfold LN.Ord; decide) (by decide) ⟨0, 3, 0, 1, ⟨#[100]⟩⟩ rfl)
      go_wp2_with fail
      go_at_call 21
      refine HG1.out.mono ?_
      rintro x wa ⟨rfl, ha⟩
      have HA : Hid (LSr W2 F wa M 2 exT 4 [⟨5, 1, 0, 1, ⟨#[98]⟩⟩, ⟨6, 1, 0, 1, ⟨#[98]⟩⟩, ⟨1, 2, 0, 1, ⟨#[99]⟩⟩]) := Lib.hid ha
      have HG2 := Lib.hid (gives_yes HA.out (by unfold LN.Ord; decide) (by decide) ⟨1, 2, 0, 1, ⟨#[99]⟩⟩ rfl)
      clear ha
      go_wp2_with fail
      go_at_call 21
      refine HG2.out.mono ?_
      rintro x wb ⟨rfl, hb⟩
      have HB : Hid (LSr W2 F wb M 2 exT 4 [⟨5, 1, 0, 1, ⟨#[98]⟩⟩, ⟨6, 1, 0, 1, ⟨#[98]⟩⟩]) := Lib.hid hb
      have HG3 := Lib.hid (gives_yes HB.out (by unfold LN.Ord; decide) (by decide) ⟨5, 1, 0, 1, ⟨#[98]⟩⟩ rfl)
      clear hb
      go_wp2_with fail
      go_at_call 21
      refine HG3.out.mono ?_
      rintro x wc ⟨rfl, hc⟩
      have HC : Hid (LSr W2 F wc M 2 exT 4 [⟨6, 1, 0, 1, ⟨#[98]⟩⟩]) := Lib.hid hc
      have HG4 := Lib.hid (gives_yes HC.out (by unfold LN.Ord; decide) (by decide) ⟨6, 1, 0, 1, ⟨#[98]⟩⟩ rfl)
      clear hc
      go_wp2_with fail
      go_at_call 21
      refine HG4.out.mono ?_
      rintro x wd ⟨rfl, hd⟩
      have HD : Hid (LSr W2 F wd M 2 exT 4 []) := Lib.hid hd
      clear hd
      go_upto_region 10 with fail
      go_wp2_with fail
      go_at_call 20
      refine (next_none HD.out).mono ?_
      rintro x we ⟨rfl, he⟩
      have HE := Lib.hid (he.below (balloc (Below.refl _ we) ms0C))
      clear he
      go_upto_region 11 with fail
      have HS5 := Lib.hid (send_any HE.out 3 0 2 ⟨#[101]⟩ (by decide) (by decide))
      go_wp2_with fail
      go_at_call 15
      refine HS5.out.mono ?_
      rintro x wf ⟨rfl, hf⟩
      have HF : Hid (LSr W2 F wf M 2 exT 5 []) := Lib.hid hf
      clear hf
      go_wp2_with fail
      go_at_call 20
      refine (next_none HF.out).mono ?_
      rintro x wg ⟨rfl, hg⟩
      have HG := Lib.hid (hg.below (balloc (Below.refl _ wg) ms0C))
      clear hg
      go_upto_region 13 with fail
      go_wp2_with fail
      go_at_call 18
      refine (told_any _ _).mono ?_
      rintro x wh ⟨rfl, hh⟩
      have HS6 := Lib.hid (send_any (HG.out.below hh) (-7) 0 1 ⟨#[102]⟩ (by decide) (by decide))
      clear hh
      go_wp2_with fail
      go_at_call 15
      refine HS6.out.mono ?_
      rintro x wi ⟨rfl, hi⟩
      have HI' : Hid (LSr W2 F wi M 2 exT 6 [⟨0, 5, 0, 1, ⟨#[102]⟩⟩]) := Lib.hid hi
      have HG5 := Lib.hid (gives_yes HI'.out (by unfold LN.Ord; decide) (by decide) ⟨0, 5, 0, 1, ⟨#[102]⟩⟩ rfl)
      clear hi
      go_wp2_with fail
      go_at_call 21
      refine HG5.out.mono ?_
      rintro x wj ⟨rfl, hj⟩
      have HFIN := Lib.hid (hj.to_below HB2.out HF0.out)
      clear hj
      go_wp2
      go_ret
      exact ⟨rfl, HFIN.out⟩
end
end Go.Proofs.Ytgphdgalcbcamaa
