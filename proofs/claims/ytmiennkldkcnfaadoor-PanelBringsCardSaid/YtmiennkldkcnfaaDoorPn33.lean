/- A panel that shows rows. No conditions. -/
import Derived.Test.YtmiennkldkcnfaaDoorPn32
namespace Go.Proofs.YtmiennkldkcnfaaDoor
set_option maxRecDepth 100000
set_option linter.unusedVariables false
open Go.ChangeShapes Go.WideShapes Go.ChangeAt Go.RowKit Go.Joins Go.Deep
theorem ins_full {r n : Nat} (hn : n ≤ 64) (hr : r < 2 ^ n) : PN.ins 0 r 0 n = r := Nat.eq_of_testBit_eq fun i => by
  rw [PN.ins_bit (Nat.two_pow_pos _) hr (by omega)]
  by_cases h : i < n
  · rw [if_pos (by omega)]
    rfl
  · rw [if_neg (by omega), PN.bit_ge hr (by omega)]
    simp
theorem page_wr {pw ph : Nat} {R : List Nat} (h1 : 1 ≤ pw) (h2 : pw ≤ 64) (h3 : 1 ≤ ph) (hl : R.length = ph) (hR : ∀ r ∈ R, r < 2 ^ pw) :
    (⟨pw, List.replicate ph 0, 0, false, 0⟩ : Pn).wr ⟨0, 0, pw, ph⟩ R = (0, ⟨pw, R, 1, false, 0⟩) := by
  have hg : (⟨pw, List.replicate ph 0, 0, false, 0⟩ : Pn).good ⟨0, 0, pw, ph⟩ R := by
    refine ⟨?_, by dsimp only; omega, ?_⟩
    · unfold wiP
      dsimp only
      rw [List.length_replicate]
      omega
    · unfold anyW
      rw [List.any_eq_false]
      intro r hr
      have := hR r hr
      simp only [Int.toNat_natCast]
      simp
      omega
  unfold Pn.wr
  rw [if_pos hg, if_pos (by unfold Pn.can; rw [if_neg (by simp)])]
  show (0, (Pn.mk pw (PN.wrt R R.length (0 : Int).toNat (0 : Int).toNat (pw : Int).toNat (List.replicate ph 0)) (0 + 1) false (if (false = true) then 0 - R.length else 0))) = _
  have e : PN.wrt R R.length (0 : Int).toNat (0 : Int).toNat (pw : Int).toNat (List.replicate ph 0) = R := by
    refine List.ext_getElem? fun j => ?_
    rw [PN.wrt_at, List.getElem?_replicate, Int.toNat_natCast]
    by_cases h : j < ph
    · rw [if_pos h, List.getElem?_eq_getElem (show j < R.length by omega)]
      simp only [Option.map_some]
      rw [if_pos ⟨Nat.zero_le _, by show j < 0 + R.length; omega⟩]
      have hj : R.getD (j - 0) 0 = R[j]'(by omega) := by
        rw [Nat.sub_zero, List.getD_eq_getElem?_getD, List.getElem?_eq_getElem (show j < R.length by omega)]
        rfl
      show some (PN.ins 0 (R.getD (j - 0) 0) 0 pw) = _
      rw [hj, ins_full h2 (hR _ (List.getElem_mem _))]
    · rw [if_neg h, List.getElem?_eq_none (show R.length ≤ j by omega)]
      rfl
  rw [e]
  rfl
theorem shows_any (W : World) (pw ph : Nat) (va : Option Addr) (vc : Nat) (R : List Nat) (h1 : 1 ≤ pw) (h2 : pw ≤ 64) (h3 : 1 ≤ ph) (h4 : ph ≤ 64) (hl : R.length = ph) (hR : ∀ r ∈ R, r < 2 ^ pw) (hv : UA W (.slice va ph vc) R) (hq : ∀ q, (Value.slice va ph vc).ownBlock = some q → q < W.heap.size) :
    Calls Tryd.prog 29 #[.int .i64 (pw : Int), .slice va ph vc] W fun e w' => ∃ b g, e = .returned (.pointer (some ⟨b, 0, none⟩)) ∧ PnAt w' b g ⟨pw, R, 1, false, 0⟩ ∧ W.heap.size ≤ b ∧ W.heap.size ≤ g ∧ Below W.heap.size W w' := by
  have HC := Lib.hid (new_any W pw ph ⟨h1, h2⟩ ⟨h3, h4⟩)
  have HPG := Lib.hid (page_wr h1 h2 h3 hl hR)
  have HR := Lib.hid (fun r (hr : r ∈ R) => Nat.lt_of_lt_of_le (hR r hr) (Nat.pow_le_pow_right (n := 2) (by decide) h2))
  have HV := Lib.hid hv
  have HQ := Lib.hid hq
  have hok : PnOk ⟨pw, List.replicate ph 0, 0, false, 0⟩ := ⟨h1, h2, by dsimp only; rw [List.length_replicate]; exact h3, by dsimp only; rw [List.length_replicate]; exact h4, fun r hr => by rw [(List.mem_replicate.1 hr).2]; exact Nat.two_pow_pos _, by dsimp only; omega, by dsimp only; omega⟩
  have HOK := Lib.hid hok
  have HB := Lib.hid (And.intro hl (And.intro h2 h4))
  clear hok hR hv hq hl
  go_enter Tryd.func29, Tryd.ntmps29
  go_wp2_with fail
  go_at_call 12
  refine HC.out.mono ?_
  rintro e w1 ⟨b, g, rfl, kp, kb0, kg0, kb⟩
  have hu := HV.out.keep kb
  have hw := wr_any kp HOK.out (by show (0 : Nat) < 1000000; decide) ⟨0, 0, pw, ph⟩ (by unfold rcOk; dsimp only; have := HB.out; omega) R (.slice va ph vc) hu (fun q hq => by have := HQ.out q hq; omega) (by have := HB.out; omega) HR.out
  rw [HPG.out] at hw
  have HW := Lib.hid hw
  have HK := Lib.hid (And.intro kb0 (And.intro kg0 kb))
  clear kp kb0 kg0 kb hu hw HC
  go_wp2_with fail
  go_at_call 30
  refine HW.out.mono ?_
  rintro e w2 ⟨rfl, kp, kf⟩
  have HP := Lib.hid kp
  have HF := Lib.hid (kf.below W HK.out.2.2 (fun q hq => by have := HK.out; rcases hq with e | e <;> omega))
  clear kp kf HW
  go_wp2
  go_ret
  exact ⟨b, g, rfl, HP.out, HK.out.1, HK.out.2.1, HF.out⟩
end Go.Proofs.YtmiennkldkcnfaaDoor
