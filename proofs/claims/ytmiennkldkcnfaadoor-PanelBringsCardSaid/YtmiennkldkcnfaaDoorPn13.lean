/- The iterator over the pieces of rows that differ. No conditions. -/
import Derived.Test.YtmiennkldkcnfaaDoorPn12
import Derived.Test.YtmiennkldkcnfaaDoorNeed
import Derived.Test.YtmiennkldkcnfaaDoorLater
import Derived.Test.YtmiennkldkcnfaaDoorHeldIn
import Derived.Test.YtmiennkldkcnfaaDoorLastIn
import Derived.Test.YtmiennkldkcnfaaDoorMarks
import Derived.Test.YtmiennkldkcnfaaDoorRoundIn
import Derived.Shelf.RegionOpen
import Derived.Stop.RegionWithIn
import Derived.LoopIn
import Derived.Sort.CutIn
namespace Go.Proofs.YtmiennkldkcnfaaDoor
set_option maxRecDepth 100000
set_option linter.unusedVariables false
open Go.RowKit Go.Shelf Go.Deep
attribute [local go_sem] Oper.semAt_some
theorem pieces_any (a : Option Addr) (n c : Nat) (w : World) :
    Calls Tryd.prog 41 #[.slice a n c] w fun e w' => e = .returned (.func (.func 56) #[] #[.pointer (some ⟨w.heap.size, 0, none⟩)]) ∧ w' = w.alloc (.cells #[.slice a n c] 32) := by
  go_enter Tryd.func41, Tryd.ntmps41
  go_wp2
  go_ret
  exact ⟨rfl, rfl⟩
abbrev Pc2 := Nat × Nat
def bxp (D : List Nat) (x : Pc2) : Rc := PN.bx D x.1 (x.2 - x.1 - 1)
/-- What the iterator needs: its box, and the rows. -/
def PcN (c : Nat) (v : Value) (D : List Nat) (pre : List Pc2) (W : World) : Prop := W.cell? ⟨c, 0, none⟩ = some v ∧ UA W v D
/-- What a round is told: a piece, all of whose rows differ. -/
def PcG (D : List Nat) (pre : List Pc2) (x : Pc2) (_ : World) : Prop := pre.length ≤ x.1 ∧ x.1 < x.2 ∧ x.2 ≤ D.length ∧ ∀ k, x.1 ≤ k → k < x.2 → D.getD k 0 ≠ 0
def encP (x : Pc2) : Array Value := #[.int .i64 (x.1 : Int), .int .i64 (x.2 : Int)]
def PcInv (D : List Nat) (f : Nat) (pre : List Pc2) : Prop := (f ≤ D.length ∧ pre.length ≤ f ∧ PN.pl D f = (pre.map (bxp D), false)) ∨ (f = D.length + 1 ∧ (PN.pl D D.length).1 = pre.map (bxp D))
def PcS (D : List Nat) (xs : List Pc2) : Prop := (PN.pl D D.length).1 = xs.map (bxp D)
theorem PcInv.next {D : List Nat} {f t : Nat} {pre : List Pc2} (h : PcInv D f pre) (hf : f < D.length) (hft : f < t) (ht : t ≤ D.length) (hd : ∀ k, f ≤ k → k < t → D.getD k 0 ≠ 0) (he : t = D.length ∨ D.getD t 0 = 0) : PcInv D (t + 1) (pre ++ [(f, t)]) := by
  rcases h with ⟨-, hl, h⟩ | ⟨h, -⟩
  · have h1 := PN.pl_piece D f (t - f - 1) (by rw [h]) (fun k a b => hd k a (by omega))
    rw [show f + (t - f - 1) + 1 = t by omega, h] at h1
    have e : pre.map (bxp D) ++ [PN.bx D f (t - f - 1)] = (pre ++ [(f, t)]).map (bxp D) := by rw [List.map_append]; rfl
    by_cases htn : t = D.length
    · refine .inr ⟨by omega, ?_⟩
      rw [← htn, h1]
      exact e
    · refine .inl ⟨by omega, by rw [List.length_append, List.length_singleton]; omega, ?_⟩
      rw [PN.pl_zero D t (he.resolve_left htn), h1, ← e]
  · omega
theorem PcInv.skip {D : List Nat} {f : Nat} {pre : List Pc2} (h : PcInv D f pre) (hf : f < D.length) (hd : D.getD f 0 = 0) : PcInv D (f + 1) pre := by
  rcases h with ⟨-, hl, h⟩ | ⟨h, -⟩
  · exact .inl ⟨by omega, by omega, by rw [PN.pl_zero D f hd, h]⟩
  · omega
theorem PcInv.len {D : List Nat} {f : Nat} {pre : List Pc2} (h : PcInv D f pre) (hf : f < D.length) : pre.length ≤ f := by
  rcases h with ⟨-, hl, -⟩ | ⟨h, -⟩
  · exact hl
  · omega
theorem PcInv.fin {D : List Nat} {f : Nat} {pre : List Pc2} (h : PcInv D f pre) (hf : ¬ f < D.length) : PcS D pre := by
  rcases h with ⟨h0, -, h⟩ | ⟨-, h⟩
  · obtain rfl : f = D.length := by omega
    unfold PcS
    rw [h]
  · exact h
set_option maxHeartbeats 4000000 in
theorem pieces_in (m : Nat) (hm : 1 ≤ m) (l c : Nat) (v : Value) (D : List Nat) (hD : D.length ≤ 1000) (J Jx : List Pc2 → World → Prop)
    (W : World) (hJ : AbidesFrom W.heap.size J) (hN : ∀ pre W1, J pre W1 → PcN c v D pre W1)
    (hY : ∀ pre x W1, J pre W1 → PcG D pre x W1 → YieldAt Fence.wide (m - 1) Tryd.prog l (encP x) W1 fun e W' =>
      (e = .returned (.bool true) ∧ J (pre ++ [x]) W') ∨ (e = .returned (.bool false) ∧ Jx (pre ++ [x]) W')) (h0 : J [] W) :
    CallsIn Fence.wide m Tryd.prog 56 #[.func (.yield l) #[] #[], .pointer (some ⟨c, 0, none⟩)] W fun e W' => (∃ v, e = .returned v) ∧
      ((∃ ys : List Pc2, PcS D ys ∧ J ys W') ∨ (∃ pre : List Pc2, True ∧ Jx pre W')) := by
  have HN := Lib.hid hN
  have HY := Lib.hid hY
  have H0 := Lib.hid h0
  obtain ⟨va, vc, rfl⟩ := (hN [] W h0).2.shape
  obtain ⟨n, hn⟩ : ∃ n, D.length = n := ⟨_, rfl⟩
  have HLN := Lib.hid hn
  rw [hn] at HN hD
  have HP0 : Hid (PcInv D 0 []) := Lib.hid (.inl ⟨Nat.zero_le _, Nat.le_refl _, rfl⟩)
  have q0 := (HN.out [] W h0).1
  clear hJ hN hY h0 hn
  refine callsIn_of_wp Tryd.func56 rfl trivial ?_ rfl
  simp only [Tryd.ntmps56, List.size_toArray, List.length_cons, List.length_nil, Nat.reduceAdd, Nat.reduceSub, Array.replicate_succ, Array.replicate_zero, List.push_toArray, List.append_toArray, List.nil_append, List.cons_append]
  gi_wp2
  gi_loopw [3] (fun v wr => ∃ (f : Nat) (pre : List Pc2), v = .int .i64 (f : Int) ∧ f ≤ n + 1 ∧ Hid (PcInv D f pre) ∧ J pre wr) (fun v _ => n + 1 - (intOf v).toNat)
  case atStart => exact ⟨0, [], rfl, by omega, HP0, H0.out⟩
  case round =>
    clear H0 HP0 q0
    obtain ⟨f, pre, rfl, hf, HI, hj⟩ := hrel
    have HJ := Lib.hid hj
    obtain ⟨c1, hua⟩ := HN.out pre wr hj
    have HUA := Lib.hid hua
    clear hj hua
    by_cases hfn : f < n
    · have hfz : (f : Int) < (n : Int) := by omega
      have hf0 : (0 : Int) ≤ (f : Int) := by omega
      gi_upto_region 4 with fail
      gi_loopw [4] (fun v4 wq => wq = wr ∧ ∃ t : Nat, v4 = .int .i64 (t : Int) ∧ f ≤ t ∧ t ≤ n ∧ Hid (∀ k, f ≤ k → k < t → D.getD k 0 ≠ 0)) (fun v _ => n - (intOf v).toNat)
      case atStart => exact ⟨by trivial, f, rfl, Nat.le_refl _, by omega, Lib.hid fun k a b => by omega⟩
      case round =>
        obtain ⟨hwr, t, rfl, hft, htn, HD⟩ := hrel
        have hwr' := hwr.symm
        subst hwr'
        by_cases htl : t < n
        · have htz : (t : Int) < (n : Int) := by omega
          have ht0 : (0 : Int) ≤ (t : Int) := by omega
          obtain ⟨x, hx⟩ : ∃ x, D[t]? = some x := ⟨_, List.getElem?_eq_getElem (by rw [HLN.out]; exact htl)⟩
          have hgx : D.getD t 0 = x := by rw [List.getD_eq_getElem?_getD, hx]; rfl
          obtain ⟨g, o, rfl, hg, hcx⟩ := HUA.out.cell hx
          have HGX := Lib.hid hgx
          clear hx hgx
          by_cases hx0 : x = 0
          · subst hx0
            have HTE : Hid (t = D.length ∨ D.getD t 0 = 0) := Lib.hid (.inr HGX.out)
            clear htl
            by_cases hgt : f < t
            · skip
              have hgz : (t : Int) > (f : Int) := by omega
              have hgz2 : (f : Int) < (t : Int) := by omega
              have HPI : Hid (PcInv D (t + 1) (pre ++ [(f, t)])) := Lib.hid (HI.out.next (by rw [HLN.out]; exact hfn) hgt (by rw [HLN.out]; exact htn) HD.out HTE.out)
              obtain ⟨fn, tmps, assign, body, hy, hR⟩ := HY.out pre (f, t) _ HJ.out ⟨HI.out.len (by rw [HLN.out]; exact hfn), hgt, by rw [HLN.out]; exact htn, HD.out⟩
              simp only [encP] at hy
              clear hgt
              gi_wp2
              refine hR.mono ?_
              rintro e W3 (⟨rfl, hJ3⟩ | ⟨rfl, hJx3⟩)
              · gi_wp2
                refine ⟨⟨t + 1, pre ++ [(f, t)], by go_num, by omega, HPI, hJ3⟩, ?_⟩
                simp [intOf]; omega
              · gi_wp2
                refine bodyPost_ret (results_none rfl _ _ _) rfl ?_
                exact ⟨⟨_, rfl⟩, .inr ⟨_, trivial, hJx3⟩⟩
            · have hgz : ¬ (f : Int) < (t : Int) := by omega
              have hgd : decide ((f : Int) < (t : Int)) = false := decide_eq_false hgz
              have HPI : Hid (PcInv D (t + 1) pre) := Lib.hid (by
                have e : f = t := by omega
                have h1 := HI.out.skip (by rw [HLN.out]; exact hfn) (by rw [e]; exact HTE.out.resolve_left (by rw [HLN.out]; omega))
                rw [e] at h1
                exact h1)
              clear hgt
              gi_wp2
              refine ⟨(fun _ h => nomatch h), ?_⟩
              gi_wp2
              refine ⟨⟨t + 1, pre, by go_num, by omega, HPI, HJ.out⟩, ?_⟩
              simp [intOf]; omega
          · have hq : ((x : Int) != 0) = true := by simp; omega
            have HD2 : Hid (∀ k, f ≤ k → k < t + 1 → D.getD k 0 ≠ 0) := Lib.hid fun k a b => by
              by_cases e : k = t
              · rw [e, HGX.out]
                exact hx0
              · exact HD.out k a (by omega)
            clear hx0
            gi_wp2
            go_roundw
            case rel => exact ⟨by trivial, t + 1, by go_num, by omega, by omega, HD2⟩
            case measure => simp [intOf]; omega
        · have htz : ¬ (t : Int) < (n : Int) := by omega
          have HTE : Hid (t = D.length ∨ D.getD t 0 = 0) := Lib.hid (.inl (by rw [HLN.out]; omega))
          have hgt : f < t := by omega
          clear htl
          have hgz : (t : Int) > (f : Int) := by omega
          have hgz2 : (f : Int) < (t : Int) := by omega
          have HPI : Hid (PcInv D (t + 1) (pre ++ [(f, t)])) := Lib.hid (HI.out.next (by rw [HLN.out]; exact hfn) hgt (by rw [HLN.out]; exact htn) HD.out HTE.out)
          obtain ⟨fn, tmps, assign, body, hy, hR⟩ := HY.out pre (f, t) _ HJ.out ⟨HI.out.len (by rw [HLN.out]; exact hfn), hgt, by rw [HLN.out]; exact htn, HD.out⟩
          simp only [encP] at hy
          clear hgt
          gi_wp2
          refine hR.mono ?_
          rintro e W3 (⟨rfl, hJ3⟩ | ⟨rfl, hJx3⟩)
          · gi_wp2
            refine ⟨⟨t + 1, pre ++ [(f, t)], by go_num, by omega, HPI, hJ3⟩, ?_⟩
            simp [intOf]; omega
          · gi_wp2
            refine bodyPost_ret (results_none rfl _ _ _) rfl ?_
            exact ⟨⟨_, rfl⟩, .inr ⟨_, trivial, hJx3⟩⟩
    · have hfz : ¬ (f : Int) < (n : Int) := by omega
      have HFI : Hid (PcS D pre) := Lib.hid (HI.out.fin (by rw [HLN.out]; exact hfn))
      clear hfn
      gi_wp2
      go_end0
      exact ⟨⟨_, rfl⟩, .inl ⟨pre, HFI.out, HJ.out⟩⟩
theorem pieces_need (m : Nat) (hm : 1 ≤ m) (c : Nat) (v : Value) (D : List Nat) (hD : D.length ≤ 1000) (w : World) :
    SeqNeed Fence.wide m Tryd.prog 56 #[.pointer (some ⟨c, 0, none⟩)] encP (PcN c v D) (PcG D) (PcS D) (fun _ => True) w := fun l J Jx W _ hJ _ hN hY h0 =>
  pieces_in m hm l c v D hD J Jx W hJ hN hY h0
end Go.Proofs.YtmiennkldkcnfaaDoor

