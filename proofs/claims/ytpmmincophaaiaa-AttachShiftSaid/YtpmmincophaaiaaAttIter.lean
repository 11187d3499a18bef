/- The glyphs before one, as the program yields them. No conditions. -/
import Derived.Test.YtpmmincophaaiaaAttRPlw
import Derived.Test.YtpmmincophaaiaaRange
import Derived.Test.YtpmmincophaaiaaLater
import Derived.Shelf.RegionOpen
import Derived.LoopIn
namespace Go.Proofs.Ytpmmincophaaiaa
set_option maxRecDepth 100000
set_option linter.unusedVariables false
open Go.RowKit Go.Shelf Go.Deep
attribute [local go_sem] Oper.semAt_some
set_option maxHeartbeats 400000 in
theorem before_any (v : Value) (k : Int) (w : World) (a : Option Addr) (n c : Nat) (hv : v = .slice a n c) :
    Calls Try.prog 23 #[v, .int .i64 k] w fun e w' => e = .returned (.func (.func 28) #[] #[.pointer (some ⟨w.heap.size + 1, 0, none⟩), .pointer (some ⟨w.heap.size, 0, none⟩)]) ∧ w' = (w.alloc (.cells #[v] 24)).alloc (.cells #[.int .i64 k] 3) := by
  subst hv
  go_enter Try.func23, Try.ntmps23
  go_wp2
  go_ret
  exact ⟨by simp, rfl⟩
/-- The cells of the first blocks are kept. -/
def KpN (N : Nat) (A B : World) : Prop := A.heap.size ≤ B.heap.size ∧ ∀ p : Addr, p.block < N → B.cell? p = A.cell? p
theorem KpN.refl (N : Nat) (A : World) : KpN N A A := ⟨Nat.le_refl _, fun _ _ => rfl⟩
theorem KpN.trans {N : Nat} {A B C : World} (h : KpN N A B) (k : KpN N B C) : KpN N A C := ⟨Nat.le_trans h.1 k.1, fun p hp => (k.2 p hp).trans (h.2 p hp)⟩
theorem AnAt.cells {W W' : World} {v : Value} {l : List AT.An} (h : AnAt W v l) (hs : W.heap.size ≤ W'.heap.size) (hb : ∀ p : Addr, p.block < W.heap.size → W'.cell? p = W.cell? p) : AnAt W' v l := by
  obtain ⟨a, cap, e, h⟩ := h
  refine ⟨a, cap, e, ?_⟩
  rcases h with h | ⟨g, o, e2, hg, hc⟩
  · exact .inl h
  · refine .inr ⟨g, o, e2, Nat.lt_of_lt_of_le hg hs, fun i z hz => ?_⟩
    obtain ⟨c1, c2, c3⟩ := hc i z hz
    exact ⟨(hb ⟨g, o + i * 3, none⟩ hg).trans c1, (hb ⟨g, o + i * 3 + 1, none⟩ hg).trans c2, (hb ⟨g, o + i * 3 + 2, none⟩ hg).trans c3⟩
theorem DsAt.cells {W W' : World} {v : Value} {l : List AT.Dr} (h : DsAt W v l) (hs : W.heap.size ≤ W'.heap.size) (hb : ∀ p : Addr, p.block < W.heap.size → W'.cell? p = W.cell? p) : DsAt W' v l := by
  obtain ⟨a, cap, e, h⟩ := h
  refine ⟨a, cap, e, ?_⟩
  rcases h with h | ⟨g, o, e2, hg, hc⟩
  · exact .inl h
  · refine .inr ⟨g, o, e2, Nat.lt_of_lt_of_le hg hs, fun i d hd => ?_⟩
    obtain ⟨ca, cn, cc, va, ha, c0, c1, c2, c3, c4, c5⟩ := hc i d hd
    exact ⟨ca, cn, cc, va, ha.cells hs hb, (hb ⟨g, o + i * 6, none⟩ hg).trans c0, (hb ⟨g, o + i * 6 + 1, none⟩ hg).trans c1, (hb ⟨g, o + i * 6 + 2, none⟩ hg).trans c2, (hb ⟨g, o + i * 6 + 3, none⟩ hg).trans c3, (hb ⟨g, o + i * 6 + 4, none⟩ hg).trans c4, (hb ⟨g, o + i * 6 + 5, none⟩ hg).trans c5⟩
/-- A number and a glyph, as they are yielded. -/
abbrev BfX := Nat × Value
def bfEnc (x : BfX) : Array Value := #[.int .i64 (x.1 : Int), x.2]
/-- What is known of the glyph that comes. -/
def BfG (D : List AT.Dr) (k : Nat) (pre : List BfX) (x : BfX) (W : World) : Prop := pre.length + x.1 + 1 = k ∧ ∃ (d : AT.Dr) (ca : Option Addr) (cn cc : Nat) (aa : Option Addr) (ac : Nat), D[x.1]? = some d ∧ x.2 = .agg #[.slice ca cn cc, .slice aa d.anchors.length ac, .int .i64 d.hang.1, .int .i64 d.hang.2.1, .int .i64 d.hang.2.2, .int .i64 d.adv] ∧ AnAt W (.slice aa d.anchors.length ac) d.anchors
set_option maxHeartbeats 4000000 in
theorem before_in (n : Nat) (hn : 1 ≤ n) (l bk bl N : Nat) (D : List AT.Dr) (v : Value) (k : Nat) (hk : k ≤ D.length) (hD : D.length ≤ 1000000000000) (J Jx : List BfX → World → Prop)
    (hY : ∀ pre x W, J pre W → BfG D k pre x W → YieldAt Fence.wide (n - 1) Try.prog l (bfEnc x) W fun e W' =>
      (e = .returned (.bool true) ∧ J (pre ++ [x]) W' ∧ KpN N W W') ∨ (e = .returned (.bool false) ∧ Jx (pre ++ [x]) W'))
    (U : World) (HS : ∀ V, KpN N U V → DsAt V v D ∧ V.cell? ⟨bk, 0, none⟩ = some (.int .i64 (k : Int)) ∧ V.cell? ⟨bl, 0, none⟩ = some v) (h0 : J [] U) :
    CallsIn Fence.wide n Try.prog 28 #[.func (.yield l) #[] #[], .pointer (some ⟨bk, 0, none⟩), .pointer (some ⟨bl, 0, none⟩)] U fun e W' => (∃ v, e = .returned v) ∧
      ((∃ xs : List BfX, xs.length = k ∧ J xs W') ∨ (∃ pre : List BfX, True ∧ Jx pre W')) := by
  obtain ⟨hds, c0, c1⟩ := HS U (KpN.refl _ _)
  obtain ⟨a, cap, rfl, hc⟩ := hds
  obtain ⟨m, hm⟩ : ∃ m, D.length = m := ⟨_, rfl⟩
  have HM := Lib.hid hm
  rw [hm] at hk hD c1 HS
  have HSS := Lib.hid HS
  have HY := Lib.hid hY
  have H0 := Lib.hid h0
  clear HS hY h0 hc hm
  refine callsIn_of_wp Try.func28 rfl trivial ?_ rfl
  simp only [Try.ntmps28, List.size_toArray, List.length_cons, List.length_nil, Nat.reduceAdd, Nat.reduceSub, Array.replicate_succ, Array.replicate_zero, List.push_toArray, List.append_toArray, List.nil_append, List.cons_append]
  gi_wp2
  clear c0 c1
  gi_loopw [4] (fun v4 wr => ∃ (pre : List BfX) (i : Nat), pre.length + i = k ∧ v4 = .int .i64 ((i : Int) - 1) ∧ J pre wr ∧ KpN N U wr) (fun v _ => (intOf v + 1).toNat)
  case atStart => exact ⟨[], k, by simp, rfl, H0.out, KpN.refl _ _⟩
  case round =>
    clear H0
    obtain ⟨pre, i, hpk, rfl, hJr, hkp⟩ := hrel
    cases i with
    | zero =>
      gi_wp2
      refine ⟨fun _ h => (by cases h), ?_⟩
      gi_wp2
      go_end0
      exact ⟨⟨_, rfl⟩, .inl ⟨pre, by omega, hJr⟩⟩
    | succ i =>
      have hii : (((i + 1 : Nat) : Int) - 1) = (i : Int) := by omega
      rw [hii]
      have hi0 : (0 : Int) ≤ (i : Int) := by omega
      have him : (i : Int) < (m : Int) := by omega
      obtain ⟨d, hd⟩ : ∃ d, D[i]? = some d := ⟨D[i]'(by rw [HM.out]; omega), List.getElem?_eq_getElem _⟩
      obtain ⟨hds, c0, c1⟩ := HSS.out wr hkp
      obtain ⟨aw, cw, e1, hc⟩ := hds
      rw [HM.out] at e1
      injection e1 with e1 e2 e3
      subst e1 e3
      rcases hc with h | ⟨g, o, rfl, hg, hcl⟩
      · rw [h] at hd
        simp at hd
      obtain ⟨ca, cn, cc, va, ha, x0, x1, x2, x3, x4, x5⟩ := hcl i d hd
      have ha' := ha
      obtain ⟨aa, ac, rfl, hal⟩ := ha
      obtain ⟨fn, tmps, assign, body, hyy, hR⟩ := HY.out pre (i, .agg #[.slice ca cn cc, .slice aa d.anchors.length ac, .int .i64 d.hang.1, .int .i64 d.hang.2.1, .int .i64 d.hang.2.2, .int .i64 d.adv]) wr hJr ⟨by omega, d, ca, cn, cc, aa, ac, hd, rfl, ha'⟩
      simp only [bfEnc] at hyy
      clear hcl hal ha' hii
      gi_wp2
      refine hR.mono ?_
      rintro e W3 (⟨rfl, hJ3, hk3⟩ | ⟨rfl, hJx3⟩)
      · have HJ3 := Lib.hid hJ3
        have HK3 := Lib.hid (hkp.trans hk3)
        clear hJ3 hJr hR hk3 hkp x0 x1 x2 x3 x4 x5 c0 c1
        gi_wp2
        go_roundw
        case rel => exact ⟨pre ++ [_], i, by rw [List.length_append, List.length_singleton]; omega, by go_num, HJ3.out, HK3.out⟩
        case measure => simp [intOf] <;> omega
      · gi_wp2
        go_end0
        exact ⟨⟨_, rfl⟩, .inr ⟨_, trivial, hJx3⟩⟩
/-- .. as what is ranged over. -/
theorem before_given (n : Nat) (hn : 1 ≤ n) (bk bl : Nat) (D : List AT.Dr) (v : Value) (k : Nat) (hk : k ≤ D.length) (hD : D.length ≤ 1000000000000) (W0 : World) (hds : DsAt W0 v D)
    (c0 : W0.cell? ⟨bk, 0, none⟩ = some (.int .i64 (k : Int))) (c1 : W0.cell? ⟨bl, 0, none⟩ = some v) :
    SeqGiven Fence.wide n Try.prog 28 #[.pointer (some ⟨bk, 0, none⟩), .pointer (some ⟨bl, 0, none⟩)] bfEnc (KpN W0.heap.size) (fun _ _ => False) (BfG D k) (fun xs => xs.length = k) (fun _ => True) W0 :=
  fun l J Jx U hU hJ hJx hJo hJxo hY h0 => before_in n hn l bk bl W0.heap.size D v k hk hD J Jx hY U (fun V hV => by
    have hc : ∀ p : Addr, p.block < W0.heap.size → V.cell? p = W0.cell? p := fun p hp => (hV.2 p hp).trans (hU.cell hp)
    have hs : W0.heap.size ≤ V.heap.size := Nat.le_trans hU.size hV.1
    exact ⟨DsAt.cells hds hs hc, (hc _ (World.block_lt_of_cell? W0 _ c0)).trans c0, (hc _ (World.block_lt_of_cell? W0 _ c1)).trans c1⟩) h0
end Go.Proofs.Ytpmmincophaaiaa
