/- A memory by itself; the examples. No conditions. -/
import Derived.Test.YtmnajongifdajaaMem32
namespace Go.Proofs.Ytmnajongifdajaa
set_option maxRecDepth 100000
set_option linter.unusedVariables false
open Go.RowKit Go.Deep ME
/-- A memory, with what it holds, within the blocks F. -/
structure MS (W : World) (M mb root : Nat) (bu : Int) (P : List En) (k : Nat) (F : Nat → Prop) : Prop where
  out : ∃ L n, L.map Prod.snd = P ∧ n ≤ k ∧ MmAt W M mb root bu L n F
  ok : ME.Ok bu P
  l1 : P.length ≤ k
def MSr (W : World) (F : Nat → Prop) (w : World) (M mb root : Nat) (bu : Int) (P : List En) (k : Nat) : Prop := FrS F W w ∧ ∃ F', MS w M mb root bu P k F' ∧ ∀ b, F' b → F b ∨ W.heap.size ≤ b
section
variable {W w w' : World} {F F' : Nat → Prop} {M mb root : Nat} {bu : Int} {P Q : List En} {k k' : Nat}
theorem MS.below (h : MS W M mb root bu P k F) (hb : Below W.heap.size W w) : MS w M mb root bu P k F := by
  obtain ⟨⟨L, n, h1, h2, h3⟩, o, l⟩ := h
  exact ⟨⟨L, n, h1, h2, h3.below hb⟩, o, l⟩
theorem MS.here (h : MS W M mb root bu P k F) : MSr W F W M mb root bu P k := ⟨FrS.refl _ _, F, h, fun b hb => .inl hb⟩
theorem MSr.below (h : MSr W F w M mb root bu P k) (hb : Below w.heap.size w w') : MSr W F w' M mb root bu P k := by
  obtain ⟨h1, F', h2, h3⟩ := h
  exact ⟨h1.then hb, F', h2.below hb, h3⟩
theorem MSr.glue (h1 : FrS F W w) (h3 : ∀ b, F' b → F b ∨ W.heap.size ≤ b) (hn : MSr w F' w' M mb root bu Q k') : MSr W F w' M mb root bu Q k' := by
  obtain ⟨g1, F'', g2, g3⟩ := hn
  exact ⟨h1.over g1 h3, F'', g2, fun b hb => (g3 b hb).elim (h3 b) (fun z => .inr (Nat.le_trans h1.size z))⟩
theorem MSr.from_below (h : MSr w F w' M mb root bu P k) (hb : Below W.heap.size W w) : MSr W F w' M mb root bu P k := by
  obtain ⟨h1, F'', g2, g3⟩ := h
  exact ⟨(FrS.of hb).trans h1, F'', g2, fun b hb' => (g3 b hb').imp id (fun z => Nat.le_trans hb.size z)⟩
theorem MS.mono (h : MS W M mb root bu P k F) (hk : k ≤ k') : MS W M mb root bu P k' F := by
  obtain ⟨⟨L, n, h1, h2, h3⟩, o, l⟩ := h
  exact ⟨⟨L, n, h1, by omega, h3⟩, o, by omega⟩
theorem MSr.mono (h : MSr W F w M mb root bu P k) (hk : k ≤ k') : MSr W F w M mb root bu P k' := by
  obtain ⟨h1, F', h2, h3⟩ := h
  exact ⟨h1, F', h2.mono hk, h3⟩
theorem MSr.to_below {w0 : World} (h : MSr W F w M mb root bu P k) (h0 : Below w0.heap.size w0 W) (hH : ∀ b, F b → w0.heap.size ≤ b) : Below w0.heap.size w0 w := h.1.below w0 h0 hH
theorem MSr.l1 (h : MSr W F w M mb root bu P k) : P.length ≤ k := by
  obtain ⟨_, F', h2, _⟩ := h
  exact h2.l1
theorem MSr.ok (h : MSr W F w M mb root bu P k) : ME.Ok bu P := by
  obtain ⟨_, F', h2, _⟩ := h
  exact h2.ok
theorem MS.of_at {L : List (Nat × En)} {n : Nat} (h : MmAt W M mb root bu L n F) (hL : L.map Prod.snd = P) (hn : n ≤ k) (hok : ME.Ok bu P) (hl : P.length ≤ k) : MS W M mb root bu P k F := ⟨⟨L, n, hL, hn, h⟩, hok, hl⟩
/-- What was beside the reference's is a memory by itself. -/
theorem PS.ms {r : Nat} {P2 : List En} {H : Nat → Prop} (h : PS W M mb root r bu P P2 k H) : ∃ F, MS W M mb root bu P k F ∧ ∀ b, F b → H b := by
  obtain ⟨⟨L, n, F, G, h1, h2, h3, h4, h5, h6, h7⟩, o1, o2, l1, l2, lt⟩ := h
  exact ⟨F, ⟨⟨L, n, h1, h2, h3⟩, o1, l1⟩, h6⟩
theorem use_s (ky : K4) (hk : K4ok ky) (h : MSr W F w M mb root bu P k) : Calls Try.prog 14 #[ptr M, kyV ky] w fun x w' => x = .returned (.bool (ME.use ky P).2) ∧ MSr W F w' M mb root bu (ME.use ky P).1 k := by
  obtain ⟨f, F', ⟨⟨L, n, hL, hn, hm⟩, ok, l1⟩, hs⟩ := h
  subst hL
  refine (use_any w M mb root bu L n F' ky hk hm ok).mono ?_
  rintro x w' ⟨rfl, ⟨L', hL', hm', ok'⟩, hf⟩
  exact ⟨rfl, MSr.glue f hs ⟨hf, F', MS.of_at hm' hL' hn (ok.use ky) (by rw [ME.use_len ky ok]; exact l1), fun b hb => .inl hb⟩⟩
theorem drop_s (ky : K4) (hk : K4ok ky) (h : MSr W F w M mb root bu P k) : Calls Try.prog 16 #[ptr M, kyV ky] w fun x w' => x = .returned (.int .i64 (ME.drop ky P).2) ∧ MSr W F w' M mb root bu (ME.drop ky P).1 k := by
  obtain ⟨f, F', ⟨⟨L, n, hL, hn, hm⟩, ok, l1⟩, hs⟩ := h
  subst hL
  refine (drop_any w M mb root bu L n F' ky hk hm ok).mono ?_
  rintro x w' ⟨rfl, ⟨L', hL', hm', ok'⟩, hf⟩
  exact ⟨rfl, MSr.glue f hs ⟨hf, F', MS.of_at hm' hL' hn (ok.drop ky) (by exact Nat.le_trans (ME.drop_len ky _) l1), fun b hb => .inl hb⟩⟩
theorem pin_s (ky : K4) (on : Bool) (hk : K4ok ky) (h : MSr W F w M mb root bu P k) : Calls Try.prog 15 #[ptr M, kyV ky, .bool on] w fun x w' => x = .returned (.int .i64 (ME.pin ky on P).2) ∧ MSr W F w' M mb root bu (ME.pin ky on P).1 k := by
  obtain ⟨f, F', ⟨⟨L, n, hL, hn, hm⟩, ok, l1⟩, hs⟩ := h
  subst hL
  refine (pin_any w M mb root bu L n F' ky on hk hm ok).mono ?_
  rintro x w' ⟨rfl, ⟨L', hL', hm', ok'⟩, hf⟩
  exact ⟨rfl, MSr.glue f hs ⟨hf, F', MS.of_at hm' hL' hn (ok.pin ky on) (by rw [ME.pin_len ky on]; exact l1), fun b hb => .inl hb⟩⟩
theorem put_s (ky : K4) (s : Int) (hk : K4ok ky) (h : MSr W F w M mb root bu P k) (hb : k ≤ 100000) : Calls Try.prog 17 #[ptr M, kyV ky, .int .i64 s] w fun x w' => ∃ v, x = .returned (.tuple #[v, .int .i64 (ME.put bu ky s P).2.2]) ∧ w'.ownsRow w.heap.size 34 4 v (ME.put bu ky s P).2.1.length (ME.kc (ME.put bu ky s P).2.1) ∧ MSr W F w' M mb root bu (ME.put bu ky s P).1 (k + 1) := by
  obtain ⟨f, F', ⟨⟨L, n, hL, hn, hm⟩, ok, l1⟩, hs⟩ := h
  subst hL
  refine (put_any w M mb root bu s L n F' ky hk hm ok (by omega) (by rw [List.length_map] at l1; omega)).mono ?_
  rintro x w' ⟨⟨v, rfl, hrow⟩, ⟨L', n', F2, hL', hn', hm', ok', hF'⟩, hf⟩
  refine ⟨v, rfl, hrow, MSr.glue f hs ⟨hf, F2, MS.of_at hm' hL' (by omega) (ok.put ky s hk) ?_, hF'⟩⟩
  have := (ME.put_len bu ky s (L.map Prod.snd)).1
  omega
theorem used_s (h : MSr W F w M mb root bu P k) : Calls Try.prog 19 #[ptr M] w fun x w' => x = .returned (.int .i64 (ME.sm P)) ∧ w' = w := by
  obtain ⟨f, F', ⟨⟨L, n, hL, hn, hm⟩, ok, l1⟩, hs⟩ := h
  subst hL
  exact used_any w M mb root bu L n F' hm
theorem list_s (h : MSr W F w M mb root bu P k) (hb : k ≤ 100000) : Calls Try.prog 18 #[ptr M] w fun x w' => ∃ v, x = .returned v ∧ w'.ownsRow w.heap.size 34 4 v (P.map En.key).length (ME.kc (P.map En.key)) ∧ Below w.heap.size w w' := by
  obtain ⟨f, F', ⟨⟨L, n, hL, hn, hm⟩, ok, l1⟩, hs⟩ := h
  subst hL
  refine (list_any w M mb root bu L n F' hm (by rw [List.length_map] at l1; omega)).mono ?_
  rintro x w' ⟨v, rfl, hrow, hb⟩
  refine ⟨v, rfl, ?_, hb⟩
  rw [List.map_map, List.length_map]
  exact hrow
end
theorem MS.new {W W1 : World} {M mb root : Nat} {bu : Int} (hm : MmAt W1 M mb root bu [] 0 (fun b => W.heap.size ≤ b ∧ b < W1.heap.size)) (h0 : 0 ≤ bu) (h1 : bu ≤ 1073741824) : MS W1 M mb root bu [] 0 (fun b => W.heap.size ≤ b ∧ b < W1.heap.size) :=
  ⟨⟨[], 0, rfl, Nat.le_refl _, hm⟩, ⟨h0, h1, (fun e he => by cases he), h0, List.nodup_nil, (fun e he => by cases he)⟩, Nat.le_refl _⟩
theorem kc_at (l : List Int) (f : Int → K4) (i : Nat) : ME.kc ((l.map f).take i) = ME.kc ((l.take i).map f) := by rw [List.map_take]
theorem Src.keepF {F : Nat → Prop} {w V : World} {a : Option Addr} {n c : Nat} {U : List Value} (h : Src w (.slice a n c) U) (hf : FrS F w V) (hn : ∀ g o, a = some ⟨g, o, none⟩ → ¬ F g) : Src V (.slice a n c) U := by
  obtain ⟨ao, c', e, h⟩ := h.out
  injection e with e1 e2 e3
  subst e1 e3
  refine ⟨a, c, by rw [e2], ?_⟩
  rcases h with h | ⟨g, o, rfl, hg, hc⟩
  · exact .inl h
  · refine .inr ⟨g, o, rfl, Nat.lt_of_lt_of_le hg hf.size, fun i hi => ?_⟩
    rw [← hc i hi]
    simp only [World.cell?, hf.block g hg (hn g o rfl)]
set_option maxHeartbeats 4000000 in
theorem puts_c {w : World} {F : Nat → Prop} {M mb root : Nat} {bu : Int} {P Q : List En} {k : Nat} (n s : Int) (va : Option Addr) (vc : Nat) (l : List Int) (h : MS w M mb root bu P k F) (hk : k ≤ 1000) (h0 : 0 ≤ n) (h1 : n ≤ 1000) (hv : Src w (.slice va l.length vc) (l.map (Value.int .i64))) (hn : ∀ g o, va = some ⟨g, o, none⟩ → ¬ F g) (hl : ∀ x ∈ l, 0 ≤ x ∧ x ≤ 1000) (hll : l.length ≤ 1000) (hput : ME.put bu (kyE n) s P = (Q, l.map kyE, 0)) :
    Calls Try.prog 21 #[ptr M, .int .i64 n, .int .i64 s, .slice va l.length vc] w fun x w' => x = .returned (.bool true) ∧ MSr w F w' M mb root bu Q (k + 1) := by
  obtain ⟨i0, hi0, hz0, hz1, hz2⟩ := info_parts info_ow
  obtain ⟨m, hm⟩ : ∃ m, l.length = m := ⟨_, rfl⟩
  have HM := Lib.hid hm
  rw [hm] at hll hv ⊢
  have HV := Lib.hid fun V (hV : FrS F w V) => hv.keepF hV hn
  have HL := Lib.hid hl
  have HPM := Lib.hid fun V (hV : Below w.heap.size w V) => put_s (kyE n) s (kyE_ok n h0 h1) (h.here.below hV) (by omega)
  rw [hput] at HPM
  have HKY := Lib.hid fun V => key_any n V h0 h1
  have HKX := Lib.hid fun x (h0 : 0 ≤ x) (h1 : x ≤ 1000) V => key_any x V h0 h1
  clear hm hv hl h hput
  go_enter Try.func21, Try.ntmps21
  go_wp2_with fail
  go_at_call 13
  refine (HKY.out _).mono ?_
  rintro x w2 ⟨rfl, hb2⟩
  have HB2 := Lib.hid hb2
  go_wp2_with fail
  go_at_call 17
  refine (HPM.out w2 hb2).mono ?_
  rintro x w3 ⟨v3, rfl, hrow3, hms3⟩
  try dsimp only at hrow3 hms3
  rw [List.length_map, HM.out] at hrow3
  have HR3 := Lib.hid hrow3
  have HMS := Lib.hid hms3
  clear hrow3 hms3 hb2 HPM
  go_wp2_with fail
  go_loopw [11, 24] (fun v11 v24 wr => ∃ i : Nat, v24 = .int .i64 (i : Int) ∧ i ≤ m ∧ wr.ownsRow w3.heap.size 34 4 v11 i (ME.kc ((l.take i).map kyE)) ∧ Below w3.heap.size w3 wr) (fun _ v _ => m - (intOf v).toNat)
  case atStart => exact ⟨0, rfl, Nat.zero_le _, World.ownsRow_nil _ _ _ _, Below.refl _ _⟩
  case round =>
    obtain ⟨i, rfl, hi, hown, hb⟩ := hrel
    by_cases hin : i < m
    · have hii : (i : Int) < (m : Int) := by omega
      have hj0 : (0 : Int) ≤ (i : Int) := by omega
      obtain ⟨x, hx⟩ : ∃ x, l[i]? = some x := ⟨l[i]'(by rw [HM.out]; exact hin), List.getElem?_eq_getElem _⟩
      obtain ⟨x0, x1⟩ := HL.out x (List.mem_of_getElem? hx)
      have hrow := (HV.out wr (HMS.out.1.then hb)).row
      obtain ⟨g, o, rfl, hg, hc⟩ := hrow.cell (k := i) (by rw [List.length_map, HM.out]; exact hin)
      have hcx : wr.cell? ⟨g, o + i, none⟩ = some (.int .i64 x) := by
        rw [hc, List.getElem_map]
        congr 2
        exact (List.getElem?_eq_some_iff.1 hx).2
      have HT : Hid (ME.kc ((l.take (i + 1)).map kyE) = ME.kc ((l.take i).map kyE) ++ ME.kyL (kyE x)) := Lib.hid (by rw [List.take_add_one, hx]; simp [ME.kc])
      obtain ⟨X, hX⟩ : ∃ X, ME.kc ((l.take i).map kyE) = X := ⟨_, rfl⟩
      rw [hX] at HT hown
      obtain ⟨oa, oc, rfl⟩ := own_shape hown
      have HB := Lib.hid hb
      have HOW := Lib.hid hown
      clear hx hb hX hc hrow hown
      go_wp2_with fail
      go_at_call 13
      refine (HKX.out x x0 x1 _).mono ?_
      rintro y w4 ⟨rfl, hb4⟩
      have hb34 := bnext HB.out hb4
      have hown4 := own_below HOW.out hb4
      go_wp2_with (at_builtin; refine wpList_appN _ rfl _ _ 43 rfl w3.heap.size 34 i0 _ 4 32 Try.underlying43 hi0 hz0 hz1 hz2 rfl (by decide) (.slice oa i oc) i X rfl (own_below hown4 (balloc (Below.refl _ _) _)) (.slice (some ⟨w4.heap.size, 0, none⟩) 1 1) 1 (ME.kyL (kyE x)) rfl (srcN_new w4 (ME.kyL (kyE x)) 34 4 1 1 rfl) (by simp [ME.kyL, Value.oneCell']) (by unfold maxLen; omega) (by omega) (by have := hb34.size; simp; omega) ?_; intro v' w7 hown' hgrow _)
      have hb7 : Below w3.heap.size w3 w7 := (balloc hb34 _).grown hgrow (by have := hb34.size; simp; omega) (fun q e => (HOW.out.lt q e).1)
      obtain ⟨oa', oc', rfl⟩ := own_shape hown'
      have HO7 := Lib.hid hown'
      have HB7 := Lib.hid hb7
      clear hown' hgrow hb7 hb4 hb34 hown4 hcx
      go_roundw
      case rel => exact ⟨i + 1, by go_num, hin, by rw [HT.out]; exact HO7.out, HB7.out⟩
      case measure => simp [intOf]; omega
    · obtain rfl : m = i := by omega
      rw [show l.take m = l by rw [← HM.out, List.take_length]] at hown
      obtain ⟨oa, oc, rfl⟩ := own_shape hown
      have hs3 := own_srcN (own_below HR3.out hb)
      have hs4 := own_srcN hown
      have HSM := Lib.hid (same_any wr v3 (.slice oa m oc) (l.map kyE) (l.map kyE) (by rw [List.length_map, HM.out]; exact hs3) (by rw [List.length_map, HM.out]; exact hs4) (by rw [List.length_map, HM.out]; omega) (by rw [List.length_map, HM.out]; omega))
      rw [decide_eq_true rfl] at HSM
      have HFI := Lib.hid ((HMS.out.below hb).below (w' := wr.drew) (Below.drew (Below.refl _ _)))
      have HMB := Lib.hid (HMS.out.below hb)
      clear hown hb hs3 hs4
      go_wp2_with fail
      go_at_call 20
      refine HSM.out.mono ?_
      rintro x w5 ⟨rfl, nq, rfl⟩
      have HFJ := Lib.hid (HMB.out.below (w' := wr.drewN nq) ⟨rfl, rfl, rfl, Nat.le_refl _, fun _ _ => rfl⟩)
      go_wp2
      go_ret
      exact ⟨rfl, HFJ.out⟩
end Go.Proofs.Ytmnajongifdajaa
