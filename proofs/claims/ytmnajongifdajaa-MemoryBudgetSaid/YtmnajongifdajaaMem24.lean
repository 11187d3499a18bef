/- The reference's memory: new, used, list, drop, pin; lists compared. No conditions. -/
import Derived.Test.YtmnajongifdajaaMem23
namespace Go.Proofs.Ytmnajongifdajaa
set_option maxRecDepth 100000
set_option linter.unusedVariables false
open Go.RowKit Go.Deep ME
theorem RrAt.put {W : World} {r : Nat} {bu : Int} {P P' : List En} {G : Nat → Prop} {v' : Value} {B : Nat} (h : RrAt W r bu P G) (ho : W.ownsRow B 55 6 v' P'.length (ME.kp P')) (hB : ∀ b, G b → b < B) : RrAt (W.setCell ⟨r, 2, none⟩ v') r bu P' (fun b => G b ∨ (B ≤ b ∧ b < W.heap.size)) := by
  obtain ⟨⟨v, h1, h2, h3⟩, h4, h5⟩ := h
  have hr : ∀ q, v'.ownBlock = some q → r ≠ q := fun q e z => by have := (ho.lt q e).1; have := hB r h4; omega
  refine ⟨⟨v', heap_setCell_same W r 2 _ _ v' h1, ?_, fun q e => ⟨.inr (ho.lt q e), hr q e⟩⟩, .inl h4, fun b hb => by
    have := h5 r h4
    simp only [World.size_setCell]
    rcases hb with hb | hb
    · exact h5 b hb
    · exact hb.2⟩
  exact own_base ((FrS.set (S := fun b => b = r) W (b := r) rfl v').own ho (fun q e z => hr q e z.symm)) (Nat.zero_le _)
theorem RrAt.mono {W : World} {r : Nat} {bu : Int} {P : List En} {G G' : Nat → Prop} (h : RrAt W r bu P G) (hg : ∀ b, G b → G' b) (hl : ∀ b, G' b → b < W.heap.size) : RrAt W r bu P G' := by
  obtain ⟨⟨v, h1, h2, h3⟩, h4, h5⟩ := h
  exact ⟨⟨v, h1, h2, fun q e => ⟨hg q (h3 q e).1, (h3 q e).2⟩⟩, hg r h4, hl⟩
/-- What an act on the reference leaves. -/
def RrP (W w' : World) (r : Nat) (bu : Int) (P' : List En) (G : Nat → Prop) : Prop := (∃ G', RrAt w' r bu P' G' ∧ ∀ b, G' b → G b ∨ W.heap.size ≤ b) ∧ FrS G W w'
theorem RrP.same {W w' : World} {r : Nat} {bu : Int} {P : List En} {G : Nat → Prop} (h : RrAt W r bu P G) (hb : Below W.heap.size W w') : RrP W w' r bu P G := ⟨⟨G, h.below hb, fun b hb => .inl hb⟩, FrS.of hb⟩
set_option maxHeartbeats 1000000 in
theorem rnew_yes (W : World) (bu : Int) (h0 : 0 ≤ bu) (h1 : bu ≤ 1073741824) :
    Calls Try.prog 22 #[.int .i64 bu] W fun x w' => ∃ r, x = .returned (ptr r) ∧ RrAt w' r bu [] (fun b => W.heap.size ≤ b ∧ b < w'.heap.size) ∧ Below W.heap.size W w' := by
  have g0 : ¬ bu < 0 := by omega
  have g1 : ¬ 1073741824 < bu := by omega
  go_enter Try.func22, Try.ntmps22
  go_wp2
  go_ret
  exact ⟨W.heap.size, rfl, ⟨⟨_, heap_alloc_new W _, World.ownsRow_nil _ _ _ _, fun q e => by simp [Value.ownBlock] at e⟩, ⟨Nat.le_refl _, by simp⟩, fun b hb => hb.2⟩, balloc (Below.refl _ _) _⟩
set_option maxHeartbeats 1000000 in
theorem rnew_no (W : World) (bu : Int) (h : bu < 0 ∨ 1073741824 < bu) :
    Calls Try.prog 22 #[.int .i64 bu] W fun x w' => x = .returned (.pointer none) ∧ w' = W := by
  by_cases g0 : bu < 0
  · go_enter Try.func22, Try.ntmps22
    go_wp2
    go_ret
    exact ⟨rfl, rfl⟩
  · have g1 : 1073741824 < bu := by omega
    go_enter Try.func22, Try.ntmps22
    go_wp2
    go_ret
    exact ⟨rfl, rfl⟩
theorem ME.sm_take {P : List En} {i : Nat} {e : En} (h : P[i]? = some e) : ME.sm (P.take (i + 1)) = ME.sm (P.take i) + e.size := by
  rw [List.take_add_one, h]
  simp [ME.sm]
theorem ME.sm_take_le {P : List En} (h : ∀ e ∈ P, 0 ≤ e.size ∧ e.size ≤ 65536) (i : Nat) : 0 ≤ ME.sm (P.take i) ∧ ME.sm (P.take i) ≤ ME.sm P := by
  have h1 := ME.sm_nonneg (P := P.take i) (fun e he => h e (List.mem_of_mem_take he))
  have h2 := ME.sm_nonneg (P := P.drop i) (fun e he => h e (List.mem_of_mem_drop he))
  have h3 := ME.sm_app (P.take i) (P.drop i)
  rw [List.take_append_drop] at h3
  omega
set_option maxHeartbeats 2000000 in
theorem rused_any (W : World) (r : Nat) (bu : Int) (P : List En) (G : Nat → Prop) (h : RrAt W r bu P G) (ok : ME.Ok bu P) (hlen : P.length ≤ 1000000) :
    Calls Try.prog 24 #[ptr r] W fun x w' => x = .returned (.int .i64 (ME.sm P)) ∧ w' = W := by
  obtain ⟨⟨v, hr, hrow, -⟩, -, -⟩ := h
  obtain ⟨va, vc, rfl⟩ := own_shape hrow
  obtain ⟨n, hn⟩ : ∃ n, P.length = n := ⟨_, rfl⟩
  rw [hn] at hr hrow hlen
  have HN := Lib.hid hn
  obtain ⟨c0, c1, c2⟩ := rmem_cells hr
  have HROW := Lib.hid hrow
  have HOK := Lib.hid ok
  clear hn hr hrow ok
  go_enter Try.func24, Try.ntmps24
  go_wp2
  go_loopw [4, 3] (fun v4 v3 wr => ∃ i : Nat, v4 = .int .i64 (i : Int) ∧ i ≤ n ∧ v3 = .int .i64 (ME.sm (P.take i)) ∧ wr = W) (fun v _ _ => n - (intOf v).toNat)
  case atStart => exact ⟨0, rfl, Nat.zero_le _, by simp [ME.sm], rfl⟩
  case round =>
    obtain ⟨i, rfl, hi, rfl, he⟩ := hrel
    subst he
    have hb := ME.sm_take_le HOK.out.sz i
    have hbu := HOK.out.b1
    have hsu := HOK.out.sum
    by_cases hin : i < n
    · have hii : (i : Int) < (n : Int) := by omega
      have hi0 : (0 : Int) ≤ (i : Int) := by omega
      obtain ⟨e, he⟩ : ∃ e, P[i]? = some e := ⟨P[i]'(by rw [HN.out]; exact hin), List.getElem?_eq_getElem _⟩
      obtain ⟨g, rfl, -, k0, k1, k2, k3, k4, -⟩ := kept_at HROW.out he hin
      have hez := HOK.out.sz e (List.mem_of_getElem? he)
      have HT := Lib.hid (ME.sm_take he)
      obtain ⟨s, hs⟩ : ∃ s, ME.sm (P.take i) = s := ⟨_, rfl⟩
      rw [hs] at HT hb ⊢
      have hw : IntKind.i64.wrap (s + e.size) = s + e.size := IntWalk.i64_in _ (by omega)
      clear he hs
      go_wp2
      go_roundw
      case rel => exact ⟨i + 1, by go_num, hin, by rw [HT.out], by first | rfl | trivial⟩
      case measure => simp [intOf]; omega
    · obtain rfl : n = i := by omega
      have HT : Hid (ME.sm (P.take n) = ME.sm P) := Lib.hid (by rw [← HN.out, List.take_length])
      go_wp2
      go_ret
      exact ⟨ret1 HT.out, rfl⟩
set_option maxHeartbeats 4000000 in
theorem rlist_any (W : World) (r : Nat) (bu : Int) (P : List En) (G : Nat → Prop) (h : RrAt W r bu P G) (hlen : P.length ≤ 1000000) :
    Calls Try.prog 25 #[ptr r] W fun x w' => ∃ v, x = .returned v ∧ w'.ownsRow W.heap.size 34 4 v P.length (ME.kc (P.map En.key)) ∧ Below W.heap.size W w' := by
  obtain ⟨i0, hi0, hz0, hz1, hz2⟩ := info_parts info_ow
  obtain ⟨⟨v, hr, hrow, -⟩, -, -⟩ := h
  obtain ⟨va, vc, rfl⟩ := own_shape hrow
  obtain ⟨n, hn⟩ : ∃ n, P.length = n := ⟨_, rfl⟩
  rw [hn] at hr hrow hlen ⊢
  have HN := Lib.hid hn
  have HR := Lib.hid hr
  have HROW := Lib.hid hrow
  clear hn hr hrow
  go_enter Try.func25, Try.ntmps25
  go_wp2
  go_loopw [4, 3] (fun v4 v3 wr => ∃ i : Nat, v4 = .int .i64 (i : Int) ∧ i ≤ n ∧ wr.ownsRow W.heap.size 34 4 v3 i (ME.kc ((P.take i).map En.key)) ∧ Below W.heap.size W wr) (fun v _ _ => n - (intOf v).toNat)
  case atStart => exact ⟨0, rfl, Nat.zero_le _, World.ownsRow_nil _ _ _ _, Below.refl _ _⟩
  case round =>
    obtain ⟨i, rfl, hi, hown, hb⟩ := hrel
    obtain ⟨c0, c1, c2⟩ := rmem_cells ((hb.block r (Array.getElem?_eq_some_iff.1 HR.out).1).trans HR.out)
    by_cases hin : i < n
    · have hii : (i : Int) < (n : Int) := by omega
      have hj0 : (0 : Int) ≤ (i : Int) := by omega
      obtain ⟨e, he⟩ : ∃ e, P[i]? = some e := ⟨P[i]'(by rw [HN.out]; exact hin), List.getElem?_eq_getElem _⟩
      obtain ⟨g, rfl, -, k0, k1, k2, k3, k4, -⟩ := kept_at (own_below HROW.out hb) he hin
      have HT : Hid (ME.kc ((P.take (i + 1)).map En.key) = ME.kc ((P.take i).map En.key) ++ ME.kyL e.key) := Lib.hid (by rw [List.take_add_one, he]; simp [ME.kc])
      obtain ⟨X, hX⟩ : ∃ X, ME.kc ((P.take i).map En.key) = X := ⟨_, rfl⟩
      rw [hX] at HT hown
      obtain ⟨oa, oc, rfl⟩ := own_shape hown
      have HB := Lib.hid hb
      clear he hb hX
      go_wp2_with (at_builtin; refine wpList_appN _ rfl _ _ 43 rfl W.heap.size 34 i0 _ 4 32 Try.underlying43 hi0 hz0 hz1 hz2 rfl (by decide) (.slice oa i oc) i X rfl (own_below hown (balloc (Below.refl _ _) _)) (.slice (some ⟨wr.heap.size, 0, none⟩) 1 1) 1 (ME.kyL e.key) rfl (srcN_new wr (ME.kyL e.key) 34 4 1 1 rfl) (by simp [ME.kyL, Value.oneCell']) (by unfold maxLen; omega) (by omega) (by have := HB.out.size; simp; omega) ?_; intro v' w7 hown' hgrow _)
      have hb7 : Below W.heap.size W w7 := (balloc HB.out _).grown hgrow (by have := HB.out.size; simp; omega) (fun q e => (hown.lt q e).1)
      obtain ⟨oa', oc', rfl⟩ := own_shape hown'
      have HO7 := Lib.hid hown'
      have HB7 := Lib.hid hb7
      clear hown hown' hgrow hb7
      go_roundw
      case rel => exact ⟨i + 1, by go_num, hin, by rw [HT.out]; exact HO7.out, HB7.out⟩
      case measure => simp [intOf]; omega
    · obtain rfl : n = i := by omega
      rw [show P.take n = P by rw [← HN.out, List.take_length]] at hown
      obtain ⟨oa, oc, rfl⟩ := own_shape hown
      have HO := Lib.hid hown
      have HB := Lib.hid hb
      clear hown hb
      go_wp2
      go_ret
      exact ⟨_, rfl, HO.out, HB.out⟩
end Go.Proofs.Ytmnajongifdajaa
