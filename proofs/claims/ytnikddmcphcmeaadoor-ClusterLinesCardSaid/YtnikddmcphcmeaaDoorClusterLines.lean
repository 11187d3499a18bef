/- For all lists of numbers ClusterLines returns true: behind the end of a line the clusters are those of the rest alone. No conditions. -/
import Derived.Test.YtnikddmcphcmeaaDoorCluSane
import Derived.Test.YtnikddmcphcmeaaDoorClsLaid
import Derived.Test.YtnikddmcphcmeaaDoorCluFacts
import Derived.Maps.AppendAt
namespace Go.Proofs.YtnikddmcphcmeaaDoor.clusterLines
open Go.ChangeShapes Go.WideShapes Go.ChangeAt Go.RowKit Go.Joins Go.Deep
set_option linter.unusedVariables false

theorem made_of {v : Value} {a : List Int} {w W : World} (n : Nat) (hn : n ≤ 1000) (hv : RowAt w v (a.map (Value.int .i64))) (hL : a.length ≤ maxLen) (hb : Below w.heap.size w W) :
    Calls Tryd.prog 11 #[v, .int .i64 n] W fun e W' => ∃ t : ByteArray, e = .returned (.string t) ∧ t.size ≤ n ∧ Below W.heap.size W W' :=
  made_any v (a.map (Value.int .i64)) n W (hv.keep hb) (fun k hk => ⟨a.getD k 0, by simp at hk; simp [List.getD, hk]⟩) (by simpa using hL) hn
theorem line_last (s : ByteArray) : CP.cl (s ++ ⟨#[10]⟩) ((s ++ (⟨#[10]⟩ : ByteArray)).size - 1) = 1 := by
  have h : (s ++ (⟨#[10]⟩ : ByteArray)).size - 1 = s.size + 0 := by rw [ByteArray.size_append]; rfl
  unfold CP.cl
  rw [h, CP.ch_r]
  exact FC.cls_10 rfl
theorem own_srcB {w : World} {B e : Nat} {v : Value} {l : List (Nat × Nat)} (h : w.ownsRow B e 2 v l.length (spc l)) : ∃ ao c, v = .slice ao l.length c ∧ (l = [] ∨ ∃ g, ao = some ⟨g, 0, none⟩ ∧ B ≤ g ∧ g < w.heap.size ∧ ∀ i x, l[i]? = some x → w.cell? ⟨g, i * 2, none⟩ = some (.int .i64 (x.1 : Int)) ∧ w.cell? ⟨g, i * 2 + 1, none⟩ = some (.int .i64 (x.2 : Int))) := by
  rcases h.2 with ⟨hv, hn⟩ | ⟨g, cap, cur, hv, hb, hg, _⟩
  · exact ⟨none, 0, by rw [hv, hn], .inl (List.eq_nil_of_length_eq_zero hn)⟩
  · subst hv
    refine ⟨_, cap, rfl, .inr ⟨g, rfl, hb, (Array.getElem?_eq_some_iff.1 hg).1, fun i x hx => ?_⟩⟩
    obtain ⟨a1, a2⟩ := CP.spc_at l i x hx
    have c1 := h.cells (g := g) rfl _ _ a1
    have c2 := h.cells (g := g) rfl _ _ a2
    rw [addr_add] at c1 c2
    exact ⟨c1, c2⟩
set_option maxRecDepth 100000 in
set_option maxHeartbeats 2000000 in
theorem walk (v0 : Value) (a0 : List Int) (v1 : Value) (a1 : List Int) (g : Nat × Nat)  (w : World) (hl : Laid w g) (H0 : RowAt w v0 (a0.map (Value.int .i64))) (L0 : a0.length ≤ maxLen ∧ ∀ a n c, v0 = .slice a n c → n ≤ c) (E0 : ∀ x, x ∈ a0 → -9223372036854775808 ≤ x ∧ x ≤ 9223372036854775807) (H1 : RowAt w v1 (a1.map (Value.int .i64))) (L1 : a1.length ≤ maxLen ∧ ∀ a n c, v1 = .slice a n c → n ≤ c) (E1 : ∀ x, x ∈ a1 → -9223372036854775808 ≤ x ∧ x ≤ 9223372036854775807) :
    Calls Tryd.prog 8 #[v0, v1] w fun e w' => e = .returned (.bool true) ∧ Below w.heap.size w w' := by
  have HL : Hid (∀ B, Below w.heap.size w B → Laid B g) := Lib.hid fun B hb => hl.mono hb
  have acc0 : Below w.heap.size w w := Below.refl _ _
  have HM0 := Lib.hid (fun W (hb : Below w.heap.size w W) => made_of 30 (by omega) H0 L0.1 hb)
  have HM1 := Lib.hid (fun W (hb : Below w.heap.size w W) => made_of 30 (by omega) H1 L1.1 hb)
  clear H0 E0 H1 E1
  go_enter Tryd.func8, Tryd.ntmps8
  go_wp2_with fail
  refine (sane_any g _ hl).mono ?_
  rintro e w1 ⟨rfl, hb1⟩
  have acc1 := bnext acc0 hb1
  go_wp2_with fail
  refine (HM0.out _ acc1).mono ?_
  rintro e w2 ⟨s0, rfl, hs0, hb2⟩
  have acc2 := bnext acc1 hb2
  go_wp2_with fail
  refine (HM1.out _ acc2).mono ?_
  rintro e w3 ⟨t, rfl, ht, hb3⟩
  have acc3 := bnext acc2 hb3
  clear hb1 hb2 hb3 acc0 acc1 acc2 HM0 HM1
  go_wp2_with fail
  obtain ⟨S, hS, hS0, hS1, hSl⟩ : ∃ S : ByteArray, s0 ++ ⟨#[10]⟩ = S ∧ 0 < S.size ∧ S.size ≤ 31 ∧ CP.cl S (S.size - 1) = 1 := ⟨_, rfl, by rw [ByteArray.size_append]; exact Nat.succ_pos _, by rw [ByteArray.size_append]; exact Nat.succ_le_succ hs0, line_last s0⟩
  rw [hS]
  clear hS hs0
  have hST : (S ++ t).size ≤ 1000000000 := by rw [ByteArray.size_append]; omega
  have hEq := Lib.hid (CP.split_lines (t := t) hS0 hSl)
  refine (split_any S g _ (HL.out _ acc3) (by omega)).mono ?_
  rintro e w4 ⟨vs, rfl, os, hb4⟩
  have acc4 := bnext acc3 hb4
  have hl1 := CP.split_length S
  have hl2 := CP.split_length t
  go_wp2_with fail
  refine (split_any t g _ (HL.out _ acc4) (by omega)).mono ?_
  rintro e w5 ⟨vt, rfl, ot, hb5⟩
  have acc5 := bnext acc4 hb5
  have hown0 := own_below os hb5
  have hlt0 : ∀ q, vs.ownBlock = some q → q < w4.heap.size := fun q hq => (os.lt q hq).2
  have hsrc : ∃ ao c, vt = .slice ao (CP.split t).length c ∧ (CP.split t = [] ∨ ∃ q, ao = some ⟨q, 0, none⟩ ∧ w4.heap.size ≤ q ∧ q < w5.heap.size ∧ ∀ i x, (CP.split t)[i]? = some x → w5.cell? ⟨q, i * 2, none⟩ = some (.int .i64 (x.1 : Int)) ∧ w5.cell? ⟨q, i * 2 + 1, none⟩ = some (.int .i64 (x.2 : Int))) := own_srcB ot
  obtain ⟨ao, ac, rfl, hr⟩ := hsrc
  clear ot os acc4
  have hmem : Hid (∀ x ∈ CP.split t, x.1 < x.2 ∧ x.2 ≤ t.size) := Lib.hid (CP.sp_mem (CP.sp_split t))
  generalize CP.split S = A at hown0 hEq hl1
  generalize CP.split t = l at hr hEq hl2 hmem
  have hEq2 : Hid (CP.split (S ++ t) = A ++ (l.take l.length).map (CP.sh S.size)) := Lib.hid (by rw [List.take_length]; exact hEq.out)
  have HSP := Lib.hid fun (W : World) (hW : Below w.heap.size w W) => split_any (S ++ t) g W (HL.out _ hW) hST
  clear hEq
  obtain ⟨i0, hi, hz0, hz1, hz2⟩ := info_parts info_span
  have hw45 := hb5.size
  have ACC3 := Lib.hid acc3
  clear hl hSl HL
  go_wp2_with fail
  go_loopw [8, 22] (fun v8 v22 wr => ∃ k : Nat, v22 = .int .i64 k ∧ k ≤ l.length ∧ wr.ownsRow w3.heap.size 30 2 v8 (A.length + k) (spc (A ++ (l.take k).map (CP.sh S.size))) ∧ Hid (∀ q, v8.ownBlock = some q → q < w4.heap.size ∨ w5.heap.size ≤ q) ∧ Hid (∀ q, ao = some ⟨q, 0, none⟩ → w4.heap.size ≤ q → q < w5.heap.size → ∀ i x, l[i]? = some x → wr.cell? ⟨q, i * 2, none⟩ = some (.int .i64 (x.1 : Int)) ∧ wr.cell? ⟨q, i * 2 + 1, none⟩ = some (.int .i64 (x.2 : Int))) ∧ w5.heap.size ≤ wr.heap.size ∧ Below w3.heap.size w3 wr) (fun _ v _ => l.length - (intOf v).toNat)
  case atStart =>
    refine ⟨0, rfl, Nat.zero_le _, by simpa using hown0, Lib.hid fun q hq => .inl (hlt0 q hq), Lib.hid fun q hq h1 h2 => ?_, Nat.le_refl _, bnext hb4 hb5⟩
    rcases hr with h | ⟨q', e', _, _, hc⟩
    · intro i x hx; rw [h] at hx; simp at hx
    · rw [e'] at hq; cases hq; exact hc
  case round =>
    obtain ⟨k, rfl, hk, hrow, HQ, HC, hw5, hb⟩ := hrel
    have hbs := hb.size
    by_cases h1 : k < l.length
    · have h1i : (k : Int) < (l.length : Int) := by omega
      obtain ⟨x, hx⟩ : ∃ x, l[k]? = some x := ⟨l[k], List.getElem?_eq_getElem h1⟩
      have ht : l.take (k + 1) = l.take k ++ [x] := by rw [List.take_add_one, hx]; rfl
      have HP : Hid (spc (A ++ (l.take (k + 1)).map (CP.sh S.size)) = spc (A ++ (l.take k).map (CP.sh S.size)) ++ [.int .i64 ((x.1 + S.size : Nat) : Int), .int .i64 ((x.2 + S.size : Nat) : Int)]) := Lib.hid (by rw [ht, List.map_append, ← List.append_assoc]; unfold spc; rw [List.flatMap_append]; rfl)
      generalize spc (A ++ (l.take k).map (CP.sh S.size)) = P at hrow HP
      rcases hr with rfl | ⟨q, rfl, hq4, hq5, _⟩
      · simp at h1
      · obtain ⟨c0, c1⟩ := HC.out q rfl hq4 hq5 k x hx
        obtain ⟨f, u⟩ := x
        simp only at c0 c1 HP
        have hfu : f < u ∧ u ≤ t.size := hmem.out _ (List.mem_of_getElem? hx)
        clear hx ht
        have hqn : u8.ownBlock ≠ some q := fun e => by rcases HQ.out q e with h | h <;> omega
        go_wp2_with (at_builtin; refine wpList_append_own_at _ rfl _ _ 26 rfl w3.heap.size 30 i0 (.agg #[.int .i64 0, .int .i64 0]) 2 16 Tryd.underlying26 hi hz0 hz1 hz2 rfl (by decide) _ _ _ rfl ((hrow.alloc _).alloc _) ⟨wr.heap.size + 1, 0, none⟩ 1 1 [.int .i64 ((f + S.size : Nat) : Int), .int .i64 ((u + S.size : Nat) : Int)] rfl rfl (two_src (by have := World.alloc_heap_new (wr.alloc (.cells #[.int .i64 (f : Int), .int .i64 (u : Int)] 30)) (.cells #[.int .i64 ((f : Int) + (S.size : Int)), .int .i64 ((u : Int) + (S.size : Int))] 30); simpa using this)) (by simp [Value.oneCell']) (by unfold maxLen; omega) (by omega) (by simp; omega) ?_; intro v' w6 hown' hgrow _ hat; obtain ⟨g3, cap', rfl⟩ := ownsRow_succ hown')
        have hsz6 := hgrow.size
        simp only [World.size_alloc] at hsz6
        go_roundw
        case rel =>
          refine ⟨k + 1, by go_num, h1, by rw [HP.out]; exact hown', Lib.hid fun p hp => ?_, Lib.hid fun p hp h2 h3 => ?_, by omega, span_app (hrow.alloc _) (balloc hb _) hgrow⟩
          · rcases hat with e | e
            · exact HQ.out p (Eq.trans (Eq.symm e) hp)
            · right
              rw [e] at hp
              simp only [World.size_alloc, Option.some.injEq] at hp
              omega
          · intro i x hx
            obtain ⟨c2, c3⟩ := HC.out p hp h2 h3 i x hx
            obtain rfl : q = p := by injection hp with hp; injection hp
            have hk : ∀ o, w6.cell? ⟨q, o, none⟩ = wr.cell? ⟨q, o, none⟩ := fun o => by
              simp only [World.cell?]
              rw [hgrow.block q (by simp; omega) hqn.symm, Below.heap_alloc _ _ _ (by simp; omega), Below.heap_alloc _ _ _ (by omega)]
            rw [hk, hk]
            exact ⟨c2, c3⟩
        case measure => simp [intOf]; omega
    · obtain rfl : k = l.length := by omega
      have hsrc := own_srcP (l := A ++ (l.take l.length).map (CP.sh S.size)) (by simpa using hrow)
      have hpl : (A ++ (l.take l.length).map (CP.sh S.size)).length = A.length + l.length := by simp
      have HSR := Lib.hid hsrc
      have acc6 : Below w.heap.size w wr := (show Below w.heap.size w w3 from ACC3.out).trans (hb.mono ACC3.out.size)
      have HS6 := Lib.hid (HSP.out wr acc6)
      rw [hEq2.out] at HS6
      generalize A ++ (l.take l.length).map (CP.sh S.size) = P at hpl HSR HS6
      clear hr hrow hsrc HSP hEq2 HC HQ hown0 hmem
      go_wp2_with fail
      refine HS6.out.mono ?_
      rintro e w7 ⟨v7, rfl, hown7, hb7⟩
      have HSM := Lib.hid (rsame_any _ _ _ _ w7 (own_srcP hown7) (HSR.out.keep hb7) (by omega))
      clear hown7
      rw [decide_eq_true rfl] at HSM
      go_wp2_with fail
      refine HSM.out.mono ?_
      rintro e w8 ⟨rfl, hb8⟩
      go_wp2
      go_ret
      exact ⟨rfl, bnext (bnext acc6 hb7) hb8⟩

set_option maxRecDepth 100000 in
theorem lifted (os : Os) (started : os.Started) (H : Type) (enc : TypeId × Value → H) :
    ReturnsInHanded {} Tryd.checked os 8 .any (fun w args => (Rows.clusterLinesSpec.pre enc Tryd.prog Tryd.f8 [] false w args ∧ laidMetH Tryd.prog laidL w) ∧ sizedMet enc Tryd.prog Tryd.f8 (OpenSpec.ofChange Rows.clusterLinesSpec) false w args)
      (Rows.clusterLinesSpec.post enc Tryd.prog Tryd.f8 false true false false) := by
  refine returnsInHanded_of_change_and (C := Tryd.checked) (X := fun w _ => laidMetH Tryd.prog laidL w) (fun _ _ _ hh h => h.of_heap hh) own started (by kernel_rfl) Tryd.func8
    (ChangeSpec.witness_shaped (enc := enc) (C := Tryd.checked) (os := os) (X := fun w _ => laidMetH Tryd.prog laidL w) false (World.doorLaid Tryd.prog 46 os) #[.slice none 0 0, .slice none 0 0] 8 rfl (World.shaped_of_RefB (by kernel_rfl) (by kernel_rfl)) (by kernel_rfl) (by kernel_rfl) (by kernel_rfl) (door_met os _)) ?_
  intro W base args ds gs before hval0 hW _ _ hL _
  have hval : ∀ (j : Nat) t v, Tryd.f8.params[j]? = some t → args[j]? = some v → Value.okWide Tryd.prog W .any base t v := hval0
  have hW' := hW
  obtain ⟨p, q, hA0, hV, rfl, hfz, hnd⟩ := hW
  have hA : DataW.TrodAll enc Tryd.prog W 0 (fun _ => true) true Tryd.f8.params.toList args.toList ds p := hA0
  rw [Tryd.params8] at hA hval
  obtain ⟨v0, vs0, d0, ds0, p0, q0, hargs, rfl, rfl, h0, r0⟩ := trodAll_cons hA
  obtain ⟨v1, vs1, d1, ds1, p1, q1, rfl, rfl, rfl, h1, r1⟩ := trodAll_cons r0
  obtain ⟨rfl, rfl, rfl⟩ := trodAll_nil r1
  obtain rfl : args = #[v0, v1] := by cases args; simp_all
  obtain ⟨rfl, rfl⟩ := trodVars_none hV
  obtain ⟨g, hlaid⟩ := of_laid hL
  have k0 := h0
  have lt0 : ∀ x ∈ p0, x.block < W.heap.size := by obtain ⟨m, hm⟩ := k0; exact DataW.trod_lt m _ _ _ hm
  have k1 := h1
  have lt1 : ∀ x ∈ p1, x.block < W.heap.size := by obtain ⟨m, hm⟩ := k1; exact DataW.trod_lt m _ _ _ hm
  obtain ⟨a0, H0, L0, E0⟩ := open_l (hval 0 22 v0 rfl rfl) h0
  obtain ⟨a1, H1, L1, E1⟩ := open_l (hval 1 22 v1 rfl rfl) h1
  clear hA0 hval0
  refine (walk v0 a0 v1 a1 g  W hlaid H0 L0 E0 H1 L1 E1).mono fun e W' ⟨he, bel⟩ => ?_
  subst he
  exact ⟨_, rfl, _, _, _, [], _, [], hW', trodAll_mk1 (shut_bool Tryd.underlying4 _), (trodAll_cons_mk (Below.trod laidOut (by kernel_rfl) (of_decide_eq_true (by kernel_rfl)) k0 bel lt0) (trodAll_cons_mk (Below.trod laidOut (by kernel_rfl) (of_decide_eq_true (by kernel_rfl)) k1 bel lt1) trodAll_mk0)), rfl, bel.frame _, fun h => by cases h⟩

theorem over : Rows.clusterLinesRow.holds Tryd.pinned (OpenSpec.ofChange Rows.clusterLinesSpec) :=
  OpenClaim.holds_of_wide 8 Tryd.f8 rfl rfl rfl rfl rfl rfl rfl ⟨rfl, rfl, rfl, rfl, rfl⟩ rfl rfl rfl rfl rfl (by kernel_rfl) Tryd.func8 (by kernel_rfl)
    (of_decide_eq_true (by kernel_rfl)) (by unfold Func.isWrapper; first | (rw [if_pos (by decide +kernel)]; kernel_rfl) | (rw [if_neg (by decide +kernel)]; exact ⟨rfl, rfl⟩))
    (fun os started H enc _ => lifted os started H enc)

/-- The row's card, tied to the program's text. -/
theorem card : Rows.ClusterLinesCardSaid :=
  Claim7.holds_tied_plain_at .later [] [.data] true Rows.clusterLinesCard.stood.harness false
    over (fun _ h => by cases h) (by kernel_rfl) (fun _ h => by cases h) clusterLines_row_tie rfl ⟨rfl, rfl⟩ (by kernel_rfl) rfl
    (fun f fn hf hfn => by
      obtain rfl : f = 8 := Option.some.inj ((show Tryd.prog.funcNamed "abugida/abugidalaw06.ClusterLines" = some 8 by kernel_rfl).symm.trans hf) |>.symm
      obtain rfl : fn = Tryd.f8 := (Option.some.inj (Tryd.func8.symm.trans hfn)).symm
      exact ⟨by kernel_rfl, fun j t ht => by
        rw [Tryd.params8] at ht
        have hm : t ∈ [22, 22] := by simpa using Array.mem_of_getElem? ht
        have hall : ([22, 22].all fun u => !Tryd.prog.wantsStandIn u) = true := by kernel_rfl
        exact (show Tryd.prog.wantsStandIn t = false by simpa using List.all_eq_true.1 hall t hm)⟩)
    (by kernel_rfl)

end Go.Proofs.YtnikddmcphcmeaaDoor.clusterLines
namespace Go.Proofs.YtnikddmcphcmeaaDoor
theorem clusterLines_proved : Rows.ClusterLinesCardSaid := clusterLines.card
#print axioms clusterLines_proved
end Go.Proofs.YtnikddmcphcmeaaDoor
