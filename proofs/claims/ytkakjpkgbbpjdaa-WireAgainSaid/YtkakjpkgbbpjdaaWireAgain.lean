/- For every list of numbers and of strings WireAgain returns true: lists and strings are read as they were written. No conditions. -/
import Derived.Test.YtkakjpkgbbpjdaaWireRound
namespace Go.Proofs.Ytkakjpkgbbpjdaa.wireAgain
open Go.ChangeShapes Go.WideShapes Go.ChangeAt Go.RowKit Go.Joins Go.Deep
set_option linter.unusedVariables false

set_option maxRecDepth 100000 in
set_option maxHeartbeats 8000000 in
theorem walk (v0 : Value) (a0 : List Int) (v1 : Value) (a1 : List (List UInt8))  (w : World) (H0 : RowAt w v0 (a0.map (Value.int .i64))) (L0 : a0.length ≤ maxLen ∧ ∀ a n c, v0 = .slice a n c → n ≤ c) (E0 : ∀ x, x ∈ a0 → -9223372036854775808 ≤ x ∧ x ≤ 9223372036854775807) (H1 : RowAt w v1 (a1.map sv)) (L1 : a1.length ≤ maxLen ∧ ∀ a n c, v1 = .slice a n c → n ≤ c) (E1 : ∀ x, x ∈ a1 → x.length ≤ maxLen) :
    Calls Try.prog 6 #[v0, v1] w fun e w' => e = .returned (.bool true) ∧ Below w.heap.size w w' := by
  obtain ⟨aa, ca, rfl, ha⟩ := H0.out
  have HA := Lib.hid H0
  have hml : (a0.map (Value.int .i64)).length = a0.length := by simp
  rw [hml] at HA ⊢
  clear ha H0
  have hmx : maxLen = 9223372036854775807 := rfl
  rw [hmx] at L0 L1
  have hac : a0.length ≤ ca := L0.2 _ _ _ (by rw [hml])
  obtain ⟨L0, _⟩ := L0
  obtain ⟨L1, _⟩ := L1
  have acc : Below w.heap.size w w := Below.refl _ _
  obtain ⟨m, hm⟩ : ∃ m : Nat, m = min a0.length 50 := ⟨_, rfl⟩
  have em : min (a0.length : Int) 50 = (m : Int) := by omega
  have hma : m ≤ a0.length := by omega
  have hm50 : m ≤ 50 := by omega
  clear hm
  go_enter Try.func6, Try.ntmps6
  go_wp2_with (go_at_call 10; refine (sanity_any _).mono ?_; rintro e w1 ⟨rfl, hb1⟩; replace acc := bnext acc hb1; clear hb1)
  refine (short_any v1 a1 _ (H1.keep acc) E1 (by rw [hmx]; exact L1)).mono ?_
  rintro e w2 ⟨u, rfl, O2, hb2⟩
  obtain ⟨L, hL⟩ : ∃ L, a0.take m = L := ⟨_, rfl⟩
  have hLl : L.length = m := by rw [← hL]; simp; omega
  have HL : Hid (RowAt w2 (.slice aa m ca) (L.map (Value.int .i64))) := Lib.hid (by
    have := row_first ((HA.out.keep acc).keep hb2) (show m ≤ (a0.map (Value.int .i64)).length by rw [hml]; exact hma)
    rwa [← List.map_take, hL] at this)
  have hE : Hid (∀ x, x ∈ L → WP.inR x) := Lib.hid fun x hx => E0 x (by rw [← hL] at hx; exact List.mem_of_mem_take hx)
  replace acc := bnext acc hb2
  clear hb2 HA H1 hL E0 em hac hma
  obtain ⟨T, hT⟩ : ∃ T, WP.shorts a1 20 = T := ⟨_, rfl⟩
  have hTl : T.length ≤ 20 := by rw [← hT]; exact WP.shorts_len _ _
  have hTx : Hid (∀ x, x ∈ T → x.length ≤ 200) := Lib.hid (fun x hx => by rw [← hT] at hx; exact WP.shorts_le hx)
  rw [hT] at O2
  clear hT E1
  have HT : Hid (RowAt w2 u (T.map sv)) := Lib.hid (row_own O2 (by simp))
  obtain ⟨ub, uc, rfl⟩ := own_shape O2
  clear O2
  have hT6 : Hid (∀ x, x ∈ T → x.length ≤ 1000000) := Lib.hid fun x hx => by have := hTx.out x hx; omega
  have hn1 : (WP.texts T).length ≤ 4210 := by
    have h1 := WP.flat_len WP.text 210 T (fun x hx => by have := hTx.out x hx; have := WP.text_len x; omega)
    have h2 := WP.int_len (T.length : Int)
    unfold WP.texts; simp only [List.length_append]; omega
  have hn2 : (WP.ints L).length ≤ 510 := by
    have h1 := WP.flat_len WP.int 10 L (fun x _ => WP.int_len x)
    have h2 := WP.int_len (L.length : Int)
    unfold WP.ints; simp only [List.length_append]; omega
  have hn3 : (WP.text [101, 110, 100]).length ≤ 13 := WP.text_len [101, 110, 100]
  obtain ⟨tt, htt⟩ : ∃ tt, WP.texts T = tt := ⟨_, rfl⟩
  obtain ⟨ll, hll⟩ : ∃ ll, WP.ints L = ll := ⟨_, rfl⟩
  obtain ⟨ee, hee⟩ : ∃ ee, WP.text [101, 110, 100] = ee := ⟨_, rfl⟩
  have HR1 : Hid ((⟨tt ++ (ll ++ ee), 0, false⟩ : WP.RS).texts = (T, ⟨tt ++ (ll ++ ee), 0 + tt.length, false⟩)) := Lib.hid (by
    rw [← htt]; exact WP.texts_read' (t := ll ++ ee) (fun x hx => by have := hTx.out x hx; omega) rfl (Nat.zero_le _) (by simp) (by omega))
  have HR2 : Hid ((⟨tt ++ (ll ++ ee), 0 + tt.length, false⟩ : WP.RS).ints = (L, ⟨tt ++ (ll ++ ee), 0 + tt.length + ll.length, false⟩)) := Lib.hid (by
    rw [← hll]; exact WP.ints_read' (t := ee) hE.out rfl (by simp <;> omega) (by simp) (by omega))
  have HR3 : Hid ((⟨tt ++ (ll ++ ee), 0 + tt.length + ll.length, false⟩ : WP.RS).text = ([101, 110, 100], ⟨tt ++ (ll ++ ee), 0 + tt.length + ll.length + ee.length, false⟩)) := Lib.hid (by
    rw [← hee]; exact WP.reads_text [101, 110, 100] _ [] (by decide) rfl (by simp <;> omega) (by simp))
  have HLf : Hid ((⟨tt ++ (ll ++ ee), 0 + tt.length + ll.length + ee.length, false⟩ : WP.RS).left = 0) := Lib.hid (by simp [WP.RS.left] <;> omega)
  rw [htt] at hn1
  rw [hll] at hn2
  rw [hee] at hn3
  have hln : (tt ++ (ll ++ ee)).length ≤ 8796093022000 := by simp; omega
  have hln' : (tt ++ (ll ++ ee)).length ≤ 140737488355328 := by omega
  have hz1 := WP.S_size tt
  have hz2 := WP.S_size ll
  have hz3 := WP.S_size ee
  have hz4 : (WP.S (tt ++ ll)).size ≤ 5000 := by rw [WP.S_size]; simp; omega
  have hs1 := WP.S_append tt ll
  have hs2 := WP.S_append (tt ++ ll) ee
  have acc2 : Below w2.heap.size w2 w2 := Below.refl _ _
  go_wp2_with (first
    | (go_at_call 22; refine (wtexts_any _ T _ (HT.out.keep acc2) hT6.out (by omega)).mono ?_; rw [htt]; rintro e w3 ⟨rfl, hb3⟩; replace acc2 := bnext acc2 hb3; clear hb3)
    | (go_at_call 20; refine (wints_any _ L _ (HL.out.keep acc2) hE.out (by omega)).mono ?_; rw [hll]; rintro e w3 ⟨rfl, hb3⟩; replace acc2 := bnext acc2 hb3; clear hb3)
    | (go_at_call 18; refine (text_s [101, 110, 100] _ (by decide)).mono ?_; rw [hee]; rintro e w3 ⟨rfl, hb3⟩; replace acc2 := bnext acc2 hb3; clear hb3))
  clear hz1 hz2 hz3 hz4 hs1 hs2
  refine (new_any (tt ++ (ll ++ ee)) _ hln').mono ?_
  rintro e w4 ⟨rfl, R4, hb4⟩
  obtain ⟨B, hB⟩ : ∃ B, w3.heap.size = B := ⟨_, rfl⟩
  have hwB : w2.heap.size ≤ B := by rw [← hB]; exact acc2.size
  replace acc2 := bnext acc2 hb4
  clear hb4
  rw [hB] at R4 ⊢
  clear hB
  go_wp2_with fail
  refine (texts_c _ _ _ _ _ R4 hln HR1.out).mono ?_
  rintro e w5 ⟨va, rfl, O5, R5, K5⟩
  have hB4 := R4.lt
  replace acc2 := acc2.trans (K5.below hwB acc2.size)
  clear K5 R4
  obtain ⟨aa5, ac5, rfl⟩ := own_shape O5
  go_wp2_with fail
  refine (ints_c _ _ _ _ _ R5 hln HR2.out).mono ?_
  rintro e w6 ⟨vb, rfl, O6, R6, K6⟩
  have hB5 := R5.lt
  replace acc2 := acc2.trans (K6.below hwB acc2.size)
  replace O5 := own_kept O5 hB4 K6
  clear K6 R5
  obtain ⟨aa6, ac6, rfl⟩ := own_shape O6
  go_wp2_with fail
  refine (rtext_c _ _ _ _ _ R6 HR3.out).mono ?_
  rintro e w7 ⟨rfl, R7, K7⟩
  replace acc2 := acc2.trans (K7.below hwB acc2.size)
  replace O5 := own_kept O5 hB4 K7
  replace O6 := own_kept O6 hB5 K7
  clear K7 R6
  have A7 : Hid (RowAt w7 (.slice aa5 T.length ac5) (T.map sv)) := Lib.hid (row_own O5 (by simp))
  have B7 : Hid (RowAt w7 (.slice aa6 L.length ac6) (L.map (Value.int .i64))) := Lib.hid (row_own O6 (by simp))
  have T7 := Lib.hid (HT.out.keep acc2)
  have L7 := Lib.hid (HL.out.keep acc2)
  have R7' := Lib.hid R7
  have acc7 := bnext acc acc2
  clear O5 O6 HT HL R7 acc acc2 hB4 hB5
  go_wp2_with fail
  go_loopw [11] (fun i wr => ∃ k : Nat, k ≤ T.length ∧ i = .int .i64 k ∧ Below w7.heap.size w7 wr) (fun i _ => T.length - (intOf i).toNat)
  case atStart => exact ⟨0, Nat.zero_le _, rfl, Below.refl _ _⟩
  case round =>
    obtain ⟨k, hk, rfl, hbk⟩ := hrel
    by_cases hkT : k < T.length
    · obtain ⟨g1, o1, rfl, hg1, hc1⟩ := (A7.out.keep hbk).cell (k := k) (by simpa using hkT)
      obtain ⟨g2, o2, rfl, hg2, hc2⟩ := (T7.out.keep hbk).cell (k := k) (by simpa using hkT)
      simp only [List.getElem_map] at hc1 hc2
      have hki : (k : Int) < (T.length : Int) := by omega
      go_wp2
      go_quiet (fail)
      go_wp2
      go_roundw
      case rel => exact ⟨k + 1, by omega, by go_num, below_drewN hbk _⟩
      case measure => simp [intOf]; omega
    · clear A7 T7
      go_wp2_with fail
      obtain ⟨wo, hwo⟩ : ∃ wo : World, wo = wr := ⟨_, rfl⟩
      subst hwo
      go_loopw [12] (fun i wr => ∃ j : Nat, j ≤ m ∧ i = .int .i64 j ∧ Below w7.heap.size w7 wr) (fun i _ => m - (intOf i).toNat)
      case atStart => exact ⟨0, Nat.zero_le _, rfl, hbk⟩
      case round =>
        obtain ⟨j, hj, rfl, hbj⟩ := hrel
        by_cases hjm : j < m
        · obtain ⟨g1, o1, rfl, hg1, hc1⟩ := (B7.out.keep hbj).cell (k := j) (by simp; omega)
          obtain ⟨g2, o2, rfl, hg2, hc2⟩ := (L7.out.keep hbj).cell (k := j) (by simp; omega)
          simp only [List.getElem_map] at hc1 hc2
          have hki : (j : Int) < (m : Int) := by omega
          go_wp2
          go_quiet (fail)
          go_wp2
          go_roundw
          case rel => exact ⟨j + 1, by omega, by go_num, below_drewN hbj _⟩
          case measure => simp [intOf]; omega
        · have qe : WP.S [101, 110, 100] = ⟨#[101, 110, 100]⟩ := rfl
          have R := R7'.out.keep hbj
          go_wp2_with (first
            | (go_at_call 15; refine (left_c _ _ 0 _ R HLf.out).mono ?_; rintro e w8 ⟨rfl, hb8⟩; replace hbj := bnext hbj hb8; replace R := R.keep hb8; clear hb8)
            | (go_at_call 16; refine (bad_c _ _ false _ R rfl).mono ?_; rintro e w8 ⟨rfl, rfl⟩))
          go_ret
          exact ⟨rfl, bnext acc7 hbj⟩

set_option maxRecDepth 100000 in
theorem lifted (os : Os) (started : os.Started) (H : Type) (enc : TypeId × Value → H) :
    ReturnsInHanded {} Try.checked os 6 .any (Rows.wireAgainSpec.pre6 enc Try.prog Try.f6 Rows.wireAgainRow.domain false) (Rows.wireAgainSpec.post enc Try.prog Try.f6 false true false false) := by
  refine returnsInHanded_of_change (C := Try.checked) own started (by kernel_rfl) Try.func6
    (ChangeSpec.witness6 (enc := enc) (C := Try.checked) false ⟨#[], #[.slice none 0 0, .slice none 0 0], []⟩ 8 (by kernel_rfl) (by kernel_rfl) (by kernel_rfl) (by kernel_rfl)) ?_
  intro W base args ds gs before hval0 hW hcnd _
  have hval : ∀ (j : Nat) t v, Try.f6.params[j]? = some t → args[j]? = some v → Value.okWide Try.prog W .any base t v := hval0
  have hW' := hW
  obtain ⟨p, q, hA0, hV, rfl, hfz, hnd⟩ := hW
  have hA : DataW.TrodAll enc Try.prog W 0 (fun _ => true) true Try.f6.params.toList args.toList ds p := hA0
  rw [Try.params6] at hA hval
  obtain ⟨v0, vs0, d0, ds0, p0, q0, hargs, rfl, rfl, h0, r0⟩ := trodAll_cons hA
  obtain ⟨v1, vs1, d1, ds1, p1, q1, rfl, rfl, rfl, h1, r1⟩ := trodAll_cons r0
  obtain ⟨rfl, rfl, rfl⟩ := trodAll_nil r1
  obtain rfl : args = #[v0, v1] := by cases args; simp_all
  obtain ⟨rfl, rfl⟩ := trodVars_none hV
  have k0 := h0
  have lt0 : ∀ x ∈ p0, x.block < W.heap.size := by obtain ⟨m, hm⟩ := k0; exact DataW.trod_lt m _ _ _ hm
  have k1 := h1
  have lt1 : ∀ x ∈ p1, x.block < W.heap.size := by obtain ⟨m, hm⟩ := k1; exact DataW.trod_lt m _ _ _ hm
  obtain ⟨a0, H0, L0, E0⟩ := open_l (hval 0 28 v0 rfl rfl) h0
  obtain ⟨a1, H1, L1, E1⟩ := open_t (hval 1 29 v1 rfl rfl) h1
  clear hA0 hval0
  refine (walk v0 a0 v1 a1  W H0 L0 E0 H1 L1 E1).mono fun e W' ⟨he, bel⟩ => ?_
  subst he
  exact ⟨_, rfl, _, _, _, [], _, [], hW', trodAll_mk1 (shut_bool Try.underlying4 _), (trodAll_cons_mk (Below.trod laidOut (by kernel_rfl) (of_decide_eq_true (by kernel_rfl)) k0 bel lt0) (trodAll_cons_mk (Below.trod laidOut (by kernel_rfl) (of_decide_eq_true (by kernel_rfl)) k1 bel lt1) trodAll_mk0)), rfl, bel.frame _, fun h => by cases h⟩

theorem over : Rows.wireAgainRow.holds Try.pinned (OpenSpec.ofChange Rows.wireAgainSpec) :=
  OpenClaim.holds_of_wide 6 Try.f6 rfl rfl rfl rfl rfl rfl rfl ⟨rfl, rfl, rfl, rfl, rfl⟩ rfl rfl rfl rfl rfl (by kernel_rfl) Try.func6 (by kernel_rfl)
    (of_decide_eq_true (by kernel_rfl)) (by unfold Func.isWrapper; first | (rw [if_pos (by decide +kernel)]; kernel_rfl) | (rw [if_neg (by decide +kernel)]; exact ⟨rfl, rfl⟩))
    (fun os started H enc _ => lifted os started H enc)

end Go.Proofs.Ytkakjpkgbbpjdaa.wireAgain
namespace Go.Proofs.Ytkakjpkgbbpjdaa
theorem wireAgain_proved : Rows.WireAgainSaid := wireAgain.over
#print axioms wireAgain_proved
end Go.Proofs.Ytkakjpkgbbpjdaa
