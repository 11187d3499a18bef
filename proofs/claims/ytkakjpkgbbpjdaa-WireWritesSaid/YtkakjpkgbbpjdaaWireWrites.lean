/- For every list of numbers and of strings WireWrites returns true: the bytes are those of the reference. No conditions. -/
import Derived.Test.YtkakjpkgbbpjdaaWireArgs
import Derived.Test.YtkakjpkgbbpjdaaLater
namespace Go.Proofs.Ytkakjpkgbbpjdaa.wireWrites
open Go.ChangeShapes Go.WideShapes Go.ChangeAt Go.RowKit Go.Joins Go.Deep
set_option linter.unusedVariables false


theorem row_take {w : World} {a : Option Addr} {n cap m : Nat} {U : List Value} (h : RowAt w (.slice a n cap) U) (hm : m ≤ U.length) : RowAt w (.slice a m cap) (U.take m) := by
  have hl : m = (U.take m).length := by rw [List.length_take, Nat.min_eq_left hm]
  obtain ⟨a', cap', he, h⟩ := h.out
  injection he with h1 h2 h3
  subst h1 h3
  refine ⟨a, cap, congrArg (fun z => Value.slice a z cap) hl, ?_⟩
  rcases h with h | ⟨g, o, rfl, hg, hc⟩
  · exact Or.inl (by simp [h])
  · refine Or.inr ⟨g, o, rfl, hg, fun i hi => ?_⟩
    have hi' : i < m ∧ i < U.length := by simp at hi; omega
    rw [hc i hi'.2]
    simp [List.getD, hi'.1]
theorem _root_.Go.Proofs.Ytkakjpkgbbpjdaa.WP.shorts_le {a : List (List UInt8)} {k : Nat} {x : List UInt8} (h : x ∈ WP.shorts a k) : x.length ≤ 200 := by
  unfold WP.shorts at h
  obtain ⟨y, _, rfl⟩ := List.mem_map.1 h
  simp; omega
theorem own_row {w : World} {B e : Nat} {v : Value} {U : List Value} {n : Nat} (h : w.ownsRow B e 1 v n U) (hn : n = U.length) : RowAt w v U := by
  subst hn
  rcases Nat.eq_zero_or_pos U.length with e0 | e0
  · obtain ⟨a, c, rfl⟩ := own_shape h
    exact ⟨a, c, rfl, Or.inl (List.eq_nil_of_length_eq_zero e0)⟩
  · obtain ⟨g, cap, rfl, _, hg, hc⟩ := own_at h e0
    exact ⟨_, cap, rfl, Or.inr ⟨g, 0, rfl, hg, fun i hi => by rw [Nat.zero_add]; exact hc i _ (by simp [List.getD, hi])⟩⟩
set_option maxRecDepth 100000 in
set_option maxHeartbeats 4000000 in
theorem walk (v0 : Value) (a0 : List Int) (v1 : Value) (a1 : List (List UInt8))  (w : World) (H0 : RowAt w v0 (a0.map (Value.int .i64))) (L0 : a0.length ≤ maxLen ∧ ∀ a n c, v0 = .slice a n c → n ≤ c) (E0 : ∀ x, x ∈ a0 → -9223372036854775808 ≤ x ∧ x ≤ 9223372036854775807) (H1 : RowAt w v1 (a1.map sv)) (L1 : a1.length ≤ maxLen ∧ ∀ a n c, v1 = .slice a n c → n ≤ c) (E1 : ∀ x, x ∈ a1 → x.length ≤ maxLen) :
    Calls Try.prog 4 #[v0, v1] w fun e w' => e = .returned (.bool true) ∧ Below w.heap.size w w' := by
  obtain ⟨aa, ca, rfl, ha⟩ := H0.out
  have HA := Lib.hid H0
  have hml : (a0.map (Value.int .i64)).length = a0.length := by simp
  rw [hml] at HA ⊢
  clear ha H0
  have hmx : maxLen = 9223372036854775807 := rfl
  rw [hmx] at L0 L1
  have hac : a0.length ≤ ca := L0.2 _ _ _ (by rw [hml])
  obtain ⟨L0, _⟩ := L0
  obtain ⟨L1, _⟩ := L1
  have acc : Below w.heap.size w w := Below.refl _ _
  obtain ⟨m, hm⟩ : ∃ m : Nat, m = min a0.length 50 := ⟨_, rfl⟩
  have em : min (a0.length : Int) 50 = (m : Int) := by omega
  have hma : m ≤ a0.length := by omega
  have hm50 : m ≤ 50 := by omega
  clear hm
  go_enter Try.func4, Try.ntmps4
  go_wp2_with (go_at_call 10; refine (sanity_any _).mono ?_; rintro e w1 ⟨rfl, hb1⟩; replace acc := bnext acc hb1; clear hb1)
  refine (short_any v1 a1 _ (H1.keep acc) E1 (by rw [hmx]; exact L1)).mono ?_
  rintro e w2 ⟨u, rfl, O2, hb2⟩
  have HL : Hid (RowAt w2 (.slice aa m ca) ((a0.take m).map (Value.int .i64))) := Lib.hid (by
    have := row_take ((HA.out.keep acc).keep hb2) (show m ≤ (a0.map (Value.int .i64)).length by rw [hml]; exact hma)
    rwa [← List.map_take] at this)
  replace acc := bnext acc hb2
  clear hb2 HA H1
  obtain ⟨T, hT⟩ : ∃ T, WP.shorts a1 20 = T := ⟨_, rfl⟩
  have hTl : T.length ≤ 20 := by rw [← hT]; exact WP.shorts_len _ _
  have hTx : Hid (∀ x, x ∈ T → x.length ≤ 200) := Lib.hid (fun x hx => by rw [← hT] at hx; exact WP.shorts_le hx)
  rw [hT] at O2
  clear hT
  have HT : Hid (RowAt w2 u (T.map sv)) := Lib.hid (own_row O2 (by simp))
  obtain ⟨ub, uc, rfl⟩ := own_shape O2
  clear O2
  go_wp2_with fail
  go_loopw [6] (fun i wr => ∃ k : Nat, k ≤ T.length ∧ i = .int .i64 k ∧ Below w2.heap.size w2 wr) (fun i _ => T.length - (intOf i).toNat)
  case atStart => exact ⟨0, Nat.zero_le _, rfl, Below.refl _ _⟩
  case round =>
    obtain ⟨k, hk, rfl, hbk⟩ := hrel
    by_cases hkT : k < T.length
    · obtain ⟨a', c', he, hr⟩ := HT.out.out
      obtain ⟨g, o, rfl, hg, hc⟩ := hr.resolve_left (by intro h; simp at h; simp [h] at hkT)
      injection he with h1 h2 h3
      subst h1
      have hcell0 := (hbk.cell (p := ⟨g, o + k, none⟩) hg).trans (hc k (by simpa using hkT))
      have hX : (T.map sv).getD k (.bool false) = .string (WP.S T[k]) := by simp [List.getD, hkT]
      rw [hX] at hcell0
      have hki : (k : Int) < (T.length : Int) := by omega
      have hxl : T[k].length ≤ 4611686018427387904 := by have := hTx.out T[k] (by simp); omega
      have hAL := Later.cell hcell0
      clear hc hX h2 h3
      go_wp2
      refine wp_region_later (by kernel_rfl) (by kernel_rfl) ?_
      repeat (go_big_quiet_step (first | (go_at_call 18; exact calls_later _ (text_s _ _ hxl)) | (go_at_call 19; exact calls_later _ (rtext_s _ _ hxl))))
      refine wpQuiet_nil ?_
      intro w5 hw'
      obtain ⟨s5, hs5⟩ := hw'
      have hb5 : Below wr.heap.size wr w5 := by rw [hs5]; exact s5.le
      clear hs5 s5 hAL hcell0
      go_wp2
      go_roundw
      case rel => exact ⟨k + 1, by omega, by go_num, bnext hbk hb5⟩
      case measure => simp [intOf]; omega
    · have hE : Hid (∀ x, x ∈ a0.take m → -9223372036854775808 ≤ x ∧ x ≤ 9223372036854775807) := Lib.hid fun x hx => E0 x (List.mem_of_mem_take hx)
      have hlm : (a0.take m).length ≤ 50 := by simp; omega
      have hT6 : Hid (∀ x, x ∈ T → x.length ≤ 1000000) := Lib.hid fun x hx => by have := hTx.out x hx; omega
      have hT62 : Hid (∀ x, x ∈ T → x.length ≤ 4611686018427387904) := Lib.hid fun x hx => by have := hTx.out x hx; omega
      have hTt : Hid (∀ x, x ∈ T → (WP.text x).length ≤ 210) := Lib.hid fun x hx => by have := hTx.out x hx; have := WP.text_len x; omega
      go_wp2_with (first
        | (go_at_call 20; refine (wints_any _ (a0.take m) _ (HL.out.keep hbk) hE.out (by omega)).mono ?_; rintro e w6 ⟨rfl, hb6⟩; replace hbk := bnext hbk hb6; clear hb6)
        | (go_at_call 21; refine (rints_any _ (a0.take m) 10 _ (HL.out.keep hbk) (fun x _ => WP.int_len x) hE.out (by omega) (by omega)).mono ?_; rintro e w6 ⟨rfl, hb6⟩; replace hbk := bnext hbk hb6; clear hb6)
        | (go_at_call 22; refine (wtexts_any _ T _ (HT.out.keep hbk) hT6.out (by omega)).mono ?_; rintro e w6 ⟨rfl, hb6⟩; replace hbk := bnext hbk hb6; clear hb6)
        | (go_at_call 23; refine (rtexts_any _ T 210 _ (HT.out.keep hbk) hTt.out hT62.out (by omega) (by omega)).mono ?_; rintro e w6 ⟨rfl, hb6⟩; replace hbk := bnext hbk hb6; clear hb6))
      go_ret
      exact ⟨rfl, bnext acc hbk⟩

set_option maxRecDepth 100000 in
theorem lifted (os : Os) (started : os.Started) (H : Type) (enc : TypeId × Value → H) :
    ReturnsInHanded {} Try.checked os 4 .any (Rows.wireWritesSpec.pre6 enc Try.prog Try.f4 Rows.wireWritesRow.domain false) (Rows.wireWritesSpec.post enc Try.prog Try.f4 false true false false) := by
  refine returnsInHanded_of_change (C := Try.checked) own started (by kernel_rfl) Try.func4
    (ChangeSpec.witness6 (enc := enc) (C := Try.checked) false ⟨#[], #[.slice none 0 0, .slice none 0 0], []⟩ 8 (by kernel_rfl) (by kernel_rfl) (by kernel_rfl) (by kernel_rfl)) ?_
  intro W base args ds gs before hval0 hW hcnd _
  have hval : ∀ (j : Nat) t v, Try.f4.params[j]? = some t → args[j]? = some v → Value.okWide Try.prog W .any base t v := hval0
  have hW' := hW
  obtain ⟨p, q, hA0, hV, rfl, hfz, hnd⟩ := hW
  have hA : DataW.TrodAll enc Try.prog W 0 (fun _ => true) true Try.f4.params.toList args.toList ds p := hA0
  rw [Try.params4] at hA hval
  obtain ⟨v0, vs0, d0, ds0, p0, q0, hargs, rfl, rfl, h0, r0⟩ := trodAll_cons hA
  obtain ⟨v1, vs1, d1, ds1, p1, q1, rfl, rfl, rfl, h1, r1⟩ := trodAll_cons r0
  obtain ⟨rfl, rfl, rfl⟩ := trodAll_nil r1
  obtain rfl : args = #[v0, v1] := by cases args; simp_all
  obtain ⟨rfl, rfl⟩ := trodVars_none hV
  have k0 := h0
  have lt0 : ∀ x ∈ p0, x.block < W.heap.size := by obtain ⟨m, hm⟩ := k0; exact DataW.trod_lt m _ _ _ hm
  have k1 := h1
  have lt1 : ∀ x ∈ p1, x.block < W.heap.size := by obtain ⟨m, hm⟩ := k1; exact DataW.trod_lt m _ _ _ hm
  obtain ⟨a0, H0, L0, E0⟩ := open_l (hval 0 28 v0 rfl rfl) h0
  obtain ⟨a1, H1, L1, E1⟩ := open_t (hval 1 29 v1 rfl rfl) h1
  clear hA0 hval0
  refine (walk v0 a0 v1 a1  W H0 L0 E0 H1 L1 E1).mono fun e W' ⟨he, bel⟩ => ?_
  subst he
  exact ⟨_, rfl, _, _, _, [], _, [], hW', trodAll_mk1 (shut_bool Try.underlying4 _), (trodAll_cons_mk (Below.trod laidOut (by kernel_rfl) (of_decide_eq_true (by kernel_rfl)) k0 bel lt0) (trodAll_cons_mk (Below.trod laidOut (by kernel_rfl) (of_decide_eq_true (by kernel_rfl)) k1 bel lt1) trodAll_mk0)), rfl, bel.frame _, fun h => by cases h⟩

theorem over : Rows.wireWritesRow.holds Try.pinned (OpenSpec.ofChange Rows.wireWritesSpec) :=
  OpenClaim.holds_of_wide 4 Try.f4 rfl rfl rfl rfl rfl rfl rfl ⟨rfl, rfl, rfl, rfl, rfl⟩ rfl rfl rfl rfl rfl (by kernel_rfl) Try.func4 (by kernel_rfl)
    (of_decide_eq_true (by kernel_rfl)) (by unfold Func.isWrapper; first | (rw [if_pos (by decide +kernel)]; kernel_rfl) | (rw [if_neg (by decide +kernel)]; exact ⟨rfl, rfl⟩))
    (fun os started H enc _ => lifted os started H enc)

end Go.Proofs.Ytkakjpkgbbpjdaa.wireWrites
namespace Go.Proofs.Ytkakjpkgbbpjdaa
theorem wireWrites_proved : Rows.WireWritesSaid := wireWrites.over
#print axioms wireWrites_proved
end Go.Proofs.Ytkakjpkgbbpjdaa
