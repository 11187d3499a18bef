/- For every seed, message and numbers SignSigns returns true: Sign answers what the reference answers. No conditions. -/
import Derived.Test.YtinkhgmdeldniaaSgnLaw0
import Derived.ChangeMaps5
namespace Go.Proofs.Ytinkhgmdeldniaa.signSigns
open Go.ChangeShapes Go.WideShapes Go.ChangeAt Go.RowKit Go.Joins Go.Deep Go.ChangeMaps
set_option maxRecDepth 100000
set_option linter.unusedVariables false

set_option maxRecDepth 100000 in
set_option maxHeartbeats 4000000 in
theorem walk (a0 : ByteArray) (a1 : ByteArray) (a2 : Int) (b2 : Int) (wa0 : a0.size ≤ maxLen) (wa1 : a1.size ≤ maxLen) (wa2 : (Lit.int .i64 a2).wf = true) (wb2 : (Lit.int .i64 b2).wf = true) (w : World) :
    Calls Try.prog 4 #[.string a0, .string a1, .agg #[.int .i64 a2, .int .i64 b2]] w fun e w' => e = .returned (.bool true) ∧ Below w.heap.size w w' := by
  obtain ⟨b1, b2'⟩ := bd64 wa2
  obtain ⟨c1, c2⟩ := bd64 wb2
  have C0 := Lib.hid (fun V => short_any a0 V wa0)
  have C1 := Lib.hid (fun V => short_any a1 V wa1)
  have z0 := cut_size a0
  have z1 := cut_size a1
  obtain ⟨x, hx⟩ : ∃ x, SG.cut a0 = x := ⟨_, rfl⟩
  obtain ⟨y, hy⟩ : ∃ y, SG.cut a1 = y := ⟨_, rfl⟩
  rw [hx] at C0 z0
  rw [hy] at C1 z1
  have r5 : 0 ≤ a2 % 5 ∧ a2 % 5 < 5 := by omega
  have r7 : 0 ≤ b2 % 7 ∧ b2 % 7 < 7 := by omega
  have r18 : 0 ≤ b2 % 18 ∧ b2 % 18 < 18 := by omega
  obtain ⟨m5, hm5⟩ : ∃ m, a2 % 5 = m := ⟨_, rfl⟩
  obtain ⟨m7, hm7⟩ : ∃ m, b2 % 7 = m := ⟨_, rfl⟩
  obtain ⟨m18, hm18⟩ : ∃ m, b2 % 18 = m := ⟨_, rfl⟩
  rw [hm5] at r5
  rw [hm7] at r7
  rw [hm18] at r18
  have M5 : MR a2 5 m5 := hm5
  have w18 : IntKind.i64.wrap (m18 - 1) = m18 - 1 := by rw [IntKind.wrap_i64]; omega
  have w7 : IntKind.i64.wrap (m7 - 1) = m7 - 1 := by rw [IntKind.wrap_i64]; omega
  have M7 : MR b2 7 m7 := hm7
  have M18 : MR b2 18 m18 := hm18
  have acc : Below w.heap.size w w := Below.refl _ _
  clear hx hy hm5 hm7 hm18 wa0 wa1 wa2 wb2
  have hbox := box_twoi w a2 b2
  obtain ⟨W0, hW0⟩ : ∃ W0, w.alloc (.cells #[.int .i64 a2, .int .i64 b2] 30) = W0 := ⟨_, rfl⟩
  go_enter Try.func4, Try.ntmps4
  go_wp2_with fail
  rw [hW0] at hbox
  replace acc : Below w.heap.size w W0 := by rw [← hW0]; exact balloc acc _
  have HBX := Lib.hid hbox
  clear hbox hW0
  refine (sane_any _).mono ?_
  rintro e w1 ⟨rfl, k1⟩
  have hbx := HBX.out _ k1
  obtain ⟨hbx0, hbx1⟩ := hbx
  have hbx2 : ∀ V, Below w1.heap.size w1 V → V.cell? ⟨w.heap.size, 0, none⟩ = some (.int .i64 a2) ∧ V.cell? ⟨w.heap.size, 1, none⟩ = some (.int .i64 b2) := fun V hV => HBX.out V (bnext k1 hV)
  replace acc := bnext acc k1
  clear k1 HBX
  obtain ⟨B, hBB⟩ : ∃ B, w.heap.size = B := ⟨_, rfl⟩
  have HHB := Lib.hid hBB
  have KC : Hid (∀ V, Below w1.heap.size w1 V → V.cell? ⟨B, 0, none⟩ = some (.int .i64 a2) ∧ V.cell? ⟨B, 1, none⟩ = some (.int .i64 b2)) := Lib.hid (by rw [← hBB]; exact hbx2)
  rw [hBB]
  clear hbx0 hbx1 hbx2 hBB
  have acc1 := Below.refl w1.heap.size w1
  go_wp2_with fail
  refine (C0.out _).mono ?_
  rintro e w2 ⟨rfl, k2⟩
  replace acc1 := bnext acc1 k2
  clear k2
  go_wp2_with fail
  refine (C1.out _).mono ?_
  rintro e w3 ⟨rfl, k3⟩
  replace acc1 := bnext acc1 k3
  clear k3
  obtain ⟨hb0, hb1⟩ := KC.out _ acc1
  have ACC1 := Lib.hid acc1
  have ACC := Lib.hid acc
  clear acc acc1 KC
  go_wp2_with fail
  go_region_held3 (fun w' => w'.cell? ⟨B, 0, none⟩ = some (.int .i64 a2) ∧ w'.cell? ⟨B, 1, none⟩ = some (.int .i64 b2)) (go_keep) (first | (go_at_call 12; refine (mod_c (by with_reducible assumption) (by decide) (by decide) _).mono ?_; rintro e w' ⟨rfl, rfl⟩))
  obtain ⟨D, hD⟩ : ∃ D, w3.heap.size = D := ⟨_, rfl⟩
  have h00 := World.alloc_heap_new w3 (.cells #[.int .i64 a2, .int .i64 b2, .int .i64 m5, .int .i64 (m7 - 1), .int .i64 16, .int .i64 (m18 - 1)] 30)
  obtain ⟨W0, hW0⟩ : ∃ W0, (w3.alloc (.cells #[.int .i64 a2, .int .i64 b2, .int .i64 m5, .int .i64 (m7 - 1), .int .i64 16, .int .i64 (m18 - 1)] 30)).drew = W0 := ⟨_, rfl⟩
  have h0 : W0.heap[D]? = some (.cells #[.int .i64 a2, .int .i64 b2, .int .i64 m5, .int .i64 (m7 - 1), .int .i64 16, .int .i64 (m18 - 1)] 30 (0, 0)) := by rw [← hW0, ← hD]; exact h00
  have acc : Below w1.heap.size w1 W0 := by rw [← hW0]; exact Below.drew (balloc ACC1.out _)
  rw [hD]
  rw [hW0]
  have HC : Hid (∀ V, Below W0.heap.size W0 V → ∀ j, j < 3 → ∃ k l : Int, -9223372036854775808 ≤ k ∧ k ≤ 9223372036854775807 ∧ -9223372036854775808 ≤ l ∧ l ≤ 9223372036854775807 ∧ V.cell? ⟨D, j * 2, none⟩ = some (.int .i64 k) ∧ V.cell? ⟨D, j * 2 + 1, none⟩ = some (.int .i64 l)) := Lib.hid fun V hV j hj => by
    have h1 := (hV.block D (Array.getElem?_eq_some_iff.1 h0).1).trans h0
    have h3 : j = 0 ∨ j = 1 ∨ j = 2 := by omega
    rcases h3 with rfl | rfl | rfl
    · exact ⟨a2, b2, b1, b2', c1, c2, by simp [World.cell?, h1], by simp [World.cell?, h1]⟩
    · exact ⟨m5, m7 - 1, by omega, by omega, by omega, by omega, by simp [World.cell?, h1], by simp [World.cell?, h1]⟩
    · exact ⟨16, m18 - 1, by omega, by omega, by omega, by omega, by simp [World.cell?, h1], by simp [World.cell?, h1]⟩
  replace ACC := Lib.hid (bnext ACC.out acc)
  clear h00 h0 hW0 hD acc ACC1
  go_wp2_with fail
  go_loopw [35] (fun v wr => ∃ j : Nat, v = .int .i64 (j : Int) ∧ j ≤ 3 ∧ Below W0.heap.size W0 wr) (fun v _ => 3 - (intOf v).toNat)
  case atStart => exact ⟨0, rfl, by omega, Below.refl _ _⟩
  case round =>
    obtain ⟨j, rfl, hj, hb⟩ := hrel
    have HB := Lib.hid hb
    by_cases hj3 : j < 3
    · have hji : (j : Int) < 3 := by omega
      obtain ⟨k, l, hk1, hk2, hl1, hl2, hc0, hc1⟩ := HC.out wr hb j hj3
      obtain ⟨S, E, hS⟩ : ∃ S E, SG.sign x k l y = (S, E) := ⟨_, _, rfl⟩
      have D1 := Lib.hid (fun V => sign_any x k l y V (by omega) (by omega))
      have D2 := Lib.hid (fun V => rsign_any x k l y V (by omega) (by omega))
      rw [hS] at D1 D2
      have hpp : (S.toList == S.toList) = true := by rw [str_ok]; simp
      clear hS hb
      go_wp2_with fail
      have hbx := box_twoi wr k l
      obtain ⟨W1, hW1⟩ : ∃ W1, wr.alloc (.cells #[.int .i64 k, .int .i64 l] 30) = W1 := ⟨_, rfl⟩
      have hb1 : Below W0.heap.size W0 W1 := by rw [← hW1]; exact balloc HB.out _
      rw [hW1] at hbx ⊢
      clear hW1
      refine (D1.out _).mono ?_
      rintro e w5 ⟨rfl, k5⟩
      obtain ⟨x0, x1⟩ := hbx _ k5
      go_wp2_with fail
      refine (D2.out _).mono ?_
      rintro e w6 ⟨rfl, k6⟩
      have HB6 := Lib.hid (bnext (bnext hb1 k5) k6)
      clear k5 k6 hc0 hc1 x0 x1 hbx hb1
      go_wp2
      go_roundw
      case rel => exact ⟨j + 1, by go_num, hj3, HB6.out⟩
      case measure => simp [intOf]; omega
    · obtain rfl : j = 3 := by omega
      go_wp2
      go_ret
      exact ⟨rfl, bnext ACC.out hb⟩

set_option maxRecDepth 100000 in
theorem lifted (os : Os) (started : os.Started) (H : Type) (enc : TypeId × Value → H) :
    ReturnsInHanded {} Try.checked os 4 .any (Rows.signSignsSpec.pre6 enc Try.prog Try.f4 Rows.signSignsRow.domain false) (Rows.signSignsSpec.post enc Try.prog Try.f4 false true false false) := by
  refine returnsInHanded_of_change (C := Try.checked) own started (by kernel_rfl) Try.func4
    (ChangeSpec.witness6 (enc := enc) (C := Try.checked) false ⟨#[], #[.string ByteArray.empty, .string ByteArray.empty, .agg #[.int .i64 0, .int .i64 0]], []⟩ 8 (by kernel_rfl) (by kernel_rfl) (by kernel_rfl) (by kernel_rfl)) ?_
  intro W base args ds gs before hval0 hW hcnd _
  have hval : ∀ (j : Nat) t v, Try.f4.params[j]? = some t → args[j]? = some v → Value.okWide Try.prog W .any base t v := hval0
  have hW' := hW
  obtain ⟨p, q, hA0, hV, rfl, hfz, hnd⟩ := hW
  have hA : DataW.TrodAll enc Try.prog W 0 (fun _ => true) true Try.f4.params.toList args.toList ds p := hA0
  rw [Try.params4] at hA hval
  obtain ⟨v0, vs0, d0, ds0, p0, q0, hargs, rfl, rfl, h0, r0⟩ := trodAll_cons hA
  obtain ⟨v1, vs1, d1, ds1, p1, q1, rfl, rfl, rfl, h1, r1⟩ := trodAll_cons r0
  obtain ⟨v2, vs2, d2, ds2, p2, q2, rfl, rfl, rfl, h2, r2⟩ := trodAll_cons r1
  obtain ⟨rfl, rfl, rfl⟩ := trodAll_nil r2
  obtain rfl : args = #[v0, v1, v2] := by cases args; simp_all
  obtain ⟨rfl, rfl⟩ := trodVars_none hV
  have k0 := h0
  have lt0 : ∀ x ∈ p0, x.block < W.heap.size := by obtain ⟨m, hm⟩ := k0; exact DataW.trod_lt m _ _ _ hm
  have k1 := h1
  have lt1 : ∀ x ∈ p1, x.block < W.heap.size := by obtain ⟨m, hm⟩ := k1; exact DataW.trod_lt m _ _ _ hm
  have k2 := h2
  have lt2 : ∀ x ∈ p2, x.block < W.heap.size := by obtain ⟨m, hm⟩ := k2; exact DataW.trod_lt m _ _ _ hm
  obtain ⟨a0, rfl, rfl, rfl, wa0⟩ := open_string Try.underlying9 (hval 0 9 v0 rfl rfl) h0
  obtain ⟨a1, rfl, rfl, rfl, wa1⟩ := open_string Try.underlying9 (hval 1 9 v1 rfl rfl) h1
  obtain ⟨a2, b2, rfl, wa2, wb2⟩ := open_arr2 Try.underlying30 Try.underlying3 (by kernel_rfl) (by kernel_rfl) (hval 2 30 v2 rfl rfl) h2
  clear hA0 hval0
  refine (walk a0 a1 a2 b2 wa0 wa1 wa2 wb2 W).mono fun e W' ⟨he, bel⟩ => ?_
  subst he
  exact ⟨_, rfl, _, _, _, [], _, [], hW', trodAll_mk1 (shut_bool Try.underlying4 _), (trodAll_cons_mk (Below.trod laidOut (by kernel_rfl) (of_decide_eq_true (by kernel_rfl)) k0 bel lt0) (trodAll_cons_mk (Below.trod laidOut (by kernel_rfl) (of_decide_eq_true (by kernel_rfl)) k1 bel lt1) (trodAll_cons_mk (Below.trod laidOut (by kernel_rfl) (of_decide_eq_true (by kernel_rfl)) k2 bel lt2) trodAll_mk0))), rfl, bel.frame _, fun h => by cases h⟩

theorem over : Rows.signSignsRow.holds Try.pinned (OpenSpec.ofChange Rows.signSignsSpec) :=
  OpenClaim.holds_of_wide 4 Try.f4 rfl rfl rfl rfl rfl rfl rfl ⟨rfl, rfl, rfl, rfl, rfl⟩ rfl rfl rfl rfl rfl (by kernel_rfl) Try.func4 (by kernel_rfl)
    (of_decide_eq_true (by kernel_rfl)) (by unfold Func.isWrapper; first | (rw [if_pos (by decide +kernel)]; kernel_rfl) | (rw [if_neg (by decide +kernel)]; exact ⟨rfl, rfl⟩))
    (fun os started H enc _ => lifted os started H enc)

end Go.Proofs.Ytinkhgmdeldniaa.signSigns
namespace Go.Proofs.Ytinkhgmdeldniaa
theorem signSigns_proved : Rows.SignSignsSaid := signSigns.over
#print axioms signSigns_proved
end Go.Proofs.Ytinkhgmdeldniaa
