/- For every seed and number SignPublics returns true: Public answers what the reference answers. No conditions. -/
import Derived.Test.YtinkhgmdeldniaaSgnLaw0
import Derived.ChangeMaps5
namespace Go.Proofs.Ytinkhgmdeldniaa.signPublics
open Go.ChangeShapes Go.WideShapes Go.ChangeAt Go.RowKit Go.Joins Go.Deep Go.ChangeMaps
set_option maxRecDepth 100000
set_option linter.unusedVariables false

set_option maxRecDepth 100000 in
set_option maxHeartbeats 4000000 in
theorem walk (a0 : ByteArray) (a1 : Int) (wa0 : a0.size ≤ maxLen) (wa1 : (Lit.int .i64 a1).wf = true) (w : World) :
    Calls Try.prog 3 #[.string a0, .int .i64 a1] w fun e w' => e = .returned (.bool true) ∧ Below w.heap.size w w' := by
  obtain ⟨b1, b2⟩ := bd64 wa1
  have C0 := Lib.hid (fun V => short_any a0 V wa0)
  have z0 := cut_size a0
  obtain ⟨x, hx⟩ : ∃ x, SG.cut a0 = x := ⟨_, rfl⟩
  rw [hx] at C0 z0
  have M4 := Lib.hid (fun V => mod_any a1 4 V (by decide) (by decide))
  have M19 := Lib.hid (fun V => mod_any a1 19 V (by decide) (by decide))
  have r1 : 0 ≤ a1 % 4 ∧ a1 % 4 < 4 := by omega
  have r2 : 0 ≤ a1 % 19 ∧ a1 % 19 < 19 := by omega
  obtain ⟨k1, hk1⟩ : ∃ k1, a1 % 4 = k1 := ⟨_, rfl⟩
  obtain ⟨k2, hk2⟩ : ∃ k2, a1 % 19 = k2 := ⟨_, rfl⟩
  rw [hk1] at M4 r1
  rw [hk2] at M19 r2
  have acc : Below w.heap.size w w := Below.refl _ _
  clear hx hk1 hk2 wa0 wa1
  go_enter Try.func3, Try.ntmps3
  go_wp2_with fail
  refine (sane_any _).mono ?_
  rintro e w1 ⟨rfl, k1⟩
  replace acc := bnext acc k1
  clear k1
  go_wp2_with fail
  refine (C0.out _).mono ?_
  rintro e w2 ⟨rfl, k2⟩
  replace acc := bnext acc k2
  clear k2
  go_wp2_with fail
  refine (M4.out _).mono ?_
  rintro e w3 ⟨rfl, rfl⟩
  go_wp2_with fail
  refine (M19.out _).mono ?_
  rintro e w4 ⟨rfl, rfl⟩
  obtain ⟨W0, hW0⟩ : ∃ W0, w4.alloc (.cells #[.int .i64 a1, .int .i64 (k1 + 1), .int .i64 (k2 - 1)] 3) = W0 := ⟨_, rfl⟩
  obtain ⟨B, hB⟩ : ∃ B, w4.heap.size = B := ⟨_, rfl⟩
  have hcell : ∀ V, Below W0.heap.size W0 V → ∀ j, j < 3 → ∃ k : Int, -9223372036854775808 ≤ k ∧ k ≤ 9223372036854775807 ∧ V.cell? ⟨B, j, none⟩ = some (.int .i64 k) := fun V hV j hj => by
    have h0 := World.alloc_heap_new w4 (.cells #[.int .i64 a1, .int .i64 (k1 + 1), .int .i64 (k2 - 1)] 3)
    rw [hW0, hB] at h0
    have h1 := (hV.block B (Array.getElem?_eq_some_iff.1 h0).1).trans h0
    have h3 : j = 0 ∨ j = 1 ∨ j = 2 := by omega
    rcases h3 with rfl | rfl | rfl
    · exact ⟨a1, b1, b2, by simp [World.cell?, h1]⟩
    · exact ⟨k1 + 1, by omega, by omega, by simp [World.cell?, h1]⟩
    · exact ⟨k2 - 1, by omega, by omega, by simp [World.cell?, h1]⟩
  replace acc : Below w.heap.size w W0 := by rw [← hW0]; exact balloc acc _
  have HC := Lib.hid hcell
  have ACC := Lib.hid acc
  clear hcell acc
  go_wp2_with fail
  clear hW0 hB
  go_loopw [24] (fun v wr => ∃ j : Nat, v = .int .i64 (j : Int) ∧ j ≤ 3 ∧ Below W0.heap.size W0 wr) (fun v _ => 3 - (intOf v).toNat)
  case atStart => exact ⟨0, rfl, by omega, Below.refl _ _⟩
  case round =>
    obtain ⟨j, rfl, hj, hb⟩ := hrel
    have HB := Lib.hid hb
    by_cases hj3 : j < 3
    · have hji : (j : Int) < 3 := by omega
      obtain ⟨k, hk1, hk2, hc⟩ := HC.out wr hb j hj3
      obtain ⟨P, E, hP⟩ : ∃ P E, SG.pub x k = (P, E) := ⟨_, _, rfl⟩
      have D1 := Lib.hid (fun V => public_any x k V (by omega) ⟨hk1, hk2⟩)
      have D2 := Lib.hid (fun V => rpublic_any x k V (by omega) ⟨hk1, hk2⟩)
      rw [hP] at D1 D2
      have hpp : (P.toList == P.toList) = true := by rw [str_ok]; simp
      clear hP hb
      go_wp2_with fail
      refine (D1.out _).mono ?_
      rintro e w5 ⟨rfl, k5⟩
      go_wp2_with fail
      refine (D2.out _).mono ?_
      rintro e w6 ⟨rfl, k6⟩
      have HB6 := Lib.hid (bnext (bnext HB.out k5) k6)
      clear k5 k6 hc
      go_wp2
      go_roundw
      case rel => exact ⟨j + 1, by go_num, hj3, HB6.out⟩
      case measure => simp [intOf]; omega
    · obtain rfl : j = 3 := by omega
      go_wp2
      go_ret
      exact ⟨rfl, bnext ACC.out hb⟩

set_option maxRecDepth 100000 in
theorem lifted (os : Os) (started : os.Started) (H : Type) (enc : TypeId × Value → H) :
    ReturnsInHanded {} Try.checked os 3 .any (Rows.signPublicsSpec.pre6 enc Try.prog Try.f3 Rows.signPublicsRow.domain false) (Rows.signPublicsSpec.post enc Try.prog Try.f3 false true false false) := by
  refine returnsInHanded_of_change (C := Try.checked) own started (by kernel_rfl) Try.func3
    (ChangeSpec.witness6 (enc := enc) (C := Try.checked) false ⟨#[], #[.string ByteArray.empty, .int .i64 0], []⟩ 8 (by kernel_rfl) (by kernel_rfl) (by kernel_rfl) (by kernel_rfl)) ?_
  intro W base args ds gs before hval0 hW hcnd _
  have hval : ∀ (j : Nat) t v, Try.f3.params[j]? = some t → args[j]? = some v → Value.okWide Try.prog W .any base t v := hval0
  have hW' := hW
  obtain ⟨p, q, hA0, hV, rfl, hfz, hnd⟩ := hW
  have hA : DataW.TrodAll enc Try.prog W 0 (fun _ => true) true Try.f3.params.toList args.toList ds p := hA0
  rw [Try.params3] at hA hval
  obtain ⟨v0, vs0, d0, ds0, p0, q0, hargs, rfl, rfl, h0, r0⟩ := trodAll_cons hA
  obtain ⟨v1, vs1, d1, ds1, p1, q1, rfl, rfl, rfl, h1, r1⟩ := trodAll_cons r0
  obtain ⟨rfl, rfl, rfl⟩ := trodAll_nil r1
  obtain rfl : args = #[v0, v1] := by cases args; simp_all
  obtain ⟨rfl, rfl⟩ := trodVars_none hV
  have k0 := h0
  have lt0 : ∀ x ∈ p0, x.block < W.heap.size := by obtain ⟨m, hm⟩ := k0; exact DataW.trod_lt m _ _ _ hm
  have k1 := h1
  have lt1 : ∀ x ∈ p1, x.block < W.heap.size := by obtain ⟨m, hm⟩ := k1; exact DataW.trod_lt m _ _ _ hm
  obtain ⟨a0, rfl, rfl, rfl, wa0⟩ := open_string Try.underlying9 (hval 0 9 v0 rfl rfl) h0
  obtain ⟨a1, rfl, rfl, rfl, wa1⟩ := open_int Try.underlying3 (hval 1 3 v1 rfl rfl) h1
  clear hA0 hval0
  refine (walk a0 a1 wa0 wa1 W).mono fun e W' ⟨he, bel⟩ => ?_
  subst he
  exact ⟨_, rfl, _, _, _, [], _, [], hW', trodAll_mk1 (shut_bool Try.underlying4 _), (trodAll_cons_mk (Below.trod laidOut (by kernel_rfl) (of_decide_eq_true (by kernel_rfl)) k0 bel lt0) (trodAll_cons_mk (Below.trod laidOut (by kernel_rfl) (of_decide_eq_true (by kernel_rfl)) k1 bel lt1) trodAll_mk0)), rfl, bel.frame _, fun h => by cases h⟩

theorem over : Rows.signPublicsRow.holds Try.pinned (OpenSpec.ofChange Rows.signPublicsSpec) :=
  OpenClaim.holds_of_wide 3 Try.f3 rfl rfl rfl rfl rfl rfl rfl ⟨rfl, rfl, rfl, rfl, rfl⟩ rfl rfl rfl rfl rfl (by kernel_rfl) Try.func3 (by kernel_rfl)
    (of_decide_eq_true (by kernel_rfl)) (by unfold Func.isWrapper; first | (rw [if_pos (by decide +kernel)]; kernel_rfl) | (rw [if_neg (by decide +kernel)]; exact ⟨rfl, rfl⟩))
    (fun os started H enc _ => lifted os started H enc)

end Go.Proofs.Ytinkhgmdeldniaa.signPublics
namespace Go.Proofs.Ytinkhgmdeldniaa
theorem signPublics_proved : Rows.SignPublicsSaid := signPublics.over
#print axioms signPublics_proved
end Go.Proofs.Ytinkhgmdeldniaa
