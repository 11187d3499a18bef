/- For every two numbers WireShort returns true: one byte for the small ones, ten at most, and no code is the beginning of another one. No conditions. -/
import Derived.Test.YtkakjpkgbbpjdaaWireOpen
namespace Go.Proofs.Ytkakjpkgbbpjdaa.wireShort
open Go.ChangeShapes Go.WideShapes Go.ChangeAt Go.RowKit Go.Joins Go.Deep
set_option linter.unusedVariables false


theorem ext_all (A : ByteArray) : A.extract 0 A.size = A := by
  apply ByteArray.ext
  rw [ByteArray.data_extract]
  show A.data.extract 0 A.data.size = A.data
  simp
theorem str_beq (X Y : ByteArray) : (X.toList == Y.toList) = decide (X = Y) := by
  rw [Bool.eq_iff_iff, beq_iff_eq, decide_eq_true_eq, ByteArray.toList_eq, ByteArray.toList_eq]
  exact ⟨fun h => ByteArray.ext (Array.toList_inj.mp h), fun h => by rw [h]⟩
theorem str_ok {X Y : ByteArray} {a b : Int} (h : X = Y ↔ a = b) : ((X.toList == Y.toList) == (a == b)) = true := by
  rw [str_beq, beq_iff_eq, Bool.eq_iff_iff]
  simpa using h
theorem _root_.Go.Proofs.Ytkakjpkgbbpjdaa.WP.short_eq {n m : Int} (n0 : -9223372036854775808 ≤ n) (n1 : n ≤ 9223372036854775807) (m0 : -9223372036854775808 ≤ m) (m1 : m ≤ 9223372036854775807) :
    ((WP.S (WP.int n)).size ≤ (WP.S (WP.int m)).size → (WP.S (WP.int n) = (WP.S (WP.int m)).extract 0 (WP.S (WP.int n)).size ↔ n = m)) ∧ ((WP.S (WP.int m)).size ≤ (WP.S (WP.int n)).size → ((WP.S (WP.int n)).extract 0 (WP.S (WP.int m)).size = WP.S (WP.int m) ↔ n = m)) := by
  have e1 := S_extract (WP.int m) 0 (WP.int n).length
  have e2 := S_extract (WP.int n) 0 (WP.int m).length
  rw [Nat.zero_add, List.drop_zero] at e1 e2
  simp only [WP.S_size]
  rw [e1, e2]
  refine ⟨fun h => ⟨fun g => WP.int_prefix n0 n1 m0 m1 h (WP.S_inj g), fun g => by subst g; simp⟩, fun h => ⟨fun g => (WP.int_prefix m0 m1 n0 n1 h (WP.S_inj g).symm).symm, fun g => by subst g; simp⟩⟩
set_option maxRecDepth 100000 in
set_option maxHeartbeats 1000000 in
theorem walk (a0 : Int) (a1 : Int) (wa0 : (Lit.int .i64 a0).wf = true) (wa1 : (Lit.int .i64 a1).wf = true) (w : World) :
    Calls Try.prog 8 #[.int .i64 a0, .int .i64 a1] w fun e w' => e = .returned (.bool true) ∧ Below w.heap.size w w' := by
  obtain ⟨n0, n1⟩ := bd64 wa0
  obtain ⟨m0, m1⟩ := bd64 wa1
  clear wa0 wa1
  have acc : Below w.heap.size w w := Below.refl _ _
  have hl1 := WP.int_len1 a0 n0 n1
  have HP := Lib.hid (WP.short_eq n0 n1 m0 m1)
  have z0 := WP.int_size a0
  have z1 := WP.int_size a1
  have p0 := WP.int_pos a0
  have p1 := WP.int_pos a1
  have y0 := WP.S_size (WP.int a0)
  have y1 := WP.S_size (WP.int a1)
  have HI0 := Lib.hid (fun w => int_any a0 w n0 n1)
  have HI1 := Lib.hid (fun w => int_any a1 w m0 m1)
  obtain ⟨A, hA⟩ : ∃ A, WP.S (WP.int a0) = A := ⟨_, rfl⟩
  obtain ⟨C, hC⟩ : ∃ C, WP.S (WP.int a1) = C := ⟨_, rfl⟩
  rw [hA] at HI0 HP z0 y0
  rw [hC] at HI1 HP z1 y1
  rw [← y0] at hl1 p0
  rw [← y1] at p1
  clear y0 y1 hA hC
  go_enter Try.func8, Try.ntmps8
  go_wp2_with (go_at_call 10; refine (sanity_any _).mono ?_; rintro e w1 ⟨rfl, hb1⟩; replace acc := bnext acc hb1; clear hb1)
  refine (HI0.out _).mono ?_
  rintro e w1 ⟨rfl, hb1⟩
  replace acc := bnext acc hb1
  clear hb1 HI0
  go_wp2_with fail
  refine (HI1.out _).mono ?_
  rintro e w2 ⟨rfl, hb2⟩
  replace acc := bnext acc hb2
  clear hb2 HI1
  have hx1 : A.extract 0 A.size = A := ext_all A
  have hx2 : C.extract 0 C.size = C := ext_all C
  have nn : (a0 < -64 ∧ A.size ≠ 1) ∨ (-64 ≤ a0 ∧ a0 ≤ 63 ∧ A.size = 1) ∨ (-64 ≤ a0 ∧ 63 < a0 ∧ A.size ≠ 1) := by omega
  clear hl1
  rcases Nat.lt_or_ge C.size A.size with hlt | hle
  · have hq := HP.out.2 (by omega)
    have e3 : decide ((A.size : Int) ≤ 10) = true := decide_eq_true (by omega)
    have em : min (A.size : Int) C.size = C.size := by omega
    go_wp2_with fail
    rcases nn with ⟨q1, q2⟩ | ⟨q1, q2, q3⟩ | ⟨q1, q2, q3⟩
    · have e1 : ((A.size : Int) == 1) = false := by simp; omega
      have e4 : decide (a0 ≤ 63) = true := decide_eq_true (by omega)
      have e5 : decide (-64 ≤ a0) = false := decide_eq_false (by omega)
      go_quiet (fail)
      go_wp2
      go_ret
      refine ⟨retb ?_, below_drewN acc _⟩
      first | exact str_ok hq | (rw [q3] at hq hx1; rw [hx1]; exact str_ok hq)
    · have e1 : ((A.size : Int) == 1) = true := by simp; omega
      have e4 : decide (a0 ≤ 63) = true := decide_eq_true (by omega)
      have e5 : decide (-64 ≤ a0) = true := decide_eq_true (by omega)
      go_quiet (fail)
      go_wp2
      go_ret
      refine ⟨retb ?_, below_drewN acc _⟩
      first | exact str_ok hq | (rw [q3] at hq hx1; rw [hx1]; exact str_ok hq)
    · have e1 : ((A.size : Int) == 1) = false := by simp; omega
      have e4 : decide (a0 ≤ 63) = false := decide_eq_false (by omega)
      have e5 : decide (-64 ≤ a0) = true := decide_eq_true (by omega)
      go_quiet (fail)
      go_wp2
      go_ret
      refine ⟨retb ?_, below_drewN acc _⟩
      first | exact str_ok hq | (rw [q3] at hq hx1; rw [hx1]; exact str_ok hq)
  · have hq := HP.out.1 (by omega)
    have e3 : decide ((A.size : Int) ≤ 10) = true := decide_eq_true (by omega)
    have em : min (A.size : Int) C.size = A.size := by omega
    go_wp2_with fail
    rcases nn with ⟨q1, q2⟩ | ⟨q1, q2, q3⟩ | ⟨q1, q2, q3⟩
    · have e1 : ((A.size : Int) == 1) = false := by simp; omega
      have e4 : decide (a0 ≤ 63) = true := decide_eq_true (by omega)
      have e5 : decide (-64 ≤ a0) = false := decide_eq_false (by omega)
      go_quiet (fail)
      go_wp2
      go_ret
      refine ⟨retb ?_, below_drewN acc _⟩
      first | exact str_ok hq | (rw [q3] at hq hx1; rw [hx1]; exact str_ok hq)
    · have e1 : ((A.size : Int) == 1) = true := by simp; omega
      have e4 : decide (a0 ≤ 63) = true := decide_eq_true (by omega)
      have e5 : decide (-64 ≤ a0) = true := decide_eq_true (by omega)
      go_quiet (fail)
      go_wp2
      go_ret
      refine ⟨retb ?_, below_drewN acc _⟩
      first | exact str_ok hq | (rw [q3] at hq hx1; rw [hx1]; exact str_ok hq)
    · have e1 : ((A.size : Int) == 1) = false := by simp; omega
      have e4 : decide (a0 ≤ 63) = false := decide_eq_false (by omega)
      have e5 : decide (-64 ≤ a0) = true := decide_eq_true (by omega)
      go_quiet (fail)
      go_wp2
      go_ret
      refine ⟨retb ?_, below_drewN acc _⟩
      first | exact str_ok hq | (rw [q3] at hq hx1; rw [hx1]; exact str_ok hq)

set_option maxRecDepth 100000 in
theorem lifted (os : Os) (started : os.Started) (H : Type) (enc : TypeId × Value → H) :
    ReturnsInHanded {} Try.checked os 8 .any (Rows.wireShortSpec.pre6 enc Try.prog Try.f8 Rows.wireShortRow.domain false) (Rows.wireShortSpec.post enc Try.prog Try.f8 false true false false) := by
  refine returnsInHanded_of_change (C := Try.checked) own started (by kernel_rfl) Try.func8
    (ChangeSpec.witness6 (enc := enc) (C := Try.checked) false ⟨#[], #[.int .i64 0, .int .i64 0], []⟩ 8 (by kernel_rfl) (by kernel_rfl) (by kernel_rfl) (by kernel_rfl)) ?_
  intro W base args ds gs before hval0 hW hcnd _
  have hval : ∀ (j : Nat) t v, Try.f8.params[j]? = some t → args[j]? = some v → Value.okWide Try.prog W .any base t v := hval0
  have hW' := hW
  obtain ⟨p, q, hA0, hV, rfl, hfz, hnd⟩ := hW
  have hA : DataW.TrodAll enc Try.prog W 0 (fun _ => true) true Try.f8.params.toList args.toList ds p := hA0
  rw [Try.params8] at hA hval
  obtain ⟨v0, vs0, d0, ds0, p0, q0, hargs, rfl, rfl, h0, r0⟩ := trodAll_cons hA
  obtain ⟨v1, vs1, d1, ds1, p1, q1, rfl, rfl, rfl, h1, r1⟩ := trodAll_cons r0
  obtain ⟨rfl, rfl, rfl⟩ := trodAll_nil r1
  obtain rfl : args = #[v0, v1] := by cases args; simp_all
  obtain ⟨rfl, rfl⟩ := trodVars_none hV
  have k0 := h0
  have lt0 : ∀ x ∈ p0, x.block < W.heap.size := by obtain ⟨m, hm⟩ := k0; exact DataW.trod_lt m _ _ _ hm
  have k1 := h1
  have lt1 : ∀ x ∈ p1, x.block < W.heap.size := by obtain ⟨m, hm⟩ := k1; exact DataW.trod_lt m _ _ _ hm
  obtain ⟨a0, rfl, rfl, rfl, wa0⟩ := open_int Try.underlying3 (hval 0 3 v0 rfl rfl) h0
  obtain ⟨a1, rfl, rfl, rfl, wa1⟩ := open_int Try.underlying3 (hval 1 3 v1 rfl rfl) h1
  clear hA0 hval0
  refine (walk a0 a1 wa0 wa1 W).mono fun e W' ⟨he, bel⟩ => ?_
  subst he
  exact ⟨_, rfl, _, _, _, [], _, [], hW', trodAll_mk1 (shut_bool Try.underlying4 _), (trodAll_cons_mk (Below.trod laidOut (by kernel_rfl) (of_decide_eq_true (by kernel_rfl)) k0 bel lt0) (trodAll_cons_mk (Below.trod laidOut (by kernel_rfl) (of_decide_eq_true (by kernel_rfl)) k1 bel lt1) trodAll_mk0)), rfl, bel.frame _, fun h => by cases h⟩

theorem over : Rows.wireShortRow.holds Try.pinned (OpenSpec.ofChange Rows.wireShortSpec) :=
  OpenClaim.holds_of_wide 8 Try.f8 rfl rfl rfl rfl rfl rfl rfl ⟨rfl, rfl, rfl, rfl, rfl⟩ rfl rfl rfl rfl rfl (by kernel_rfl) Try.func8 (by kernel_rfl)
    (of_decide_eq_true (by kernel_rfl)) (by unfold Func.isWrapper; first | (rw [if_pos (by decide +kernel)]; kernel_rfl) | (rw [if_neg (by decide +kernel)]; exact ⟨rfl, rfl⟩))
    (fun os started H enc _ => lifted os started H enc)

end Go.Proofs.Ytkakjpkgbbpjdaa.wireShort
namespace Go.Proofs.Ytkakjpkgbbpjdaa
theorem wireShort_proved : Rows.WireShortSaid := wireShort.over
#print axioms wireShort_proved
end Go.Proofs.Ytkakjpkgbbpjdaa
