/- For every public string, message and signature SignRaw returns true: Check answers what the reference answers. No conditions. -/
import Derived.Test.YtinkhgmdeldniaaSgnLaw0
import Derived.ChangeMaps5
namespace Go.Proofs.Ytinkhgmdeldniaa.signRaw
open Go.ChangeShapes Go.WideShapes Go.ChangeAt Go.RowKit Go.Joins Go.Deep Go.ChangeMaps
set_option maxRecDepth 100000
set_option linter.unusedVariables false

set_option maxRecDepth 100000 in
set_option maxHeartbeats 4000000 in
theorem walk (a0 : ByteArray) (a1 : ByteArray) (a2 : ByteArray) (wa0 : a0.size ≤ maxLen) (wa1 : a1.size ≤ maxLen) (wa2 : a2.size ≤ maxLen) (w : World) :
    Calls Try.prog 8 #[.string a0, .string a1, .string a2] w fun e w' => e = .returned (.bool true) ∧ Below w.heap.size w w' := by
  have s0 : a0.size ≤ 9223372036854775807 := wa0
  obtain ⟨m0, hm0⟩ : ∃ m, m = min a0.size 400 := ⟨_, rfl⟩
  have e0 : min (a0.size : Int) 400 = (m0 : Int) := by omega
  have q0 : (if (400 : Int) < (a0.size : Int) then (400 : Int) else (a0.size : Int)) = (m0 : Int) := by split <;> omega
  have l0 : m0 ≤ a0.size := by omega
  have f0 : m0 ≤ 400 := by omega
  clear hm0 wa0
  have s1 : a1.size ≤ 9223372036854775807 := wa1
  obtain ⟨m1, hm1⟩ : ∃ m, m = min a1.size 400 := ⟨_, rfl⟩
  have e1 : min (a1.size : Int) 400 = (m1 : Int) := by omega
  have q1 : (if (400 : Int) < (a1.size : Int) then (400 : Int) else (a1.size : Int)) = (m1 : Int) := by split <;> omega
  have l1 : m1 ≤ a1.size := by omega
  have f1 : m1 ≤ 400 := by omega
  clear hm1 wa1
  have s2 : a2.size ≤ 9223372036854775807 := wa2
  obtain ⟨m2, hm2⟩ : ∃ m, m = min a2.size 400 := ⟨_, rfl⟩
  have e2 : min (a2.size : Int) 400 = (m2 : Int) := by omega
  have q2 : (if (400 : Int) < (a2.size : Int) then (400 : Int) else (a2.size : Int)) = (m2 : Int) := by split <;> omega
  have l2 : m2 ≤ a2.size := by omega
  have f2 : m2 ≤ 400 := by omega
  clear hm2 wa2
  obtain ⟨x, hx⟩ : ∃ x, a0.extract 0 m0 = x := ⟨_, rfl⟩
  obtain ⟨y, hy⟩ : ∃ y, a1.extract 0 m1 = y := ⟨_, rfl⟩
  obtain ⟨z, hz⟩ : ∃ z, a2.extract 0 m2 = z := ⟨_, rfl⟩
  have sx : x.size ≤ 1000000 := by rw [← hx, ByteArray.size_extract]; omega
  have sy : y.size ≤ 1000000 := by rw [← hy, ByteArray.size_extract]; omega
  have sz : z.size ≤ 1000000 := by rw [← hz, ByteArray.size_extract]; omega
  have C1 := Lib.hid (fun V => check_any x y z V sx sy sz)
  have C2 := Lib.hid (fun V => rcheck_any x y z V sx sy sz)
  obtain ⟨r, hr⟩ : ∃ r, SG.check x y z = r := ⟨_, rfl⟩
  rw [hr] at C1 C2
  have HX := Lib.hid hx
  have HY := Lib.hid hy
  have HZ := Lib.hid hz
  have hrr : (r == r) = true := by simp
  have acc : Below w.heap.size w w := Below.refl _ _
  clear hx hy hz sx sy sz hr
  go_enter Try.func8, Try.ntmps8
  go_wp2_with fail
  refine (sane_any _).mono ?_
  rintro e w1 ⟨rfl, k1⟩
  replace acc := bnext acc k1
  clear k1
  have ACC := Lib.hid acc
  clear acc
  go_wp2
  go_quiet (fail)
  go_wp2_with fail
  rw [HX.out, HY.out, HZ.out]
  refine (C1.out _).mono ?_
  rintro e w2 ⟨rfl, k2⟩
  go_wp2_with fail
  refine (C2.out _).mono ?_
  rintro e w3 ⟨rfl, k3⟩
  go_wp2
  go_ret
  exact ⟨rfl, bnext (bnext (below_drewN ACC.out _) k2) k3⟩

set_option maxRecDepth 100000 in
theorem lifted (os : Os) (started : os.Started) (H : Type) (enc : TypeId × Value → H) :
    ReturnsInHanded {} Try.checked os 8 .any (Rows.signRawSpec.pre6 enc Try.prog Try.f8 Rows.signRawRow.domain false) (Rows.signRawSpec.post enc Try.prog Try.f8 false true false false) := by
  refine returnsInHanded_of_change (C := Try.checked) own started (by kernel_rfl) Try.func8
    (ChangeSpec.witness6 (enc := enc) (C := Try.checked) false ⟨#[], #[.string ByteArray.empty, .string ByteArray.empty, .string ByteArray.empty], []⟩ 8 (by kernel_rfl) (by kernel_rfl) (by kernel_rfl) (by kernel_rfl)) ?_
  intro W base args ds gs before hval0 hW hcnd _
  have hval : ∀ (j : Nat) t v, Try.f8.params[j]? = some t → args[j]? = some v → Value.okWide Try.prog W .any base t v := hval0
  have hW' := hW
  obtain ⟨p, q, hA0, hV, rfl, hfz, hnd⟩ := hW
  have hA : DataW.TrodAll enc Try.prog W 0 (fun _ => true) true Try.f8.params.toList args.toList ds p := hA0
  rw [Try.params8] at hA hval
  obtain ⟨v0, vs0, d0, ds0, p0, q0, hargs, rfl, rfl, h0, r0⟩ := trodAll_cons hA
  obtain ⟨v1, vs1, d1, ds1, p1, q1, rfl, rfl, rfl, h1, r1⟩ := trodAll_cons r0
  obtain ⟨v2, vs2, d2, ds2, p2, q2, rfl, rfl, rfl, h2, r2⟩ := trodAll_cons r1
  obtain ⟨rfl, rfl, rfl⟩ := trodAll_nil r2
  obtain rfl : args = #[v0, v1, v2] := by cases args; simp_all
  obtain ⟨rfl, rfl⟩ := trodVars_none hV
  have k0 := h0
  have lt0 : ∀ x ∈ p0, x.block < W.heap.size := by obtain ⟨m, hm⟩ := k0; exact DataW.trod_lt m _ _ _ hm
  have k1 := h1
  have lt1 : ∀ x ∈ p1, x.block < W.heap.size := by obtain ⟨m, hm⟩ := k1; exact DataW.trod_lt m _ _ _ hm
  have k2 := h2
  have lt2 : ∀ x ∈ p2, x.block < W.heap.size := by obtain ⟨m, hm⟩ := k2; exact DataW.trod_lt m _ _ _ hm
  obtain ⟨a0, rfl, rfl, rfl, wa0⟩ := open_string Try.underlying9 (hval 0 9 v0 rfl rfl) h0
  obtain ⟨a1, rfl, rfl, rfl, wa1⟩ := open_string Try.underlying9 (hval 1 9 v1 rfl rfl) h1
  obtain ⟨a2, rfl, rfl, rfl, wa2⟩ := open_string Try.underlying9 (hval 2 9 v2 rfl rfl) h2
  clear hA0 hval0
  refine (walk a0 a1 a2 wa0 wa1 wa2 W).mono fun e W' ⟨he, bel⟩ => ?_
  subst he
  exact ⟨_, rfl, _, _, _, [], _, [], hW', trodAll_mk1 (shut_bool Try.underlying4 _), (trodAll_cons_mk (Below.trod laidOut (by kernel_rfl) (of_decide_eq_true (by kernel_rfl)) k0 bel lt0) (trodAll_cons_mk (Below.trod laidOut (by kernel_rfl) (of_decide_eq_true (by kernel_rfl)) k1 bel lt1) (trodAll_cons_mk (Below.trod laidOut (by kernel_rfl) (of_decide_eq_true (by kernel_rfl)) k2 bel lt2) trodAll_mk0))), rfl, bel.frame _, fun h => by cases h⟩

theorem over : Rows.signRawRow.holds Try.pinned (OpenSpec.ofChange Rows.signRawSpec) :=
  OpenClaim.holds_of_wide 8 Try.f8 rfl rfl rfl rfl rfl rfl rfl ⟨rfl, rfl, rfl, rfl, rfl⟩ rfl rfl rfl rfl rfl (by kernel_rfl) Try.func8 (by kernel_rfl)
    (of_decide_eq_true (by kernel_rfl)) (by unfold Func.isWrapper; first | (rw [if_pos (by decide +kernel)]; kernel_rfl) | (rw [if_neg (by decide +kernel)]; exact ⟨rfl, rfl⟩))
    (fun os started H enc _ => lifted os started H enc)

end Go.Proofs.Ytinkhgmdeldniaa.signRaw
namespace Go.Proofs.Ytinkhgmdeldniaa
theorem signRaw_proved : Rows.SignRawSaid := signRaw.over
#print axioms signRaw_proved
end Go.Proofs.Ytinkhgmdeldniaa
