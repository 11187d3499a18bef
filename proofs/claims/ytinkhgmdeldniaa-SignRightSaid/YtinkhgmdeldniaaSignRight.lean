/- For every seed, message and numbers SignRight returns true: what is signed is accepted. No conditions. -/
import Derived.Test.YtinkhgmdeldniaaSgnLaw0
import Derived.ChangeMaps5
namespace Go.Proofs.Ytinkhgmdeldniaa.signRight
open Go.ChangeShapes Go.WideShapes Go.ChangeAt Go.RowKit Go.Joins Go.Deep Go.ChangeMaps
set_option maxRecDepth 100000
set_option linter.unusedVariables false

set_option maxRecDepth 100000 in
set_option maxHeartbeats 4000000 in
theorem walk (a0 : ByteArray) (a1 : ByteArray) (a2 : Int) (b2 : Int) (wa0 : a0.size ≤ maxLen) (wa1 : a1.size ≤ maxLen) (wa2 : (Lit.int .u8 a2).wf = true) (wb2 : (Lit.int .u8 b2).wf = true) (w : World) :
    Calls Try.prog 5 #[.string a0, .string a1, .agg #[.int .u8 a2, .int .u8 b2]] w fun e w' => e = .returned (.bool true) ∧ Below w.heap.size w w' := by
  obtain ⟨N, I, hN1, hN5, hI, CSM⟩ : ∃ n i : Nat, 1 ≤ n ∧ n ≤ 5 ∧ i < n ∧ ∀ V, Calls Try.prog 17 #[.int .u8 a2, .int .u8 b2] V fun e w' => e = .returned (.tuple #[.int .i64 (n : Int), .int .i64 (i : Int)]) ∧ Below V.heap.size V w' := some_all a2 b2 wa2 wb2
  have HSM := Lib.hid CSM
  have C0 := Lib.hid (fun V => short_any a0 V wa0)
  have C1 := Lib.hid (fun V => short_any a1 V wa1)
  have z0 := cut_size a0
  have z1 := cut_size a1
  obtain ⟨x, hx⟩ : ∃ x, SG.cut a0 = x := ⟨_, rfl⟩
  obtain ⟨y, hy⟩ : ∃ y, SG.cut a1 = y := ⟨_, rfl⟩
  rw [hx] at C0 z0
  rw [hy] at C1 z1
  obtain ⟨P, hP⟩ : ∃ P, (SG.pub x (N : Int)).1 = P := ⟨_, rfl⟩
  obtain ⟨S, hS⟩ : ∃ S, (SG.sign x (N : Int) (I : Int) y).1 = S := ⟨_, rfl⟩
  have hpz : P.size ≤ 1000000 := by rw [← hP, SG.pub_good ⟨hN1, by omega⟩]; show (DG.root _ _).size ≤ _; rw [DG.root_size]; omega
  have hsz : S.size ≤ 1000000 := by rw [← hS]; exact SG.sign_size x y ⟨hN1, by omega⟩ hI
  have D1 := Lib.hid (fun V => pub_c (s := x) (n := (N : Int)) (z := P) (k := 0) (by rw [← hP, SG.pub_good ⟨hN1, by omega⟩]) (by omega) (by omega) V)
  have D2 := Lib.hid (fun V => sign_c (s := x) (n := (N : Int)) (i := (I : Int)) (m := y) (z := S) (k := 0) (by rw [← hS, SG.sign_good ⟨hN1, by omega⟩ hI]) (by omega) (by omega) V)
  have D3 := Lib.hid (fun V => check_c (p := P) (m := y) (s := S) (r := true) (by rw [← hP, ← hS]; exact SG.check_right x y ⟨hN1, by omega⟩ hI) hpz (by omega) hsz V)
  have acc : Below w.heap.size w w := Below.refl _ _
  clear hx hy hP hS CSM wa0 wa1 wa2 wb2 z0 z1 hpz hsz
  have hbox := box_two w a2 b2
  obtain ⟨W0, hW0⟩ : ∃ W0, w.alloc (.cells #[.int .u8 a2, .int .u8 b2] 34) = W0 := ⟨_, rfl⟩
  go_enter Try.func5, Try.ntmps5
  go_wp2_with fail
  rw [hW0] at hbox
  replace acc : Below w.heap.size w W0 := by rw [← hW0]; exact balloc acc _
  have HBX := Lib.hid hbox
  clear hbox hW0
  refine (sane_any _).mono ?_
  rintro e w1 ⟨rfl, k1⟩
  have hbx := HBX.out _ k1
  obtain ⟨hbx0, hbx1⟩ := hbx
  have hbx2 : ∀ V, Below w1.heap.size w1 V → V.cell? ⟨w.heap.size, 0, none⟩ = some (.int .u8 a2) ∧ V.cell? ⟨w.heap.size, 1, none⟩ = some (.int .u8 b2) := fun V hV => HBX.out V (bnext k1 hV)
  replace acc := bnext acc k1
  clear k1 HBX
  go_wp2_with fail
  refine (HSM.out _).mono ?_
  rintro e w2 ⟨rfl, k2⟩
  replace acc := bnext acc k2
  clear k2
  go_wp2_with fail
  refine (C0.out _).mono ?_
  rintro e w3 ⟨rfl, k3⟩
  replace acc := bnext acc k3
  clear k3
  go_wp2_with fail
  refine (D1.out _).mono ?_
  rintro e w4 ⟨rfl, k4⟩
  replace acc := bnext acc k4
  clear k4
  go_wp2_with fail
  refine (C0.out _).mono ?_
  rintro e w5 ⟨rfl, k5⟩
  replace acc := bnext acc k5
  clear k5
  go_wp2_with fail
  refine (C1.out _).mono ?_
  rintro e w6 ⟨rfl, k6⟩
  replace acc := bnext acc k6
  clear k6
  go_wp2_with fail
  refine (D2.out _).mono ?_
  rintro e w7 ⟨rfl, k7⟩
  replace acc := bnext acc k7
  clear k7
  go_wp2_with fail
  refine (C1.out _).mono ?_
  rintro e w8 ⟨rfl, k8⟩
  replace acc := bnext acc k8
  clear k8
  go_wp2_with fail
  refine (D3.out _).mono ?_
  rintro e w9 ⟨rfl, k9⟩
  replace acc := bnext acc k9
  clear k9
  go_wp2
  go_ret
  exact ⟨rfl, acc⟩

set_option maxRecDepth 100000 in
theorem lifted (os : Os) (started : os.Started) (H : Type) (enc : TypeId × Value → H) :
    ReturnsInHanded {} Try.checked os 5 .any (Rows.signRightSpec.pre6 enc Try.prog Try.f5 Rows.signRightRow.domain false) (Rows.signRightSpec.post enc Try.prog Try.f5 false true false false) := by
  refine returnsInHanded_of_change (C := Try.checked) own started (by kernel_rfl) Try.func5
    (ChangeSpec.witness6 (enc := enc) (C := Try.checked) false ⟨#[], #[.string ByteArray.empty, .string ByteArray.empty, .agg #[.int .u8 0, .int .u8 0]], []⟩ 8 (by kernel_rfl) (by kernel_rfl) (by kernel_rfl) (by kernel_rfl)) ?_
  intro W base args ds gs before hval0 hW hcnd _
  have hval : ∀ (j : Nat) t v, Try.f5.params[j]? = some t → args[j]? = some v → Value.okWide Try.prog W .any base t v := hval0
  have hW' := hW
  obtain ⟨p, q, hA0, hV, rfl, hfz, hnd⟩ := hW
  have hA : DataW.TrodAll enc Try.prog W 0 (fun _ => true) true Try.f5.params.toList args.toList ds p := hA0
  rw [Try.params5] at hA hval
  obtain ⟨v0, vs0, d0, ds0, p0, q0, hargs, rfl, rfl, h0, r0⟩ := trodAll_cons hA
  obtain ⟨v1, vs1, d1, ds1, p1, q1, rfl, rfl, rfl, h1, r1⟩ := trodAll_cons r0
  obtain ⟨v2, vs2, d2, ds2, p2, q2, rfl, rfl, rfl, h2, r2⟩ := trodAll_cons r1
  obtain ⟨rfl, rfl, rfl⟩ := trodAll_nil r2
  obtain rfl : args = #[v0, v1, v2] := by cases args; simp_all
  obtain ⟨rfl, rfl⟩ := trodVars_none hV
  have k0 := h0
  have lt0 : ∀ x ∈ p0, x.block < W.heap.size := by obtain ⟨m, hm⟩ := k0; exact DataW.trod_lt m _ _ _ hm
  have k1 := h1
  have lt1 : ∀ x ∈ p1, x.block < W.heap.size := by obtain ⟨m, hm⟩ := k1; exact DataW.trod_lt m _ _ _ hm
  have k2 := h2
  have lt2 : ∀ x ∈ p2, x.block < W.heap.size := by obtain ⟨m, hm⟩ := k2; exact DataW.trod_lt m _ _ _ hm
  obtain ⟨a0, rfl, rfl, rfl, wa0⟩ := open_string Try.underlying9 (hval 0 9 v0 rfl rfl) h0
  obtain ⟨a1, rfl, rfl, rfl, wa1⟩ := open_string Try.underlying9 (hval 1 9 v1 rfl rfl) h1
  obtain ⟨a2, b2, rfl, wa2, wb2⟩ := open_arr2 Try.underlying34 Try.underlying5 (by kernel_rfl) (by kernel_rfl) (hval 2 34 v2 rfl rfl) h2
  clear hA0 hval0
  refine (walk a0 a1 a2 b2 wa0 wa1 wa2 wb2 W).mono fun e W' ⟨he, bel⟩ => ?_
  subst he
  exact ⟨_, rfl, _, _, _, [], _, [], hW', trodAll_mk1 (shut_bool Try.underlying4 _), (trodAll_cons_mk (Below.trod laidOut (by kernel_rfl) (of_decide_eq_true (by kernel_rfl)) k0 bel lt0) (trodAll_cons_mk (Below.trod laidOut (by kernel_rfl) (of_decide_eq_true (by kernel_rfl)) k1 bel lt1) (trodAll_cons_mk (Below.trod laidOut (by kernel_rfl) (of_decide_eq_true (by kernel_rfl)) k2 bel lt2) trodAll_mk0))), rfl, bel.frame _, fun h => by cases h⟩

theorem over : Rows.signRightRow.holds Try.pinned (OpenSpec.ofChange Rows.signRightSpec) :=
  OpenClaim.holds_of_wide 5 Try.f5 rfl rfl rfl rfl rfl rfl rfl ⟨rfl, rfl, rfl, rfl, rfl⟩ rfl rfl rfl rfl rfl (by kernel_rfl) Try.func5 (by kernel_rfl)
    (of_decide_eq_true (by kernel_rfl)) (by unfold Func.isWrapper; first | (rw [if_pos (by decide +kernel)]; kernel_rfl) | (rw [if_neg (by decide +kernel)]; exact ⟨rfl, rfl⟩))
    (fun os started H enc _ => lifted os started H enc)

end Go.Proofs.Ytinkhgmdeldniaa.signRight
namespace Go.Proofs.Ytinkhgmdeldniaa
theorem signRight_proved : Rows.SignRightSaid := signRight.over
#print axioms signRight_proved
end Go.Proofs.Ytinkhgmdeldniaa
