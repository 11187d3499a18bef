/- For every two strings DigestBytes returns true: digests and nodes are those of the reference. No conditions. -/
import Derived.Test.YtfikbcgadpbblaaDigSane
import Derived.Test.YtfikbcgadpbblaaDigCut
import Derived.ChangeMaps5
namespace Go.Proofs.Ytfikbcgadpbblaa.digestBytes
open Go.ChangeShapes Go.WideShapes Go.ChangeAt Go.RowKit Go.Joins Go.Deep Go.ChangeMaps
set_option linter.unusedVariables false

set_option maxRecDepth 100000 in
set_option maxHeartbeats 4000000 in
theorem walk (a0 : ByteArray) (a1 : ByteArray) (wa0 : a0.size ≤ maxLen) (wa1 : a1.size ≤ maxLen) (w : World) :
    Calls Try.prog 3 #[.string a0, .string a1] w fun e w' => e = .returned (.bool true) ∧ Below w.heap.size w w' := by
  obtain ⟨A, hA⟩ : ∃ A, DG.cut a0 = A := ⟨_, rfl⟩
  obtain ⟨B, hB⟩ : ∃ B, DG.cut a1 = B := ⟨_, rfl⟩
  have sA : A.size ≤ 300 := by rw [← hA]; exact cut_size _
  have sB : B.size ≤ 300 := by rw [← hB]; exact cut_size _
  have CA := Lib.hid (fun W => cut_any a0 W wa0)
  have CB := Lib.hid (fun W => cut_any a1 W wa1)
  rw [hA] at CA
  rw [hB] at CB
  clear hA hB wa0 wa1
  have sA4 : A.size < 4294967296 := by omega
  have sB4 : B.size < 4294967296 := by omega
  have sA3 : A.size < 2147483648 := by omega
  have sB3 : B.size < 2147483648 := by omega
  have sAm : A.size ≤ maxLen := by unfold maxLen; omega
  have sBm : B.size ≤ maxLen := by unfold maxLen; omega
  obtain ⟨x, hx⟩ : ∃ x, DG.Of A = x := ⟨_, rfl⟩
  obtain ⟨y, hy⟩ : ∃ y, DG.Of B = y := ⟨_, rfl⟩
  obtain ⟨p, hp⟩ : ∃ p, DG.Pair A B = p := ⟨_, rfl⟩
  obtain ⟨r, hr⟩ : ∃ r, DG.Pair B A = r := ⟨_, rfl⟩
  have O1 := Lib.hid (fun W => Of_any A W sAm)
  have O2 := Lib.hid (fun W => Of_any B W sBm)
  have R1 := Lib.hid (fun W => rOf_any A W sAm)
  have R2 := Lib.hid (fun W => rOf_any B W sBm)
  have P1 := Lib.hid (fun W => Pair_any A B W sA4 sBm)
  have P2 := Lib.hid (fun W => Pair_any B A W sB4 sAm)
  have Q1 := Lib.hid (fun W => rPair_any A B W sA3 sB3)
  have Q2 := Lib.hid (fun W => rPair_any B A W sB3 sA3)
  rw [hx] at O1 R1
  rw [hy] at O2 R2
  rw [hp] at P1 Q1
  rw [hr] at P2 Q2
  clear hx hy hp hr sA sB sA4 sB4 sA3 sB3 sAm sBm
  have acc : Below w.heap.size w w := Below.refl _ _
  go_enter Try.func3, Try.ntmps3
  go_wp2_with fail
  refine (sane_any _).mono ?_
  rintro e w1 ⟨rfl, k1⟩
  replace acc := bnext acc k1
  clear k1
  go_wp2_with fail
  refine (CA.out _).mono ?_
  rintro e w2 ⟨rfl, k2⟩
  replace acc := bnext acc k2
  clear k2
  go_wp2_with fail
  refine (CB.out _).mono ?_
  rintro e w3 ⟨rfl, k3⟩
  replace acc := bnext acc k3
  clear k3
  go_wp2_with fail
  refine (O1.out _).mono ?_
  rintro e w4 ⟨rfl, k4⟩
  replace acc := bnext acc k4
  clear k4
  go_wp2_with fail
  refine (R1.out _).mono ?_
  rintro e w5 ⟨rfl, k5⟩
  replace acc := bnext acc k5
  clear k5
  go_wp2_with fail
  refine (O2.out _).mono ?_
  rintro e w6 ⟨rfl, k6⟩
  replace acc := bnext acc k6
  clear k6
  go_wp2_with fail
  refine (R2.out _).mono ?_
  rintro e w7 ⟨rfl, k7⟩
  replace acc := bnext acc k7
  clear k7
  go_wp2_with fail
  refine (P1.out _).mono ?_
  rintro e w8 ⟨rfl, k8⟩
  replace acc := bnext acc k8
  clear k8
  go_wp2_with fail
  refine (Q1.out _).mono ?_
  rintro e w9 ⟨rfl, k9⟩
  replace acc := bnext acc k9
  clear k9
  go_wp2_with fail
  refine (P2.out _).mono ?_
  rintro e w10 ⟨rfl, k10⟩
  replace acc := bnext acc k10
  clear k10
  go_wp2_with fail
  refine (Q2.out _).mono ?_
  rintro e w11 ⟨rfl, k11⟩
  replace acc := bnext acc k11
  clear k11
  go_wp2
  go_ret
  exact ⟨rfl, acc⟩

set_option maxRecDepth 100000 in
theorem lifted (os : Os) (started : os.Started) (H : Type) (enc : TypeId × Value → H) :
    ReturnsInHanded {} Try.checked os 3 .any (Rows.digestBytesSpec.pre6 enc Try.prog Try.f3 Rows.digestBytesRow.domain false) (Rows.digestBytesSpec.post enc Try.prog Try.f3 false true false false) := by
  refine returnsInHanded_of_change (C := Try.checked) own started (by kernel_rfl) Try.func3
    (ChangeSpec.witness6 (enc := enc) (C := Try.checked) false ⟨#[], #[.string ByteArray.empty, .string ByteArray.empty], []⟩ 8 (by kernel_rfl) (by kernel_rfl) (by kernel_rfl) (by kernel_rfl)) ?_
  intro W base args ds gs before hval0 hW hcnd _
  have hval : ∀ (j : Nat) t v, Try.f3.params[j]? = some t → args[j]? = some v → Value.okWide Try.prog W .any base t v := hval0
  have hW' := hW
  obtain ⟨p, q, hA0, hV, rfl, hfz, hnd⟩ := hW
  have hA : DataW.TrodAll enc Try.prog W 0 (fun _ => true) true Try.f3.params.toList args.toList ds p := hA0
  rw [Try.params3] at hA hval
  obtain ⟨v0, vs0, d0, ds0, p0, q0, hargs, rfl, rfl, h0, r0⟩ := trodAll_cons hA
  obtain ⟨v1, vs1, d1, ds1, p1, q1, rfl, rfl, rfl, h1, r1⟩ := trodAll_cons r0
  obtain ⟨rfl, rfl, rfl⟩ := trodAll_nil r1
  obtain rfl : args = #[v0, v1] := by cases args; simp_all
  obtain ⟨rfl, rfl⟩ := trodVars_none hV
  have k0 := h0
  have lt0 : ∀ x ∈ p0, x.block < W.heap.size := by obtain ⟨m, hm⟩ := k0; exact DataW.trod_lt m _ _ _ hm
  have k1 := h1
  have lt1 : ∀ x ∈ p1, x.block < W.heap.size := by obtain ⟨m, hm⟩ := k1; exact DataW.trod_lt m _ _ _ hm
  obtain ⟨a0, rfl, rfl, rfl, wa0⟩ := open_string Try.underlying9 (hval 0 9 v0 rfl rfl) h0
  obtain ⟨a1, rfl, rfl, rfl, wa1⟩ := open_string Try.underlying9 (hval 1 9 v1 rfl rfl) h1
  clear hA0 hval0
  refine (walk a0 a1 wa0 wa1 W).mono fun e W' ⟨he, bel⟩ => ?_
  subst he
  exact ⟨_, rfl, _, _, _, [], _, [], hW', trodAll_mk1 (shut_bool Try.underlying4 _), (trodAll_cons_mk (Below.trod laidOut (by kernel_rfl) (of_decide_eq_true (by kernel_rfl)) k0 bel lt0) (trodAll_cons_mk (Below.trod laidOut (by kernel_rfl) (of_decide_eq_true (by kernel_rfl)) k1 bel lt1) trodAll_mk0)), rfl, bel.frame _, fun h => by cases h⟩

theorem over : Rows.digestBytesRow.holds Try.pinned (OpenSpec.ofChange Rows.digestBytesSpec) :=
  OpenClaim.holds_of_wide 3 Try.f3 rfl rfl rfl rfl rfl rfl rfl ⟨rfl, rfl, rfl, rfl, rfl⟩ rfl rfl rfl rfl rfl (by kernel_rfl) Try.func3 (by kernel_rfl)
    (of_decide_eq_true (by kernel_rfl)) (by unfold Func.isWrapper; first | (rw [if_pos (by decide +kernel)]; kernel_rfl) | (rw [if_neg (by decide +kernel)]; exact ⟨rfl, rfl⟩))
    (fun os started H enc _ => lifted os started H enc)

end Go.Proofs.Ytfikbcgadpbblaa.digestBytes
namespace Go.Proofs.Ytfikbcgadpbblaa
theorem digestBytes_proved : Rows.DigestBytesSaid := digestBytes.over
#print axioms digestBytes_proved
end Go.Proofs.Ytfikbcgadpbblaa
