/- For every string, index and byte DigestOne returns true: a string in which one byte is another one has another digest. No conditions. -/
import Derived.Test.YtfikbcgadpbblaaDigOne2
import Derived.Test.YtfikbcgadpbblaaLast
import Derived.ChangeMaps5
namespace Go.Proofs.Ytfikbcgadpbblaa.digestOne
open Go.ChangeShapes Go.WideShapes Go.ChangeAt Go.RowKit Go.Joins Go.Deep Go.ChangeMaps
set_option linter.unusedVariables false

theorem bd16 {a : Int} (h : (Lit.int .u16 a).wf = true) : 0 ≤ a ∧ a ≤ 65535 := by
  have hmin : IntKind.u16.min = 0 := rfl
  have hmax : IntKind.u16.max = 65535 := rfl
  simp only [Lit.wf, Bool.and_eq_true, decide_eq_true_eq] at h; omega
set_option maxRecDepth 100000 in
set_option maxHeartbeats 8000000 in
theorem walk (a0 : ByteArray) (a1 : Int) (a2 : Int) (wa0 : a0.size ≤ maxLen) (wa1 : (Lit.int .u16 a1).wf = true) (wa2 : (Lit.int .u8 a2).wf = true) (w : World) :
    Calls Try.prog 7 #[.string a0, .int .u16 a1, .int .u8 a2] w fun e w' => e = .returned (.bool true) ∧ Below w.heap.size w w' := by
  obtain ⟨A, hA⟩ : ∃ A, DG.cut a0 = A := ⟨_, rfl⟩
  have sA : A.size ≤ 300 := by rw [← hA]; exact cut_size _
  have hAA : DG.cut A = A := by
    unfold DG.cut
    rw [Nat.min_eq_left sA, ByteArray.extract_zero_size]
  have CA := Lib.hid (fun W => cut_any a0 W wa0)
  rw [hA] at CA
  have sAm : A.size ≤ maxLen := by unfold maxLen; omega
  have CC := Lib.hid (fun W => cut_any A W sAm)
  rw [hAA] at CC
  obtain ⟨x, hx⟩ : ∃ x, DG.Of A = x := ⟨_, rfl⟩
  have hx8 : x.size = 8 := by rw [← hx]; rfl
  have O1 := Lib.hid (fun W => Of_any A W sAm)
  rw [hx] at O1
  have HX := Lib.hid hx
  have w1a := (bd16 wa1).1
  have w1b := (bd16 wa1).2
  have w2a := (bd8 wa2).1
  have w2b := (bd8 wa2).2
  clear hA hAA wa0 wa1 wa2 hx
  obtain ⟨n, hn⟩ : ∃ n, A.size = n := ⟨_, rfl⟩
  have HN := Lib.hid hn
  rw [hn] at sA
  have acc : Below w.heap.size w w := Below.refl _ _
  by_cases hn0 : n = 0
  · have HN0 := Lib.hid hn0
    rw [hn0] at hn
    clear hn0 HN sAm
    go_enter Try.func7, Try.ntmps7
    go_wp2_with fail
    refine (sane_any _).mono ?_
    rintro e w1 ⟨rfl, k1⟩
    replace acc := bnext acc k1
    clear k1
    go_wp2_with fail
    refine (CA.out _).mono ?_
    rintro e w2 ⟨rfl, k2⟩
    replace acc := bnext acc k2
    clear k2
    go_wp2_with fail
    refine (O1.out _).mono ?_
    rintro e w3 ⟨rfl, k3⟩
    replace acc := bnext acc k3
    clear k3
    go_wp2
    go_ret
    exact ⟨rfl, acc⟩
  · have hnp : 0 < n := by omega
    have hni : (0 : Int) < (n : Int) := by omega
    have hnn : ¬ (n : Int) = 0 := by omega
    obtain ⟨k, hk⟩ : ∃ k : Nat, a1 % (n : Int) = (k : Int) := ⟨(a1 % (n : Int)).toNat, by have := Int.emod_nonneg a1 hnn; omega⟩
    have hkn : k < n := by have := Int.emod_lt_of_pos a1 hni; omega
    have hkA : k < A.size := by rw [hn]; exact hkn
    obtain ⟨b, hb⟩ : ∃ b : UInt8, A[k] = b := ⟨_, rfl⟩
    obtain ⟨m, hm⟩ : ∃ m : Nat, max a2 1 = (m : Int) := ⟨(max a2 1).toNat, by omega⟩
    obtain ⟨hx1, hx2, hx3⟩ := xor8 b.toNat m b.toNat_lt (by omega) (by omega)
    obtain ⟨d, hd⟩ : ∃ d : UInt8, d.toNat = b.toNat ^^^ m := ⟨UInt8.ofNat (b.toNat ^^^ m), by have h9 : (UInt8.ofNat (b.toNat ^^^ m)).toNat = (b.toNat ^^^ m) % 256 := rfl; rw [h9]; exact Nat.mod_eq_of_lt hx2⟩
    have hbd : b ≠ d := fun h => hx3 (by rw [← hd, h])
    rw [← hd] at hx1
    have hne := of_ne hkA (show A[k] ≠ d by rw [hb]; exact hbd)
    have hto := slice_to A k (by omega)
    have hfrom := slice_from A (k + 1) (by omega)
    rw [show ((k + 1 : Nat) : Int) = (k : Int) + 1 by omega] at hfrom
    obtain ⟨P, hP⟩ : ∃ P, A.extract 0 k = P := ⟨_, rfl⟩
    obtain ⟨Q, hQ⟩ : ∃ Q, A.extract (k + 1) A.size = Q := ⟨_, rfl⟩
    have hps : P.size ≤ 300 := by rw [← hP, ByteArray.size_extract]; omega
    have hqs : Q.size ≤ 300 := by rw [← hQ, ByteArray.size_extract]; omega
    rw [hP, hQ] at hne
    rw [hP] at hto
    rw [hQ] at hfrom
    obtain ⟨D, hD⟩ : ∃ D, DG.S [d] = D := ⟨_, rfl⟩
    rw [hD] at hne
    have hds : D.size = 1 := by rw [← hD]; rfl
    have hcv := fun W => conv_lit W [d] 1 1 5 rfl
    rw [hD] at hcv
    simp only [List.map_cons, List.map_nil] at hcv
    obtain ⟨o, ho⟩ : ∃ o, P ++ (D ++ Q) = o := ⟨_, rfl⟩
    have hos : o.size ≤ 700 := by rw [← ho, ByteArray.size_append, ByteArray.size_append]; omega
    rw [ho, HX.out] at hne
    obtain ⟨y, hy⟩ : ∃ y, DG.Of o = y := ⟨_, rfl⟩
    have hy8 : y.size = 8 := by rw [← hy]; rfl
    have O2 := Lib.hid (fun W => Of_any o W (by unfold maxLen; omega))
    rw [hy] at O2 hne
    have hxy : (x.toList == y.toList) = false := by rw [str_ok]; simpa using hne
    have hxy2 : (x.toList != y.toList) = true := by rw [bne, hxy]; rfl
    clear hne hx2 hx3 hd hbd hP hQ hD hy
    have HTO := Lib.hid hto
    have HFR := Lib.hid hfrom
    have HCV := Lib.hid hcv
    have HO := Lib.hid ho
    have HX1 := Lib.hid hx1
    have HMX := Lib.hid hm
    have HB := Lib.hid hb
    have HXY := Lib.hid (⟨hxy, hxy2⟩ : (x.toList == y.toList) = false ∧ (x.toList != y.toList) = true)
    have HDS := Lib.hid hds
    clear hto hfrom hcv ho hx1 hm hxy hxy2 hn hb hds
    go_enter Try.func7, Try.ntmps7
    go_wp2_with fail
    refine (sane_any _).mono ?_
    rintro e w1 ⟨rfl, k1⟩
    replace acc := bnext acc k1
    clear k1
    go_wp2_with fail
    refine (CA.out _).mono ?_
    rintro e w2 ⟨rfl, k2⟩
    replace acc := bnext acc k2
    clear k2
    have hn := HN.out
    go_upto_region 6 with (fail)
    have hnz : ((n : Int) == 0) = false := by simpa using hnn
    simp only [hk, hnz]
    go_cut [9] from 28 to 44 (fun s9 wx => s9 = .string o ∧ Below w2.heap.size w2 wx)
    case first =>
      have hkA' : (k : Int) < (A.size : Int) := by omega
      have hk1 : IntKind.i64.wrap ((k : Int) + 1) = (k : Int) + 1 := by rw [IntKind.wrap_i64]; omega
      have hto := HTO.out
      have hfrom := HFR.out
      have hcv := HCV.out w2.drew
      replace hcv : Sem.run Try.prog (convert 40 9 (.slice (some ⟨w2.heap.size, 0, none⟩) 1 1)) ((w2.alloc (.cells #[.int .u8 (d.toNat : Int)] 5)).drew) = .ok (.string D) ((w2.alloc (.cells #[.int .u8 (d.toNat : Int)] 5)).drew) := hcv
      have hx1 := HX1.out
      have hm : (if a2 < 1 then 1 else a2) = (m : Int) := by have := HMX.out; split <;> omega
      have hb := HB.out
      have ho := HO.out
      have hds := HDS.out
      have hk0 : (0 : Int) ≤ (k : Int) := by omega
      have hkt : ((k : Int)).toNat = k := by omega
      have hi2 : (0 : Int) ≤ (k : Int) + 1 := by omega
      have hi3 : (k : Int) + 1 ≤ (A.size : Int) := by omega
      clear hnp hni hnn hn0 acc hx8 hy8 w1a w1b w2a w2b sA sAm
      go_region_with (fail)
      all_goals
       go_wp2
       go_meet
       case rel => exact ⟨congrArg Value.string (by rw [← HO.out, ByteArray.append_assoc]), by (repeat' (first | exact Below.refl _ _ | (with_reducible assumption) | (refine bnext ?_ (by with_reducible assumption)) | (refine balloc ?_ _) | (refine below_drewN ?_ _) | (refine Below.drew ?_)))⟩
    case rest =>
      obtain ⟨rfl, hbw⟩ := hcut
      obtain ⟨hxy, hxy2⟩ := HXY.out
      replace acc := bnext acc hbw
      clear hbw
      go_wp2_with fail
      refine (O1.out _).mono ?_
      rintro e w3 ⟨rfl, k3⟩
      replace acc := bnext acc k3
      clear k3
      go_wp2_with fail
      refine (O2.out _).mono ?_
      rintro e w4 ⟨rfl, k4⟩
      replace acc := bnext acc k4
      clear k4
      go_wp2_with fail
      refine (O2.out _).mono ?_
      rintro e w5 ⟨rfl, k5⟩
      replace acc := bnext acc k5
      clear k5
      go_wp2_with fail
      refine (O1.out _).mono ?_
      rintro e w6 ⟨rfl, k6⟩
      replace acc := bnext acc k6
      clear k6
      go_wp2_with fail
      refine (CC.out _).mono ?_
      rintro e w7 ⟨rfl, k7⟩
      replace acc := bnext acc k7
      clear k7
      go_wp2_with fail
      refine (O1.out _).mono ?_
      rintro e w8 ⟨rfl, k8⟩
      replace acc := bnext acc k8
      clear k8
      go_wp2
      go_ret
      exact ⟨rfl, acc⟩

set_option maxRecDepth 100000 in
theorem lifted (os : Os) (started : os.Started) (H : Type) (enc : TypeId × Value → H) :
    ReturnsInHanded {} Try.checked os 7 .any (Rows.digestOneSpec.pre6 enc Try.prog Try.f7 Rows.digestOneRow.domain false) (Rows.digestOneSpec.post enc Try.prog Try.f7 false true false false) := by
  refine returnsInHanded_of_change (C := Try.checked) own started (by kernel_rfl) Try.func7
    (ChangeSpec.witness6 (enc := enc) (C := Try.checked) false ⟨#[], #[.string ByteArray.empty, .int .u16 0, .int .u8 0], []⟩ 8 (by kernel_rfl) (by kernel_rfl) (by kernel_rfl) (by kernel_rfl)) ?_
  intro W base args ds gs before hval0 hW hcnd _
  have hval : ∀ (j : Nat) t v, Try.f7.params[j]? = some t → args[j]? = some v → Value.okWide Try.prog W .any base t v := hval0
  have hW' := hW
  obtain ⟨p, q, hA0, hV, rfl, hfz, hnd⟩ := hW
  have hA : DataW.TrodAll enc Try.prog W 0 (fun _ => true) true Try.f7.params.toList args.toList ds p := hA0
  rw [Try.params7] at hA hval
  obtain ⟨v0, vs0, d0, ds0, p0, q0, hargs, rfl, rfl, h0, r0⟩ := trodAll_cons hA
  obtain ⟨v1, vs1, d1, ds1, p1, q1, rfl, rfl, rfl, h1, r1⟩ := trodAll_cons r0
  obtain ⟨v2, vs2, d2, ds2, p2, q2, rfl, rfl, rfl, h2, r2⟩ := trodAll_cons r1
  obtain ⟨rfl, rfl, rfl⟩ := trodAll_nil r2
  obtain rfl : args = #[v0, v1, v2] := by cases args; simp_all
  obtain ⟨rfl, rfl⟩ := trodVars_none hV
  have k0 := h0
  have lt0 : ∀ x ∈ p0, x.block < W.heap.size := by obtain ⟨m, hm⟩ := k0; exact DataW.trod_lt m _ _ _ hm
  have k1 := h1
  have lt1 : ∀ x ∈ p1, x.block < W.heap.size := by obtain ⟨m, hm⟩ := k1; exact DataW.trod_lt m _ _ _ hm
  have k2 := h2
  have lt2 : ∀ x ∈ p2, x.block < W.heap.size := by obtain ⟨m, hm⟩ := k2; exact DataW.trod_lt m _ _ _ hm
  obtain ⟨a0, rfl, rfl, rfl, wa0⟩ := open_string Try.underlying9 (hval 0 9 v0 rfl rfl) h0
  obtain ⟨a1, rfl, rfl, rfl, wa1⟩ := open_int Try.underlying39 (hval 1 39 v1 rfl rfl) h1
  obtain ⟨a2, rfl, rfl, rfl, wa2⟩ := open_int Try.underlying5 (hval 2 5 v2 rfl rfl) h2
  clear hA0 hval0
  refine (walk a0 a1 a2 wa0 wa1 wa2 W).mono fun e W' ⟨he, bel⟩ => ?_
  subst he
  exact ⟨_, rfl, _, _, _, [], _, [], hW', trodAll_mk1 (shut_bool Try.underlying4 _), (trodAll_cons_mk (Below.trod laidOut (by kernel_rfl) (of_decide_eq_true (by kernel_rfl)) k0 bel lt0) (trodAll_cons_mk (Below.trod laidOut (by kernel_rfl) (of_decide_eq_true (by kernel_rfl)) k1 bel lt1) (trodAll_cons_mk (Below.trod laidOut (by kernel_rfl) (of_decide_eq_true (by kernel_rfl)) k2 bel lt2) trodAll_mk0))), rfl, bel.frame _, fun h => by cases h⟩

theorem over : Rows.digestOneRow.holds Try.pinned (OpenSpec.ofChange Rows.digestOneSpec) :=
  OpenClaim.holds_of_wide 7 Try.f7 rfl rfl rfl rfl rfl rfl rfl ⟨rfl, rfl, rfl, rfl, rfl⟩ rfl rfl rfl rfl rfl (by kernel_rfl) Try.func7 (by kernel_rfl)
    (of_decide_eq_true (by kernel_rfl)) (by unfold Func.isWrapper; first | (rw [if_pos (by decide +kernel)]; kernel_rfl) | (rw [if_neg (by decide +kernel)]; exact ⟨rfl, rfl⟩))
    (fun os started H enc _ => lifted os started H enc)

end Go.Proofs.Ytfikbcgadpbblaa.digestOne
namespace Go.Proofs.Ytfikbcgadpbblaa
theorem digestOne_proved : Rows.DigestOneSaid := digestOne.over
#print axioms digestOne_proved
end Go.Proofs.Ytfikbcgadpbblaa
