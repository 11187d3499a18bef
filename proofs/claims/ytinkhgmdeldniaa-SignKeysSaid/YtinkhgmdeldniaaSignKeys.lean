/- For every seed, message and numbers SignKeys returns true: a signature among more keys has the same links, and there is none for a key with the number of keys. No conditions. -/
import Derived.Test.YtinkhgmdeldniaaSgnLaw0
import Derived.ChangeMaps5
namespace Go.Proofs.Ytinkhgmdeldniaa.signKeys
open Go.ChangeShapes Go.WideShapes Go.ChangeAt Go.RowKit Go.Joins Go.Deep Go.ChangeMaps
set_option maxRecDepth 100000
set_option linter.unusedVariables false

set_option maxRecDepth 100000 in
set_option maxHeartbeats 4000000 in
theorem walk (a0 : ByteArray) (a1 : ByteArray) (a2 : Int) (b2 : Int) (wa0 : a0.size ≤ maxLen) (wa1 : a1.size ≤ maxLen) (wa2 : (Lit.int .u8 a2).wf = true) (wb2 : (Lit.int .u8 b2).wf = true) (w : World) :
    Calls Try.prog 9 #[.string a0, .string a1, .agg #[.int .u8 a2, .int .u8 b2]] w fun e w' => e = .returned (.bool true) ∧ Below w.heap.size w w' := by
  obtain ⟨N, I, hN1, hN5, hI, CSM⟩ := some_all a2 b2 wa2 wb2
  have HSM := Lib.hid CSM
  have C0 := Lib.hid (fun V => short_any a0 V wa0)
  have C1 := Lib.hid (fun V => short_any a1 V wa1)
  have z0 := cut_size a0
  have z1 := cut_size a1
  obtain ⟨x, hx⟩ : ∃ x, SG.cut a0 = x := ⟨_, rfl⟩
  obtain ⟨y, hy⟩ : ∃ y, SG.cut a1 = y := ⟨_, rfl⟩
  rw [hx] at C0 z0
  rw [hy] at C1 z1
  obtain ⟨L, hL⟩ : ∃ L, SG.lns x (I : Int) y 18 = L := ⟨_, rfl⟩
  have hLl : L.length = 18 := by rw [← hL, SG.lns_len]
  obtain ⟨s, a, b, S1, S2, S3, S4, S5, S6⟩ := SG.sign_reads x y (n := N) (i := I) ⟨hN1, by omega⟩ hI
  obtain ⟨s', a', b', T1, T2, T3, T4, T5, T6⟩ := SG.sign_reads x y (n := N + 1) (i := I) ⟨by omega, by omega⟩ (by omega)
  rw [hL] at S4 T4
  have D1 := Lib.hid (fun V => sign_c (s := x) (n := (N : Int)) (i := (I : Int)) (m := y) S1 (by omega) (by omega) V)
  have D2 := Lib.hid (fun V => sign_c (s := x) (n := ((N + 1 : Nat) : Int)) (i := (I : Int)) (m := y) T1 (by omega) (by omega) V)
  have D3 := Lib.hid (fun V => sign_c (SG.sign_bad (seed := x) (msg := y) (n := (N : Int)) (i := (N : Int)) (by omega)) (by omega) (by omega) V)
  have R1 := Lib.hid S3
  have R2 := Lib.hid S4
  have Q1 := Lib.hid T3
  have Q2 := Lib.hid T4
  have hs2 : s.length ≤ 140737488355328 := by omega
  have hs3 : s.length ≤ 8796093022000 := by omega
  have ht2 : s'.length ≤ 140737488355328 := by omega
  have ht3 : s'.length ≤ 8796093022000 := by omega
  have hv1 : ((L.map (fun x => x.data.toList)).map (fun s => Value.string (W.WP.S s))) = L.map Value.string := SG.sv_map L
  have hni : ((N + 1 : Nat) : Int) = (N : Int) + 1 := by omega
  rw [hni] at D2
  have acc : Below w.heap.size w w := Below.refl _ _
  clear hx hy CSM wa0 wa1 wa2 wb2 z0 z1 hL S1 S2 S3 S4 S5 S6 T1 T2 T3 T4 T5 T6 hni
  have hbox := box_two w a2 b2
  obtain ⟨W0, hW0⟩ : ∃ W0, w.alloc (.cells #[.int .u8 a2, .int .u8 b2] 34) = W0 := ⟨_, rfl⟩
  go_enter Try.func9, Try.ntmps9
  go_wp2_with fail
  rw [hW0] at hbox
  replace acc : Below w.heap.size w W0 := by rw [← hW0]; exact balloc acc _
  have HBX := Lib.hid hbox
  clear hbox hW0
  refine (sane_any _).mono ?_
  rintro e w1 ⟨rfl, k1⟩
  have hbx := HBX.out _ k1
  obtain ⟨hbx0, hbx1⟩ := hbx
  have hbx2 : ∀ V, Below w1.heap.size w1 V → V.cell? ⟨w.heap.size, 0, none⟩ = some (.int .u8 a2) ∧ V.cell? ⟨w.heap.size, 1, none⟩ = some (.int .u8 b2) := fun V hV => HBX.out V (bnext k1 hV)
  replace acc := bnext acc k1
  clear k1 HBX
  go_wp2_with fail
  refine (HSM.out _).mono ?_
  rintro e w2 ⟨rfl, k2⟩
  replace acc := bnext acc k2
  clear k2
  go_wp2_with fail
  refine (C0.out _).mono ?_
  rintro e w3 ⟨rfl, k3⟩
  replace acc := bnext acc k3
  clear k3
  go_wp2_with fail
  refine (C1.out _).mono ?_
  rintro e w4 ⟨rfl, k4⟩
  replace acc := bnext acc k4
  clear k4
  go_wp2_with fail
  refine (D1.out _).mono ?_
  rintro e w5 ⟨rfl, k5⟩
  replace acc := bnext acc k5
  clear k5
  go_wp2_with fail
  refine (C0.out _).mono ?_
  rintro e w6 ⟨rfl, k6⟩
  replace acc := bnext acc k6
  clear k6
  go_wp2_with fail
  refine (C1.out _).mono ?_
  rintro e w7 ⟨rfl, k7⟩
  replace acc := bnext acc k7
  clear k7
  go_wp2_with fail
  refine (D2.out _).mono ?_
  rintro e w8 ⟨rfl, k8⟩
  replace acc := bnext acc k8
  clear k8
  go_wp2_with fail
  refine (W.new_any s _ hs2).mono ?_
  rintro e w9 ⟨rfl, q9, k9⟩
  have hB : w.heap.size ≤ w8.heap.size := acc.size
  obtain ⟨B, hBB⟩ : ∃ B, w8.heap.size = B := ⟨_, rfl⟩
  replace acc := bnext acc k9
  rw [hBB] at q9 hB ⊢
  clear k9 hBB
  go_wp2_with fail
  refine (W.new_any s' _ ht2).mono ?_
  rintro e w10 ⟨rfl, q10, k10⟩
  have hC : w.heap.size ≤ w9.heap.size := acc.size
  have hBC : B < w9.heap.size := q9.lt
  obtain ⟨C, hCC⟩ : ∃ C, w9.heap.size = C := ⟨_, rfl⟩
  replace acc := bnext acc k10
  replace q9 := q9.keep k10
  rw [hCC] at q10 hC hBC ⊢
  clear k10 hCC
  have hne : B ≠ C := by omega
  have hne' : C ≠ B := by omega
  have q9 := Lib.hid q9
  have q10 := Lib.hid q10
  go_wp2_with fail
  refine (W.read_c _ _ _ _ _ q9.out R1.out).mono ?_
  rintro e w11 ⟨rfl, q11, k11⟩
  replace acc := acc.trans (k11.below hB acc.size)
  replace q10 := Lib.hid (q10.out.other' k11 hne')
  have q11 := Lib.hid q11
  clear k11 q9
  go_wp2_with fail
  refine (W.read_c _ _ _ _ _ q10.out Q1.out).mono ?_
  rintro e w12 ⟨rfl, q12, k12⟩
  replace acc := acc.trans (k12.below hC acc.size)
  replace q11 := Lib.hid (q11.out.other' k12 hne)
  have q12 := Lib.hid q12
  clear k12 q10
  have hCw0 := q12.out.lt
  go_wp2_with fail
  refine (W.texts_c _ _ _ _ _ q11.out hs3 R2.out).mono ?_
  rintro e w13 ⟨v13, rfl, o13, q13, k13⟩
  replace acc := acc.trans (k13.below hB acc.size)
  replace q12 := Lib.hid (q12.out.other' k13 hne')
  have hCw := q12.out.lt
  obtain ⟨la, lc, rfl⟩ := own_shape o13
  rw [hv1, List.length_map, hLl] at o13
  rw [List.length_map, hLl]
  clear k13
  go_wp2_with fail
  refine (W.texts_c _ _ _ _ _ q12.out ht3 Q2.out).mono ?_
  rintro e w14 ⟨v14, rfl, o14, q14, k14⟩
  replace acc := acc.trans (k14.below hC acc.size)
  obtain ⟨la2, lc2, rfl⟩ := own_shape o14
  have O13 := W.own_kept o13 hCw0 k14
  rw [hv1, List.length_map, hLl] at o14
  rw [List.length_map, hLl]
  have P1 := row_own O13 (by rw [List.length_map, hLl])
  have P2 := row_own o14 (by rw [List.length_map, hLl])
  have HP1 := Lib.hid P1
  have HP2 := Lib.hid P2
  have ACC := Lib.hid acc
  obtain ⟨g, o, rfl, hu1, hu2⟩ := P1.cell (k := 0) (by rw [List.length_map, hLl]; omega)
  obtain ⟨g2, o2, rfl, hu3, hu4⟩ := P2.cell (k := 0) (by rw [List.length_map, hLl]; omega)
  have HLL := Lib.hid hLl
  clear hu1 hu2 hu3 hu4
  clear P1 P2 O13 o13 o14 q13 q14 k14 acc q11 q12 hLl hv1
  go_wp2_with fail
  go_loopw [18] (fun v wr => ∃ c : Nat, v = .int .i64 (c : Int) ∧ c ≤ 18 ∧ Below w14.heap.size w14 wr) (fun v _ => 18 - (intOf v).toNat)
  case atStart => exact ⟨0, rfl, by omega, Below.refl _ _⟩
  case round =>
    obtain ⟨c, rfl, hc, hb⟩ := hrel
    have HB := Lib.hid hb
    by_cases hc18 : c < 18
    · have hci : (c : Int) < 18 := by omega
      have hc0 : (0 : Int) ≤ (c : Int) := by omega
      obtain ⟨g1, o1, e1, _, d1⟩ := (HP1.out.keep hb).cell (k := c) (by rw [List.length_map, HLL.out]; exact hc18)
      injection e1 with e1
      injection e1 with e1 e2
      subst e1 e2
      obtain ⟨g1, o1, e1, _, d2⟩ := (HP2.out.keep hb).cell (k := c) (by rw [List.length_map, HLL.out]; exact hc18)
      injection e1 with e1
      injection e1 with e1 e2
      subst e1 e2
      rw [List.getElem_map] at d1 d2
      obtain ⟨z, hz⟩ : ∃ z, L[c]'(by rw [HLL.out]; exact hc18) = z := ⟨_, rfl⟩
      rw [hz] at d1 d2
      have hzz : (z.toList == z.toList) = true := by rw [str_ok]; simp
      clear hz hb
      go_wp2
      go_quiet (fail)
      go_wp2
      go_roundw
      case rel => exact ⟨c + 1, by go_num, hc18, by first | exact HB.out | exact below_drewN HB.out _⟩
      case measure => simp [intOf]; omega
    · obtain rfl : c = 18 := by omega
      have acc := bnext ACC.out hb
      clear hb
      go_wp2_with fail
      refine (C0.out _).mono ?_
      rintro e w15 ⟨rfl, k15⟩
      replace acc := bnext acc k15
      clear k15
      go_wp2_with fail
      refine (C1.out _).mono ?_
      rintro e w16 ⟨rfl, k16⟩
      replace acc := bnext acc k16
      clear k16
      go_wp2_with fail
      refine (D3.out _).mono ?_
      rintro e w17 ⟨rfl, k17⟩
      replace acc := bnext acc k17
      clear k17
      go_wp2
      go_ret
      exact ⟨rfl, acc⟩

set_option maxRecDepth 100000 in
theorem lifted (os : Os) (started : os.Started) (H : Type) (enc : TypeId × Value → H) :
    ReturnsInHanded {} Try.checked os 9 .any (Rows.signKeysSpec.pre6 enc Try.prog Try.f9 Rows.signKeysRow.domain false) (Rows.signKeysSpec.post enc Try.prog Try.f9 false true false false) := by
  refine returnsInHanded_of_change (C := Try.checked) own started (by kernel_rfl) Try.func9
    (ChangeSpec.witness6 (enc := enc) (C := Try.checked) false ⟨#[], #[.string ByteArray.empty, .string ByteArray.empty, .agg #[.int .u8 0, .int .u8 0]], []⟩ 8 (by kernel_rfl) (by kernel_rfl) (by kernel_rfl) (by kernel_rfl)) ?_
  intro W base args ds gs before hval0 hW hcnd _
  have hval : ∀ (j : Nat) t v, Try.f9.params[j]? = some t → args[j]? = some v → Value.okWide Try.prog W .any base t v := hval0
  have hW' := hW
  obtain ⟨p, q, hA0, hV, rfl, hfz, hnd⟩ := hW
  have hA : DataW.TrodAll enc Try.prog W 0 (fun _ => true) true Try.f9.params.toList args.toList ds p := hA0
  rw [Try.params9] at hA hval
  obtain ⟨v0, vs0, d0, ds0, p0, q0, hargs, rfl, rfl, h0, r0⟩ := trodAll_cons hA
  obtain ⟨v1, vs1, d1, ds1, p1, q1, rfl, rfl, rfl, h1, r1⟩ := trodAll_cons r0
  obtain ⟨v2, vs2, d2, ds2, p2, q2, rfl, rfl, rfl, h2, r2⟩ := trodAll_cons r1
  obtain ⟨rfl, rfl, rfl⟩ := trodAll_nil r2
  obtain rfl : args = #[v0, v1, v2] := by cases args; simp_all
  obtain ⟨rfl, rfl⟩ := trodVars_none hV
  have k0 := h0
  have lt0 : ∀ x ∈ p0, x.block < W.heap.size := by obtain ⟨m, hm⟩ := k0; exact DataW.trod_lt m _ _ _ hm
  have k1 := h1
  have lt1 : ∀ x ∈ p1, x.block < W.heap.size := by obtain ⟨m, hm⟩ := k1; exact DataW.trod_lt m _ _ _ hm
  have k2 := h2
  have lt2 : ∀ x ∈ p2, x.block < W.heap.size := by obtain ⟨m, hm⟩ := k2; exact DataW.trod_lt m _ _ _ hm
  obtain ⟨a0, rfl, rfl, rfl, wa0⟩ := open_string Try.underlying9 (hval 0 9 v0 rfl rfl) h0
  obtain ⟨a1, rfl, rfl, rfl, wa1⟩ := open_string Try.underlying9 (hval 1 9 v1 rfl rfl) h1
  obtain ⟨a2, b2, rfl, wa2, wb2⟩ := open_arr2 Try.underlying34 Try.underlying5 (by kernel_rfl) (by kernel_rfl) (hval 2 34 v2 rfl rfl) h2
  clear hA0 hval0
  refine (walk a0 a1 a2 b2 wa0 wa1 wa2 wb2 W).mono fun e W' ⟨he, bel⟩ => ?_
  subst he
  exact ⟨_, rfl, _, _, _, [], _, [], hW', trodAll_mk1 (shut_bool Try.underlying4 _), (trodAll_cons_mk (Below.trod laidOut (by kernel_rfl) (of_decide_eq_true (by kernel_rfl)) k0 bel lt0) (trodAll_cons_mk (Below.trod laidOut (by kernel_rfl) (of_decide_eq_true (by kernel_rfl)) k1 bel lt1) (trodAll_cons_mk (Below.trod laidOut (by kernel_rfl) (of_decide_eq_true (by kernel_rfl)) k2 bel lt2) trodAll_mk0))), rfl, bel.frame _, fun h => by cases h⟩

theorem over : Rows.signKeysRow.holds Try.pinned (OpenSpec.ofChange Rows.signKeysSpec) :=
  OpenClaim.holds_of_wide 9 Try.f9 rfl rfl rfl rfl rfl rfl rfl ⟨rfl, rfl, rfl, rfl, rfl⟩ rfl rfl rfl rfl rfl (by kernel_rfl) Try.func9 (by kernel_rfl)
    (of_decide_eq_true (by kernel_rfl)) (by unfold Func.isWrapper; first | (rw [if_pos (by decide +kernel)]; kernel_rfl) | (rw [if_neg (by decide +kernel)]; exact ⟨rfl, rfl⟩))
    (fun os started H enc _ => lifted os started H enc)

end Go.Proofs.Ytinkhgmdeldniaa.signKeys
namespace Go.Proofs.Ytinkhgmdeldniaa
theorem signKeys_proved : Rows.SignKeysSaid := signKeys.over
#print axioms signKeys_proved
end Go.Proofs.Ytinkhgmdeldniaa
