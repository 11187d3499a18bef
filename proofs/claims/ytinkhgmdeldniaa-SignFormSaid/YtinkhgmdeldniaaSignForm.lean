/- For every seed, message and numbers SignForm returns true: what a signature is made of. No conditions. -/
import Derived.Test.YtinkhgmdeldniaaSgnLaw0
import Derived.ChangeMaps5
import Derived.Test.YtinkhgmdeldniaaLater
namespace Go.Proofs.Ytinkhgmdeldniaa.signForm
open Go.ChangeShapes Go.WideShapes Go.ChangeAt Go.RowKit Go.Joins Go.Deep Go.ChangeMaps
set_option maxRecDepth 100000
set_option linter.unusedVariables false

set_option maxRecDepth 100000 in
set_option maxHeartbeats 4000000 in
theorem walk (a0 : ByteArray) (a1 : ByteArray) (a2 : Int) (b2 : Int) (wa0 : a0.size ≤ maxLen) (wa1 : a1.size ≤ maxLen) (wa2 : (Lit.int .u8 a2).wf = true) (wb2 : (Lit.int .u8 b2).wf = true) (w : World) :
    Calls Try.prog 6 #[.string a0, .string a1, .agg #[.int .u8 a2, .int .u8 b2]] w fun e w' => e = .returned (.bool true) ∧ Below w.heap.size w w' := by
  obtain ⟨N, I, hN1, hN5, hI, CSM⟩ := some_all a2 b2 wa2 wb2
  have HSM := Lib.hid CSM
  have C0 := Lib.hid (fun V => short_any a0 V wa0)
  have C1 := Lib.hid (fun V => short_any a1 V wa1)
  have z0 := cut_size a0
  have z1 := cut_size a1
  obtain ⟨x, hx⟩ : ∃ x, SG.cut a0 = x := ⟨_, rfl⟩
  obtain ⟨y, hy⟩ : ∃ y, SG.cut a1 = y := ⟨_, rfl⟩
  rw [hx] at C0 z0
  rw [hy] at C1 z1
  obtain ⟨L, hL⟩ : ∃ L, SG.lns x (I : Int) y 18 = L := ⟨_, rfl⟩
  have hLl : L.length = 18 := by rw [← hL, SG.lns_len]
  have hLg : ∀ c, c < 18 → L.getD c ⟨#[]⟩ = SG.link x (I : Int) (c : Int) (SG.dig y c) := fun c hc => by rw [← hL]; exact SG.lns_get x (I : Int) y hc
  obtain ⟨s, a, b, S1, S2, S3, S4, S5, S6⟩ := SG.sign_reads x y (n := N) (i := I) ⟨hN1, by omega⟩ hI
  have hpr := SG.root_proved x (n := N) (i := I) ⟨hN1, by omega⟩ hI
  have hM8 := SG.prf_eight x N I (SG.hOf N)
  obtain ⟨M, hM⟩ : ∃ M, DG.prf (SG.leaves x N) I (SG.hOf N) = M := ⟨_, rfl⟩
  rw [hM] at S5 hpr hM8
  rw [hL] at S4
  obtain ⟨m, hm⟩ : ∃ m, M.length = m := ⟨_, rfl⟩
  obtain ⟨P, hP⟩ : ∃ P, (SG.pub x (N : Int)).1 = P := ⟨_, rfl⟩
  rw [hP] at hpr
  have HPR := Lib.hid hpr
  have HM8 := Lib.hid hM8
  have HMM := Lib.hid hm
  have HLG := Lib.hid hLg
  have D1 := Lib.hid (fun V => pub_c (s := x) (n := (N : Int)) (z := P) (k := 0) (by rw [← hP, SG.pub_good ⟨hN1, by omega⟩]) (by omega) (by omega) V)
  have D2 := Lib.hid (fun V => sign_c (s := x) (n := (N : Int)) (i := (I : Int)) (m := y) S1 (by omega) (by omega) V)
  have DD := Lib.hid (fun V => rdigits_any y V (by omega))
  have R1 := Lib.hid S3
  have R2 := Lib.hid S4
  have R3 := Lib.hid S5
  have hs2 : s.length ≤ 140737488355328 := by omega
  have hs3 : s.length ≤ 8796093022000 := by omega
  have hlf : (⟨s, s.length, false⟩ : W.WP.RS).left = 0 := by simp [W.WP.RS.left]
  have HLF := Lib.hid hlf
  have hv1 : ((L.map (fun x => x.data.toList)).map (fun s => Value.string (W.WP.S s))) = L.map Value.string := SG.sv_map L
  have hv2 : ((M.map (fun x => x.data.toList)).map (fun s => Value.string (W.WP.S s))) = M.map Value.string := SG.sv_map M
  have HZ0 := Lib.hid z0
  have acc : Below w.heap.size w w := Below.refl _ _
  clear hx hy CSM wa0 wa1 wa2 wb2 z0 z1 hL S1 S2 S3 S4 S5 S6 hpr hM8 hM hP hLg hlf
  have hbox := box_two w a2 b2
  obtain ⟨W0, hW0⟩ : ∃ W0, w.alloc (.cells #[.int .u8 a2, .int .u8 b2] 34) = W0 := ⟨_, rfl⟩
  go_enter Try.func6, Try.ntmps6
  go_wp2_with fail
  rw [hW0] at hbox
  replace acc : Below w.heap.size w W0 := by rw [← hW0]; exact balloc acc _
  have HBX := Lib.hid hbox
  clear hbox hW0
  refine (sane_any _).mono ?_
  rintro e w1 ⟨rfl, k1⟩
  have hbx := HBX.out _ k1
  obtain ⟨hbx0, hbx1⟩ := hbx
  have hbx2 : ∀ V, Below w1.heap.size w1 V → V.cell? ⟨w.heap.size, 0, none⟩ = some (.int .u8 a2) ∧ V.cell? ⟨w.heap.size, 1, none⟩ = some (.int .u8 b2) := fun V hV => HBX.out V (bnext k1 hV)
  replace acc := bnext acc k1
  clear k1 HBX
  go_wp2_with fail
  refine (HSM.out _).mono ?_
  rintro e w2 ⟨rfl, k2⟩
  replace acc := bnext acc k2
  clear k2
  go_wp2_with fail
  refine (C0.out _).mono ?_
  rintro e w3 ⟨rfl, k3⟩
  replace acc := bnext acc k3
  clear k3
  go_wp2_with fail
  refine (D1.out _).mono ?_
  rintro e w4 ⟨rfl, k4⟩
  replace acc := bnext acc k4
  clear k4
  go_wp2_with fail
  refine (C0.out _).mono ?_
  rintro e w5 ⟨rfl, k5⟩
  replace acc := bnext acc k5
  clear k5
  go_wp2_with fail
  refine (C1.out _).mono ?_
  rintro e w6 ⟨rfl, k6⟩
  replace acc := bnext acc k6
  clear k6
  go_wp2_with fail
  refine (D2.out _).mono ?_
  rintro e w7 ⟨rfl, k7⟩
  replace acc := bnext acc k7
  clear k7
  go_wp2_with fail
  refine (W.new_any s _ hs2).mono ?_
  rintro e w8 ⟨rfl, q8, k8⟩
  have hB : w.heap.size ≤ w7.heap.size := acc.size
  obtain ⟨B, hBB⟩ : ∃ B, w7.heap.size = B := ⟨_, rfl⟩
  replace acc := bnext acc k8
  rw [hBB] at q8 hB ⊢
  have q8 := Lib.hid q8
  clear k8 hBB
  go_wp2_with fail
  refine (W.read_c _ _ _ _ _ q8.out R1.out).mono ?_
  rintro e w9 ⟨rfl, q9, k9⟩
  replace acc := acc.trans (k9.below hB acc.size)
  have q9 := Lib.hid q9
  clear k9 q8
  have hBw := q9.out.lt
  go_wp2_with fail
  refine (W.texts_c _ _ _ _ _ q9.out hs3 R2.out).mono ?_
  rintro e w10 ⟨v10, rfl, o10, q10, k10⟩
  replace acc := acc.trans (k10.below hB acc.size)
  obtain ⟨la, lc, rfl⟩ := own_shape o10
  rw [hv1, List.length_map, hLl] at o10
  rw [List.length_map, hLl]
  have q10 := Lib.hid q10
  have O10 := Lib.hid o10
  clear k10 q9 o10
  go_wp2_with fail
  refine (W.texts_c _ _ _ _ _ q10.out hs3 R3.out).mono ?_
  rintro e w11 ⟨v11, rfl, o11, q11, k11⟩
  replace acc := acc.trans (k11.below hB acc.size)
  obtain ⟨pa, pc, rfl⟩ := own_shape o11
  have q11 := Lib.hid q11
  have P1 := W.own_kept O10.out hBw k11
  rw [hv2, List.length_map, hm] at o11
  rw [List.length_map, hm]
  replace P1 := row_own P1 (by rw [List.length_map, hLl])
  have P2 := row_own o11 (by rw [List.length_map, hm])
  have HP1 := Lib.hid P1
  have HP2 := Lib.hid P2
  clear k11 q10 o11 O10 P1 P2 hm
  go_wp2_with fail
  refine (W.bad_c _ _ _ _ q11.out rfl).mono ?_
  rintro e w12 ⟨rfl, rfl⟩
  go_wp2_with fail
  refine (W.left_c _ _ _ _ q11.out HLF.out).mono ?_
  rintro e w13 ⟨rfl, k13⟩
  replace acc := bnext acc k13
  replace HP1 := Lib.hid (HP1.out.keep k13)
  replace HP2 := Lib.hid (HP2.out.keep k13)
  clear k13 q11
  go_wp2_with fail
  refine (C1.out _).mono ?_
  rintro e w14 ⟨rfl, k14⟩
  replace acc := bnext acc k14
  replace HP1 := Lib.hid (HP1.out.keep k14)
  replace HP2 := Lib.hid (HP2.out.keep k14)
  clear k14
  go_wp2_with fail
  refine (DD.out _).mono ?_
  rintro e w15 ⟨vd, rfl, hvd, k15⟩
  replace acc := bnext acc k15
  replace HP1 := Lib.hid (HP1.out.keep k15)
  replace HP2 := Lib.hid (HP2.out.keep k15)
  obtain ⟨da, dc, rfl⟩ := own_shape hvd
  have hrd := row_own hvd (by rw [List.length_map, SG.digits_len])
  have HRD := Lib.hid hrd
  have ACC := Lib.hid acc
  obtain ⟨dg, d0, rfl, hu1, hu2⟩ := hrd.cell (k := 0) (by rw [List.length_map, SG.digits_len]; omega)
  obtain ⟨g, o, rfl, hu3, hu4⟩ := HP1.out.cell (k := 0) (by rw [List.length_map, hLl]; omega)
  have HDc : Hid (∀ V, Below w15.heap.size w15 V → ∀ c, c < 18 → V.cell? ⟨dg, d0 + c, none⟩ = some (.int .i64 (SG.dig y c : Int))) := Lib.hid fun V hV c hc => by
    obtain ⟨g1, o1, e1, _, d1⟩ := (HRD.out.keep hV).cell (k := c) (by rw [List.length_map, SG.digits_len]; exact hc)
    injection e1 with e1
    injection e1 with e1 e2
    subst e1 e2
    rw [List.getElem_map] at d1
    obtain ⟨_, hx2⟩ := List.getElem?_eq_some_iff.1 (SG.dig_at (msg := y) hc).1
    rw [d1, hx2]
  have HLc : Hid (∀ V, Below w15.heap.size w15 V → ∀ c, c < 18 → V.cell? ⟨g, o + c, none⟩ = some (.string (SG.link x (I : Int) (c : Int) (SG.dig y c)))) := Lib.hid fun V hV c hc => by
    obtain ⟨g1, o1, e1, _, d1⟩ := (HP1.out.keep hV).cell (k := c) (by rw [List.length_map, hLl]; exact hc)
    injection e1 with e1
    injection e1 with e1 e2
    subst e1 e2
    rw [List.getElem_map] at d1
    have hg := HLG.out c hc
    rw [List.getD_eq_getElem?_getD, List.getElem?_eq_getElem (by rw [hLl]; exact hc)] at hg
    rw [d1, show L[c]'(by rw [hLl]; exact hc) = SG.link x (I : Int) (c : Int) (SG.dig y c) from hg]
  clear hu1 hu2 hu3 hu4
  clear k15 hvd hrd acc hLl hv1 hv2
  go_wp2_with fail
  go_loopw [18, 20] (fun v u wr => ∃ c : Nat, v = .string (SG.ends x (I : Int) c) ∧ u = .int .i64 (c : Int) ∧ c ≤ 18 ∧ Below w15.heap.size w15 wr) (fun _ v _ => 18 - (intOf v).toNat)
  case atStart => exact ⟨0, rfl, rfl, by omega, Below.refl _ _⟩
  case round =>
    obtain ⟨c, rfl, rfl, hc, hb⟩ := hrel
    have HB := Lib.hid hb
    have hez := SG.ends_size x (I : Int) c
    obtain ⟨E, hE⟩ : ∃ E, SG.ends x (I : Int) c = E := ⟨_, rfl⟩
    rw [hE] at hez
    by_cases hc18 : c < 18
    · have hci : (c : Int) < 18 := by omega
      have hc0 : (0 : Int) ≤ (c : Int) := by omega
      have hdd15 := (SG.dig_at (msg := y) hc18).2
      have HC1 := Lib.hid (fun V hV => HLc.out V hV c hc18)
      have HC2 := Lib.hid (fun V hV => HDc.out V hV c hc18)
      have hz8 := SG.link_size x (I : Int) (c : Int) (SG.dig y c)
      have HLK := Lib.hid (fun V => rlink_any x (I : Int) (c : Int) (SG.dig y c) V (by have := HZ0.out; omega) (by omega) (by omega) (by omega))
      obtain ⟨t, ht⟩ : ∃ t, t = 15 - SG.dig y c := ⟨_, rfl⟩
      have hlk : SG.lk (SG.link x (I : Int) (c : Int) (SG.dig y c)) t = SG.link x (I : Int) (c : Int) 15 := by
        unfold SG.link
        rw [SG.lk_lk]
        congr 1
        omega
      have hNX : SG.ends x (I : Int) (c + 1) = E ++ SG.link x (I : Int) (c : Int) 15 := by rw [SG.ends, hE]
      have HLS := Lib.hid (fun V => rlinks_any (SG.link x (I : Int) (c : Int) (SG.dig y c)) t V (by omega) (by omega))
      rw [hlk] at HLS
      have hl8 := SG.link_size x (I : Int) (c : Int) 15
      obtain ⟨l, hl⟩ : ∃ l, SG.link x (I : Int) (c : Int) 15 = l := ⟨_, rfl⟩
      obtain ⟨z, hz⟩ : ∃ z, SG.link x (I : Int) (c : Int) (SG.dig y c) = z := ⟨_, rfl⟩
      obtain ⟨d, hd⟩ : ∃ d, SG.dig y c = d := ⟨_, rfl⟩
      rw [hl] at HLS hNX hl8
      rw [hz] at HLK HLS HC1 hz8
      rw [hd] at HLK HC2 hdd15 ht
      have d1 := HC1.out wr hb
      have d2 := HC2.out wr hb
      have et : (15 : Int) - (d : Int) = (t : Int) := by omega
      have hne8 : ((z.size : Int) != 8) = false := by simp; omega
      have hzz : (z.toList == z.toList) = true := by rw [str_ok]; simp
      have HNX := Lib.hid hNX
      have ld1 := Later.cell d1
      have ld2 := Later.cell d2
      rw [hE]
      clear hlk hNX hl hz hd hb hE ht
      go_wp2_with fail
      refine wp_region_later (by kernel_rfl) (by kernel_rfl) ?_
      repeat (go_big_quiet_step (first | (go_at_call 11; exact calls_later _ (C0.out _)) | (go_at_call 25; exact calls_later _ (HLK.out _))))
      refine wpQuiet_nil ?_
      intro w16 hw'
      obtain ⟨s5, hs5⟩ := hw'
      have k8 : Below wr.heap.size wr w16 := by rw [hs5]; exact s5.le
      have HB8 := Lib.hid (bnext HB.out k8)
      have d1' := HC1.out w16 HB8.out
      have d2' := HC2.out w16 HB8.out
      have ld1 := Later.cell d1'
      have ld2 := Later.cell d2'
      clear hs5 s5 k8 d1 d2
      go_wp2_with fail
      refine wp_region_later (by kernel_rfl) (by kernel_rfl) ?_
      repeat (go_big_quiet_step ((go_at_call 26; exact calls_later _ (HLS.out _))))
      refine wpQuiet_nil ?_
      intro w17 hw'
      obtain ⟨s5, hs5⟩ := hw'
      have k9 : Below w16.heap.size w16 w17 := by rw [hs5]; exact s5.le
      have HB9 := Lib.hid (bnext HB8.out k9)
      clear hs5 s5 k9 ld1 ld2 d1' d2'
      go_wp2
      go_roundw
      case rel => exact ⟨c + 1, by rw [HNX.out], by go_num, hc18, HB9.out⟩
      case measure => simp [intOf]; omega
    · obtain rfl : c = 18 := by omega
      have hpr := HPR.out
      unfold SG.leaf at hpr
      rw [hE] at hpr ⊢
      have HO := Lib.hid (fun V => rOf_any E V (by unfold maxLen; omega))
      obtain ⟨z, hz⟩ : ∃ z, DG.Of E = z := ⟨_, rfl⟩
      have hz8 : z.size = 8 := by rw [← hz]; rfl
      rw [hz] at HO hpr
      have HV : Hid (∀ V, Below w15.heap.size w15 V → Calls Try.prog 27 #[.string P, .string z, .int .i64 (I : Int), .slice pa m pc] V fun e w' => e = .returned (.bool true) ∧ Below V.heap.size V w') := Lib.hid fun V hV => by
        have := rverify_any P z (I : Int) pa pc M V (by omega) (by omega) (by rw [HMM.out]; exact HP2.out.keep hV) (fun s h => by have := HM8.out s h; omega)
        rw [HMM.out, hpr] at this
        exact this
      clear hz hE hb hpr
      go_wp2_with fail
      refine (HO.out _).mono ?_
      rintro e w16 ⟨rfl, k16⟩
      have hb2 := bnext HB.out k16
      clear k16
      go_wp2_with fail
      refine (HV.out _ hb2).mono ?_
      rintro e w17 ⟨rfl, k17⟩
      go_wp2
      go_ret
      exact ⟨rfl, bnext (bnext ACC.out hb2) k17⟩

set_option maxRecDepth 100000 in
theorem lifted (os : Os) (started : os.Started) (H : Type) (enc : TypeId × Value → H) :
    ReturnsInHanded {} Try.checked os 6 .any (Rows.signFormSpec.pre6 enc Try.prog Try.f6 Rows.signFormRow.domain false) (Rows.signFormSpec.post enc Try.prog Try.f6 false true false false) := by
  refine returnsInHanded_of_change (C := Try.checked) own started (by kernel_rfl) Try.func6
    (ChangeSpec.witness6 (enc := enc) (C := Try.checked) false ⟨#[], #[.string ByteArray.empty, .string ByteArray.empty, .agg #[.int .u8 0, .int .u8 0]], []⟩ 8 (by kernel_rfl) (by kernel_rfl) (by kernel_rfl) (by kernel_rfl)) ?_
  intro W base args ds gs before hval0 hW hcnd _
  have hval : ∀ (j : Nat) t v, Try.f6.params[j]? = some t → args[j]? = some v → Value.okWide Try.prog W .any base t v := hval0
  have hW' := hW
  obtain ⟨p, q, hA0, hV, rfl, hfz, hnd⟩ := hW
  have hA : DataW.TrodAll enc Try.prog W 0 (fun _ => true) true Try.f6.params.toList args.toList ds p := hA0
  rw [Try.params6] at hA hval
  obtain ⟨v0, vs0, d0, ds0, p0, q0, hargs, rfl, rfl, h0, r0⟩ := trodAll_cons hA
  obtain ⟨v1, vs1, d1, ds1, p1, q1, rfl, rfl, rfl, h1, r1⟩ := trodAll_cons r0
  obtain ⟨v2, vs2, d2, ds2, p2, q2, rfl, rfl, rfl, h2, r2⟩ := trodAll_cons r1
  obtain ⟨rfl, rfl, rfl⟩ := trodAll_nil r2
  obtain rfl : args = #[v0, v1, v2] := by cases args; simp_all
  obtain ⟨rfl, rfl⟩ := trodVars_none hV
  have k0 := h0
  have lt0 : ∀ x ∈ p0, x.block < W.heap.size := by obtain ⟨m, hm⟩ := k0; exact DataW.trod_lt m _ _ _ hm
  have k1 := h1
  have lt1 : ∀ x ∈ p1, x.block < W.heap.size := by obtain ⟨m, hm⟩ := k1; exact DataW.trod_lt m _ _ _ hm
  have k2 := h2
  have lt2 : ∀ x ∈ p2, x.block < W.heap.size := by obtain ⟨m, hm⟩ := k2; exact DataW.trod_lt m _ _ _ hm
  obtain ⟨a0, rfl, rfl, rfl, wa0⟩ := open_string Try.underlying9 (hval 0 9 v0 rfl rfl) h0
  obtain ⟨a1, rfl, rfl, rfl, wa1⟩ := open_string Try.underlying9 (hval 1 9 v1 rfl rfl) h1
  obtain ⟨a2, b2, rfl, wa2, wb2⟩ := open_arr2 Try.underlying34 Try.underlying5 (by kernel_rfl) (by kernel_rfl) (hval 2 34 v2 rfl rfl) h2
  clear hA0 hval0
  refine (walk a0 a1 a2 b2 wa0 wa1 wa2 wb2 W).mono fun e W' ⟨he, bel⟩ => ?_
  subst he
  exact ⟨_, rfl, _, _, _, [], _, [], hW', trodAll_mk1 (shut_bool Try.underlying4 _), (trodAll_cons_mk (Below.trod laidOut (by kernel_rfl) (of_decide_eq_true (by kernel_rfl)) k0 bel lt0) (trodAll_cons_mk (Below.trod laidOut (by kernel_rfl) (of_decide_eq_true (by kernel_rfl)) k1 bel lt1) (trodAll_cons_mk (Below.trod laidOut (by kernel_rfl) (of_decide_eq_true (by kernel_rfl)) k2 bel lt2) trodAll_mk0))), rfl, bel.frame _, fun h => by cases h⟩

theorem over : Rows.signFormRow.holds Try.pinned (OpenSpec.ofChange Rows.signFormSpec) :=
  OpenClaim.holds_of_wide 6 Try.f6 rfl rfl rfl rfl rfl rfl rfl ⟨rfl, rfl, rfl, rfl, rfl⟩ rfl rfl rfl rfl rfl (by kernel_rfl) Try.func6 (by kernel_rfl)
    (of_decide_eq_true (by kernel_rfl)) (by unfold Func.isWrapper; first | (rw [if_pos (by decide +kernel)]; kernel_rfl) | (rw [if_neg (by decide +kernel)]; exact ⟨rfl, rfl⟩))
    (fun os started H enc _ => lifted os started H enc)

end Go.Proofs.Ytinkhgmdeldniaa.signForm
namespace Go.Proofs.Ytinkhgmdeldniaa
theorem signForm_proved : Rows.SignFormSaid := signForm.over
#print axioms signForm_proved
end Go.Proofs.Ytinkhgmdeldniaa
