/- For every seed, message and numbers SignChecks returns true: Check answers what the reference answers, for signatures in which something is changed. No conditions. -/
import Derived.Test.YtinkhgmdeldniaaSgnLaw1
import Derived.ChangeMaps5
import Derived.Deep.CutBlock
import Derived.Deep.CutRange
import Derived.Test.YtinkhgmdeldniaaDigNext
namespace Go.Proofs.Ytinkhgmdeldniaa.signChecks
open Go.ChangeShapes Go.WideShapes Go.ChangeAt Go.RowKit Go.Joins Go.Deep Go.ChangeMaps
set_option maxRecDepth 100000
set_option linter.unusedVariables false
attribute [local go_sem] conv_b

set_option maxRecDepth 100000 in
set_option maxHeartbeats 8000000 in
theorem walk (a0 : ByteArray) (a1 : ByteArray) (a2 : Int) (b2 : Int) (c2 : Int) (d2 : Int) (e2 : Int) (wa0 : a0.size ≤ maxLen) (wa1 : a1.size ≤ maxLen) (wa2 : (Lit.int .u8 a2).wf = true) (wb2 : (Lit.int .u8 b2).wf = true) (wc2 : (Lit.int .u8 c2).wf = true) (wd2 : (Lit.int .u8 d2).wf = true) (we2 : (Lit.int .u8 e2).wf = true) (w : World) :
    Calls Try.prog 7 #[.string a0, .string a1, .agg #[.int .u8 a2, .int .u8 b2, .int .u8 c2, .int .u8 d2, .int .u8 e2]] w fun e w' => e = .returned (.bool true) ∧ Below w.heap.size w w' := by
  obtain ⟨N, I, hN1, hN5, hI, CSM⟩ := some_all a2 b2 wa2 wb2
  have HSM := Lib.hid CSM
  have C0 := Lib.hid (fun V => short_any a0 V wa0)
  have C1 := Lib.hid (fun V => short_any a1 V wa1)
  have z0 := cut_size a0
  have z1 := cut_size a1
  obtain ⟨x, hx⟩ : ∃ x, SG.cut a0 = x := ⟨_, rfl⟩
  obtain ⟨y, hy⟩ : ∃ y, SG.cut a1 = y := ⟨_, rfl⟩
  rw [hx] at C0 z0
  rw [hy] at C1 z1
  obtain ⟨L, hL⟩ : ∃ L, SG.lns x (I : Int) y 18 = L := ⟨_, rfl⟩
  have hLl : L.length = 18 := by rw [← hL, SG.lns_len]
  have hL8 : ∀ s ∈ L, s.size ≤ 8 := fun s hs => by rw [← hL] at hs; rw [SG.lns_small x (I : Int) y 18 s hs]; omega
  obtain ⟨s, a, b, S1, S2, S3, S4, S5, S6⟩ := SG.sign_reads x y (n := N) (i := I) ⟨hN1, by omega⟩ hI
  have hs10 : s.length ≤ 10000 := by rw [S6, Array.length_toList]; exact SG.sign_le x y ⟨hN1, by omega⟩ hI
  have hspos : 0 < s.length := by
    rcases Nat.eq_zero_or_pos s.length with h | h
    · have h0 := List.eq_nil_of_length_eq_zero h
      rw [S6] at h0
      rw [SG.sign_good ⟨hN1, by omega⟩ hI] at h0
      rw [SG.parts_list] at h0
      have := W.WP.int_pos (I : Int)
      have h1 := congrArg List.length h0
      rw [List.length_append] at h1
      simp only [List.length_nil] at h1
      omega
    · exact h
  have hM8 := SG.prf_eight x N I (SG.hOf N)
  have hMl := DG.prf_len (SG.leaves x N) I (SG.hOf N)
  have hh4 := ((SG.hOf_is (n := N) (by omega)).le20 (by omega))
  obtain ⟨M, hM⟩ : ∃ M, DG.prf (SG.leaves x N) I (SG.hOf N) = M := ⟨_, rfl⟩
  rw [hM] at S5 hM8 hMl
  rw [hL] at S4
  obtain ⟨m, hm⟩ : ∃ m, M.length = m := ⟨_, rfl⟩
  have hm20 : m ≤ 20 := by omega
  obtain ⟨P, hP⟩ : ∃ P, (SG.pub x (N : Int)).1 = P := ⟨_, rfl⟩
  have hP8 : P.size = 8 := by rw [← hP, SG.pub_good ⟨hN1, by omega⟩]; exact DG.root_size _ _
  have HM8 := Lib.hid hM8
  have HL8 := Lib.hid hL8
  have D1 : Hid (∀ V, Calls Try.prog 14 #[.string x, .int .i64 (N : Int)] V fun e w' => e = .returned (.tuple #[.string P, .int .i64 0]) ∧ Below V.heap.size V w') := Lib.hid fun V => by
    have := rpublic_any x (N : Int) V (by omega) (by omega)
    rw [← hP]
    rw [SG.pub_good ⟨hN1, by omega⟩] at this ⊢
    exact this
  have D2 : Hid (∀ V, Calls Try.prog 16 #[.string x, .int .i64 (N : Int), .int .i64 (I : Int), .string y] V fun e w' => e = .returned (.tuple #[.string (W.WP.S s), .int .i64 0]) ∧ Below V.heap.size V w') := Lib.hid fun V => by
    have := rsign_any x (N : Int) (I : Int) y V (by omega) (by omega)
    rw [S1] at this
    exact this
  have hs2 : s.length ≤ 140737488355328 := by omega
  have hs3 : s.length ≤ 8796093022000 := by omega
  have HN := Lib.hid (fun V => W.qnew_any s V hs2)
  have R1 := Lib.hid (fun B V h => W.qread_any B ⟨s, 0, false⟩ V h)
  rw [S3] at R1
  have R2 := Lib.hid (fun B V h => W.qtexts_any B ⟨s, a, false⟩ V h hs3)
  rw [S4] at R2
  have R3 := Lib.hid (fun B V h => W.qtexts_any B ⟨s, b, false⟩ V h hs3)
  rw [S5] at R3
  simp only at R1 R2 R3
  rw [show (L.map (fun x => x.data.toList)).map (fun s => Value.string (W.WP.S s)) = L.map Value.string from SG.sv_map L, List.length_map, hLl] at R2
  rw [show (M.map (fun x => x.data.toList)).map (fun s => Value.string (W.WP.S s)) = M.map Value.string from SG.sv_map M, List.length_map, hm] at R3
  have bq := bd8 wc2
  have bd := bd8 wd2
  have be := bd8 we2
  have hS2 := S2
  have HLL := Lib.hid hLl
  have HMM := Lib.hid hm
  have acc : Below w.heap.size w w := Below.refl _ _
  clear hx hy CSM wa0 wa1 wa2 wb2 wc2 wd2 we2 z0 hL S1 S2 S3 S4 S5 S6 hM8 hL8 hM hP hMl hh4
  have hbox := box_five w a2 b2 c2 d2 e2
  obtain ⟨W0, hW0⟩ : ∃ W0, w.alloc (.cells #[.int .u8 a2, .int .u8 b2, .int .u8 c2, .int .u8 d2, .int .u8 e2] 48) = W0 := ⟨_, rfl⟩
  go_enter Try.func7, Try.ntmps7
  go_wp2_with fail
  rw [hW0] at hbox
  replace acc : Below w.heap.size w W0 := by rw [← hW0]; exact balloc acc _
  have HBX := Lib.hid hbox
  clear hbox hW0
  refine (sane_any _).mono ?_
  rintro e w1 ⟨rfl, k1⟩
  obtain ⟨A, hA⟩ : ∃ A, w.heap.size = A := ⟨_, rfl⟩
  have HA := Lib.hid hA
  replace HBX : Hid (∀ V, Below w1.heap.size w1 V → V.cell? ⟨A, 0, none⟩ = some (.int .u8 a2) ∧ V.cell? ⟨A, 1, none⟩ = some (.int .u8 b2) ∧ V.cell? ⟨A, 2, none⟩ = some (.int .u8 c2) ∧ V.cell? ⟨A, 3, none⟩ = some (.int .u8 d2) ∧ V.cell? ⟨A, 4, none⟩ = some (.int .u8 e2)) := Lib.hid fun V hV => by rw [← hA]; exact HBX.out V (bnext k1 hV)
  replace acc := Lib.hid (bnext acc k1)
  have ac := Below.refl w1.heap.size w1
  rw [hA]
  clear k1 hA
  go_wp2_with fail
  refine (C0.out _).mono ?_
  rintro e w2 ⟨rfl, k2⟩
  replace ac := bnext ac k2
  clear k2
  go_wp2_with fail
  refine (C1.out _).mono ?_
  rintro e w3 ⟨rfl, k3⟩
  replace ac := bnext ac k3
  clear k3
  obtain ⟨f0, f1, f2, f3, f4⟩ := HBX.out _ ac
  go_wp2_with fail
  refine (HSM.out _).mono ?_
  rintro e w4 ⟨rfl, k4⟩
  replace ac := bnext ac k4
  clear k4
  clear f0 f1 f2 f3 f4
  go_wp2_with fail
  refine (D1.out _).mono ?_
  rintro e w5 ⟨rfl, k5⟩
  replace ac := bnext ac k5
  clear k5
  go_wp2_with fail
  refine (D2.out _).mono ?_
  rintro e w6 ⟨rfl, k6⟩
  replace ac := bnext ac k6
  clear k6
  go_wp2_with fail
  refine (HN.out _).mono ?_
  rintro e w7 ⟨rfl, q7, k7⟩
  have hB : w1.heap.size ≤ w6.heap.size := ac.size
  obtain ⟨B, hBB⟩ : ∃ B, w6.heap.size = B := ⟨_, rfl⟩
  replace ac := bnext ac k7
  rw [hBB] at q7 hB ⊢
  have q7 := Lib.hid q7
  clear k7 hBB
  go_wp2_with fail
  refine (R1.out _ _ q7.out).mono ?_
  rintro e w8 ⟨rfl, q8, k8⟩
  replace ac := ac.trans (k8.below hB ac.size)
  have q8 := Lib.hid q8
  clear k8 q7
  have hBw := q8.out.lt
  go_wp2_with fail
  refine (R2.out _ _ q8.out).mono ?_
  rintro e w9 ⟨v9, rfl, o9, q9, k9⟩
  replace ac := ac.trans (k9.below hB ac.size)
  obtain ⟨g, lc, rfl, hgB, hgw9, hcel⟩ := own_at o9 (by omega)
  have hcap := own_cap o9
  have q9 := Lib.hid q9
  have O9 := Lib.hid o9
  clear k9 q8 o9
  go_wp2_with fail
  refine (R3.out _ _ q9.out).mono ?_
  rintro e w10 ⟨v10, rfl, o10, q10, k10⟩
  replace ac := ac.trans (k10.below hB ac.size)
  obtain ⟨pa, pc, rfl⟩ := own_shape o10
  have O9 := Lib.hid (W.own_kept O9.out hBw k10)
  have O10 := Lib.hid o10
  have hw9 := k10.size
  clear q10 k10 q9 o10
  obtain ⟨f0, f1, f2, f3, f4⟩ := HBX.out _ ac
  have AC := Lib.hid ac
  clear ac
  have t1 : d2.tmod 18 = d2 % 18 := Int.tmod_eq_emod_of_nonneg (by omega)
  have t2 : c2.tmod 8 = c2 % 8 := Int.tmod_eq_emod_of_nonneg (by omega)
  go_upto_block 0 with fail
  obtain ⟨k, hk⟩ : ∃ k : Nat, d2 % 18 = (k : Int) := ⟨(d2 % 18).toNat, by omega⟩
  obtain ⟨c, hc⟩ : ∃ c : Int, c2 % 8 = c := ⟨_, rfl⟩
  have hk18 : k < 18 := by omega
  have hki : (k : Int) < 18 := by omega
  have hk0 : (0 : Int) ≤ (k : Int) := by omega
  have hc8 : c = 0 ∨ c = 1 ∨ c = 2 ∨ c = 3 ∨ c = 4 ∨ c = 5 ∨ c = 6 ∨ c = 7 := by omega
  rw [hk, hc]
  have hkl : k < L.length := by rw [HLL.out]; exact hk18
  obtain ⟨z, hz⟩ : ∃ z, L[k] = z := ⟨_, rfl⟩
  have hz8 : z.size ≤ 8 := HL8.out z (by rw [← hz]; exact List.getElem_mem hkl)
  have hzc : w10.cell? ⟨g, k, none⟩ = some (.string z) := (O9.out.cellAt k (by omega)).trans (by rw [List.getElem?_map, List.getElem?_eq_getElem hkl, hz]; rfl)
  have hzf : w10.frozen? ⟨g, k, none⟩ = false := O9.out.frozenAt k
  have hgA : w1.heap.size ≤ g := by have := hB; have := hgB; have := hBw; omega
  have hZ := Lib.hid hz
  have HP9 : Hid (RowAt w10 (.slice (some ⟨g, 0, none⟩) 18 lc) (L.map Value.string)) := Lib.hid (row_own O9.out (by rw [List.length_map, HLL.out]))
  have HP10 : Hid (RowAt w10 (.slice pa m pc) (M.map Value.string)) := Lib.hid (row_own O10.out (by rw [List.length_map, HMM.out]))
  have hL100 : ∀ s ∈ L, s.size ≤ 100 := fun s hs => by have := HL8.out s hs; omega
  have hM100 : ∀ s ∈ M, s.size ≤ 100 := fun s hs => by have := HM8.out s hs; omega
  have hpcap : m ≤ pc := own_cap O10.out
  have h18e : ((18 : Nat) : Int) = 18 := rfl
  have HL1 := Lib.hid hL100
  have HM1 := Lib.hid hM100
  have HBQ := Lib.hid be
  have HBD := Lib.hid bd
  have hgw10 : g < w10.heap.size := World.block_lt_of_cell? w10 ⟨g, k, none⟩ hzc
  have hpag : ∀ x o, pa = some ⟨x, o, none⟩ → x ≠ g := fun x o e => by
    rcases O10.out.2 with ⟨h, _⟩ | ⟨g', cap', cur, h, h1, _⟩
    · injection h with h _ _
      rw [e] at h
      cases h
    · injection h with h _ _
      rw [e] at h
      obtain rfl : x = g' := by injection h with h; injection h
      omega
  have HPG := Lib.hid hpag
  clear hk hz hL100 hM100 t1 t2 bq bd be hcel hpag hc
  have hr18 : Hid (L.length = 18) := HLL
  go_cut [1, 9, 10, 15, 16] from 66 to 144 (fun s1 s9 s10 s15 s16 wx => ∃ (u P' : ByteArray) (i' : Int) (l p : List ByteArray) (va vb : Value), s1 = .string u ∧ u.size ≤ 1000 ∧ s9 = .int .i64 i' ∧ -9223372036854775808 ≤ i' ∧ i' ≤ 9223372036854775807 ∧ s10 = .string P' ∧ P'.size ≤ 1000 ∧ s15 = va ∧ s16 = vb ∧ RowAt wx va (l.map Value.string) ∧ l.length ≤ 25 ∧ (∀ s ∈ l, s.size ≤ 100) ∧ RowAt wx vb (p.map Value.string) ∧ p.length ≤ 25 ∧ (∀ s ∈ p, s.size ≤ 100) ∧ Below w1.heap.size w1 wx)
  case first =>
    rcases hc8 with rfl | rfl | rfl | rfl | rfl | rfl | rfl | rfl
    · have ec : (0 : Int) = 0 := rfl
      go_wp2_with fail
      go_meet
      refine ⟨_, P, (I : Int), L, M, _, _, rfl, ?_, rfl, by omega, by omega, rfl, by omega, rfl, rfl, HP9.out.keep (balloc (Below.refl _ _) _), by rw [HLL.out]; omega, HL1.out, HP10.out.keep (balloc (Below.refl _ _) _), by rw [HMM.out]; omega, HM1.out, balloc AC.out _⟩
      rw [one_size]
      omega
    · have HO := Lib.hid (fun V => rOf_any z V (by unfold maxLen; omega))
      obtain ⟨z', hz'⟩ : ∃ z', DG.Of z = z' := ⟨_, rfl⟩
      have hz8' : z'.size = 8 := by rw [← hz']; exact DG.Of_size _
      rw [hz'] at HO
      clear hz'
      go_wp2_with fail
      refine (HO.out _).mono ?_
      rintro e w11 ⟨rfl, k11⟩
      have hzf' : w11.frozen? ⟨g, k, none⟩ = false := (own_below O9.out k11).frozenAt k
      have hzc' : w11.cell? ⟨g, k, none⟩ = some (.string z) := (k11.cell (p := ⟨g, k, none⟩) hgw10).trans hzc
      have O9' := own_below O9.out k11
      have HP' := own_below O10.out k11
      obtain ⟨hst, hgr⟩ := O9'.stored k (.string z')
      have hP2 := own_row' (w' := w11.setCell ⟨g, k, none⟩ (.string z')) HP' (fun x o e => hgr.block x (own_lt HP' x o e) (fun e2 => HPG.out x o e (Option.some.inj e2)))
      have hb2 : Below w1.heap.size w1 (w11.setCell ⟨g, k, none⟩ (.string z')) := bset (bnext AC.out k11) hgA _
      rw [show (L.map Value.string).set k (.string z') = (L.set k z').map Value.string from (List.map_set).symm] at hst
      have HST := Lib.hid hst
      have HP2 := Lib.hid hP2
      have HB2 := Lib.hid hb2
      clear hst hgr hP2 hb2 O9' HP' k11
      go_wp2_with fail
      go_meet
      refine ⟨y, P, (I : Int), L.set k z', M, _, _, rfl, by omega, rfl, by omega, by omega, rfl, by omega, rfl, rfl, row_own HST.out (by rw [List.length_map, List.length_set, HLL.out]), by rw [List.length_set, HLL.out]; omega, ?_, row_own HP2.out (by rw [List.length_map, HMM.out]), by rw [HMM.out]; omega, HM1.out, HB2.out⟩
      intro s hs
      rcases List.mem_or_eq_of_mem_set hs with h | h
      · exact HL1.out s h
      · rw [h]; omega
    · have KS : Hid (∀ V, Below w10.heap.size w10 V → V.cell? ⟨g, k, none⟩ = some (.string z) ∧ V.cell? ⟨A, 4, none⟩ = some (.int .u8 e2)) := Lib.hid fun V hV => ⟨(hV.cell (p := ⟨g, k, none⟩) hgw10).trans hzc, (HBX.out V (AC.out.trans (hV.mono AC.out.size))).2.2.2.2⟩
      have hcv : Sem.run Try.prog (convert 51 9 (.slice (some ⟨w10.heap.size, 0, none⟩) 1 1)) ((w10.alloc (.cells #[.int .u8 e2] 5)).drew) = .ok (.string (ByteArray.empty.push (UInt8.ofNat e2.toNat))) ((w10.alloc (.cells #[.int .u8 e2] 5)).drew) := conv_d w10 e2
      obtain ⟨D, hD⟩ : ∃ D, ByteArray.empty.push (UInt8.ofNat e2.toNat) = D := ⟨_, rfl⟩
      have hD1 : D.size = 1 := by rw [← hD]; rfl
      rw [hD] at hcv
      clear hD
      go_upto_region 16 with fail
      refine wp_region_last #[{ dst := some 86, op := Op.move (Operand.tmp 15), type := 42, pos := "law.go:128", after := #[], guard := none }, { dst := some 87, op := Op.move (Operand.tmp 17), type := 3, pos := "law.go:128", after := #[], guard := none }, { dst := some 88, op := Op.move (Operand.tmp 15), type := 42, pos := "law.go:128", after := #[], guard := none }, { dst := some 89, op := Op.move (Operand.tmp 17), type := 3, pos := "law.go:128", after := #[], guard := none }, { dst := some 90, op := Op.indexAddr 42 (Operand.tmp 88) (Operand.tmp 89), type := 0, pos := "law.go:128", after := #[{ on := 2, ground := Ground.data }, { on := 3, ground := Ground.data }], guard := none }, { dst := some 91, op := Op.load 9 (Operand.tmp 90), type := 9, pos := "law.go:128", after := #[{ on := 4, ground := Ground.data }], guard := none }, { dst := some 92, op := Op.indexAddr 48 (Operand.tmp 5) (Operand.const (Value.int IntKind.i64 4)), type := 0, pos := "law.go:128", after := #[], guard := none }, { dst := some 93, op := Op.load 5 (Operand.tmp 92), type := 5, pos := "law.go:128", after := #[{ on := 6, ground := Ground.data }], guard := none }, { dst := some 94, op := Op.buildSlice 51 1 #[(0, Operand.tmp 93)], type := 51, pos := "law.go:128", after := #[{ on := 7, ground := Ground.data }], guard := none }, { dst := some 95, op := Op.convert 51 9 (Operand.tmp 94), type := 9, pos := "law.go:128", after := #[{ on := 8, ground := Ground.data }], guard := none }, { dst := some 96, op := Op.binOp BinOp.add 9 (Operand.tmp 91) (Operand.tmp 95) 9, type := 9, pos := "law.go:128", after := #[{ on := 5, ground := Ground.data }, { on := 9, ground := Ground.data }], guard := none }, { dst := some 97, op := Op.indexAddr 42 (Operand.tmp 86) (Operand.tmp 87), type := 0, pos := "law.go:128", after := #[{ on := 0, ground := Ground.data }, { on := 1, ground := Ground.data }, { on := 0, ground := Ground.phase }, { on := 1, ground := Ground.phase }, { on := 2, ground := Ground.phase }, { on := 3, ground := Ground.phase }, { on := 4, ground := Ground.phase }, { on := 5, ground := Ground.phase }, { on := 6, ground := Ground.phase }, { on := 7, ground := Ground.phase }, { on := 8, ground := Ground.phase }, { on := 9, ground := Ground.phase }, { on := 10, ground := Ground.phase }], guard := none }] { dst := none, op := Op.store 9 (Operand.tmp 97) (Operand.tmp 96), type := 0, pos := "law.go:128", after := #[{ on := 11, ground := Ground.data }, { on := 10, ground := Ground.data }, { on := 0, ground := Ground.phase }, { on := 1, ground := Ground.phase }, { on := 2, ground := Ground.phase }, { on := 3, ground := Ground.phase }, { on := 4, ground := Ground.phase }, { on := 5, ground := Ground.phase }, { on := 6, ground := Ground.phase }, { on := 7, ground := Ground.phase }, { on := 8, ground := Ground.phase }, { on := 9, ground := Ground.phase }, { on := 10, ground := Ground.phase }], guard := none } rfl (by kernel_rfl) (by kernel_rfl) (fun w' => w'.cell? ⟨g, k, none⟩ = some (.string z) ∧ w'.cell? ⟨A, 4, none⟩ = some (.int .u8 e2)) ?_ (fun hHeld => ?_)
      · (refine KS.out _ ?_; (repeat' (first | exact Below.refl _ _ | (with_reducible assumption) | (refine bnext ?_ (by with_reducible assumption)) | (refine balloc ?_ _) | (refine below_drewN ?_ _) | (refine Below.drew ?_))))
      refine wpAnyH_take (i := 0) (oi := { dst := some 86, op := Op.move (Operand.tmp 15), type := 42, pos := "law.go:128", after := #[], guard := none }) (v := ?_) rfl (by kernel_rfl) (by kernel_rfl) (by kernel_rfl) (fun _ _ _ h => h) (Or.inl ⟨by rfl, ?_⟩) (by assumption) ?_
      rotate_left
      · ((intro w hSw; (try dsimp only at hSw); go_simp; (try rw [if_neg (by omega)])); try with_reducible rfl)
      (try simp only [Act.put, List.setIfInBounds_toArray, List.set_cons_zero, List.set_cons_succ])
      refine wpAnyH_take (i := 1) (oi := { dst := some 87, op := Op.move (Operand.tmp 17), type := 3, pos := "law.go:128", after := #[], guard := none }) (v := ?_) rfl (by kernel_rfl) (by kernel_rfl) (by kernel_rfl) (fun _ _ _ h => h) (Or.inl ⟨by rfl, ?_⟩) (by assumption) ?_
      rotate_left
      · ((intro w hSw; (try dsimp only at hSw); go_simp; (try rw [if_neg (by omega)])); try with_reducible rfl)
      (try simp only [Act.put, List.setIfInBounds_toArray, List.set_cons_zero, List.set_cons_succ])
      refine wpAnyH_take (i := 2) (oi := { dst := some 88, op := Op.move (Operand.tmp 15), type := 42, pos := "law.go:128", after := #[], guard := none }) (v := ?_) rfl (by kernel_rfl) (by kernel_rfl) (by kernel_rfl) (fun _ _ _ h => h) (Or.inl ⟨by rfl, ?_⟩) (by assumption) ?_
      rotate_left
      · ((intro w hSw; (try dsimp only at hSw); go_simp; (try rw [if_neg (by omega)])); try with_reducible rfl)
      (try simp only [Act.put, List.setIfInBounds_toArray, List.set_cons_zero, List.set_cons_succ])
      refine wpAnyH_take (i := 3) (oi := { dst := some 89, op := Op.move (Operand.tmp 17), type := 3, pos := "law.go:128", after := #[], guard := none }) (v := ?_) rfl (by kernel_rfl) (by kernel_rfl) (by kernel_rfl) (fun _ _ _ h => h) (Or.inl ⟨by rfl, ?_⟩) (by assumption) ?_
      rotate_left
      · ((intro w hSw; (try dsimp only at hSw); go_simp; (try rw [if_neg (by omega)])); try with_reducible rfl)
      (try simp only [Act.put, List.setIfInBounds_toArray, List.set_cons_zero, List.set_cons_succ])
      refine wpAnyH_take (i := 4) (oi := { dst := some 90, op := Op.indexAddr 42 (Operand.tmp 88) (Operand.tmp 89), type := 0, pos := "law.go:128", after := #[{ on := 2, ground := Ground.data }, { on := 3, ground := Ground.data }], guard := none }) (v := ?_) rfl (by kernel_rfl) (by kernel_rfl) (by kernel_rfl) (fun _ _ _ h => h) (Or.inl ⟨by rfl, ?_⟩) (by assumption) ?_
      rotate_left
      · ((intro w hSw; (try dsimp only at hSw); go_simp; (try rw [if_neg (by omega)])); try with_reducible rfl)
      (try simp only [Act.put, List.setIfInBounds_toArray, List.set_cons_zero, List.set_cons_succ])
      refine wpAnyH_take (i := 5) (oi := { dst := some 91, op := Op.load 9 (Operand.tmp 90), type := 9, pos := "law.go:128", after := #[{ on := 4, ground := Ground.data }], guard := none }) (v := ?_) rfl (by kernel_rfl) (by kernel_rfl) (by kernel_rfl) (fun _ _ _ h => h) (Or.inl ⟨by rfl, ?_⟩) (by assumption) ?_
      rotate_left
      · ((intro w hSw; (try dsimp only at hSw); go_simp; (try rw [if_neg (by omega)])); try with_reducible rfl)
      (try simp only [Act.put, List.setIfInBounds_toArray, List.set_cons_zero, List.set_cons_succ])
      refine wpAnyH_take (i := 6) (oi := { dst := some 92, op := Op.indexAddr 48 (Operand.tmp 5) (Operand.const (Value.int IntKind.i64 4)), type := 0, pos := "law.go:128", after := #[], guard := none }) (v := ?_) rfl (by kernel_rfl) (by kernel_rfl) (by kernel_rfl) (fun _ _ _ h => h) (Or.inl ⟨by rfl, ?_⟩) (by assumption) ?_
      rotate_left
      · ((intro w hSw; (try dsimp only at hSw); go_simp; (try rw [if_neg (by omega)])); try with_reducible rfl)
      (try simp only [Act.put, List.setIfInBounds_toArray, List.set_cons_zero, List.set_cons_succ])
      refine wpAnyH_take (i := 7) (oi := { dst := some 93, op := Op.load 5 (Operand.tmp 92), type := 5, pos := "law.go:128", after := #[{ on := 6, ground := Ground.data }], guard := none }) (v := ?_) rfl (by kernel_rfl) (by kernel_rfl) (by kernel_rfl) (fun _ _ _ h => h) (Or.inl ⟨by rfl, ?_⟩) (by assumption) ?_
      rotate_left
      · ((intro w hSw; (try dsimp only at hSw); go_simp; (try rw [if_neg (by omega)])); try with_reducible rfl)
      (try simp only [Act.put, List.setIfInBounds_toArray, List.set_cons_zero, List.set_cons_succ])
      refine wpAnyH_ready (rs := [8]) (by kernel_rfl) (by simp) ?_
      refine AllReadyH.cons (o := { dst := some 94, op := Op.buildSlice 51 1 #[(0, Operand.tmp 93)], type := 51, pos := "law.go:128", after := #[{ on := 7, ground := Ground.data }], guard := none }) rfl (fun K hK => ?_) AllReadyH.nil
      go_simp
      refine hK.out _ _ ?_ (fun hHeld => ?_)
      · (refine KS.out _ ?_; (repeat' (first | exact Below.refl _ _ | (with_reducible assumption) | (refine bnext ?_ (by with_reducible assumption)) | (refine balloc ?_ _) | (refine below_drewN ?_ _) | (refine Below.drew ?_))))
      clear hK K
      (try simp only [Act.put, List.setIfInBounds_toArray, List.set_cons_zero, List.set_cons_succ])
      refine wpAnyH_ready (rs := [9]) (by kernel_rfl) (by simp) ?_
      refine AllReadyH.cons (o := { dst := some 95, op := Op.convert 51 9 (Operand.tmp 94), type := 9, pos := "law.go:128", after := #[{ on := 8, ground := Ground.data }], guard := none }) rfl (fun K hK => ?_) AllReadyH.nil
      go_simp
      refine hK.out _ _ ?_ (fun hHeld => ?_)
      · (refine KS.out _ ?_; (repeat' (first | exact Below.refl _ _ | (with_reducible assumption) | (refine bnext ?_ (by with_reducible assumption)) | (refine balloc ?_ _) | (refine below_drewN ?_ _) | (refine Below.drew ?_))))
      clear hK K
      (try simp only [Act.put, List.setIfInBounds_toArray, List.set_cons_zero, List.set_cons_succ])
      refine wpAnyH_take (i := 10) (oi := { dst := some 96, op := Op.binOp BinOp.add 9 (Operand.tmp 91) (Operand.tmp 95) 9, type := 9, pos := "law.go:128", after := #[{ on := 5, ground := Ground.data }, { on := 9, ground := Ground.data }], guard := none }) (v := ?_) rfl (by kernel_rfl) (by kernel_rfl) (by kernel_rfl) (fun _ _ _ h => h) (Or.inl ⟨by rfl, ?_⟩) (by assumption) ?_
      rotate_left
      · ((intro w hSw; (try dsimp only at hSw); go_simp; (try rw [if_neg (by omega)])); try with_reducible rfl)
      (try simp only [Act.put, List.setIfInBounds_toArray, List.set_cons_zero, List.set_cons_succ])
      refine wpAnyH_take (i := 11) (oi := { dst := some 97, op := Op.indexAddr 42 (Operand.tmp 86) (Operand.tmp 87), type := 0, pos := "law.go:128", after := #[{ on := 0, ground := Ground.data }, { on := 1, ground := Ground.data }, { on := 0, ground := Ground.phase }, { on := 1, ground := Ground.phase }, { on := 2, ground := Ground.phase }, { on := 3, ground := Ground.phase }, { on := 4, ground := Ground.phase }, { on := 5, ground := Ground.phase }, { on := 6, ground := Ground.phase }, { on := 7, ground := Ground.phase }, { on := 8, ground := Ground.phase }, { on := 9, ground := Ground.phase }, { on := 10, ground := Ground.phase }], guard := none }) (v := ?_) rfl (by kernel_rfl) (by kernel_rfl) (by kernel_rfl) (fun _ _ _ h => h) (Or.inl ⟨by rfl, ?_⟩) (by assumption) ?_
      rotate_left
      · ((intro w hSw; (try dsimp only at hSw); go_simp; (try rw [if_neg (by omega)])); try with_reducible rfl)
      (try simp only [Act.put, List.setIfInBounds_toArray, List.set_cons_zero, List.set_cons_succ])
      refine wpAnyH_done (by kernel_rfl) ?_ _
      show Oper.wp _ _ _ _ _ _
      have hzf1 : ((w10.alloc (.cells #[.int .u8 e2] 5)).drew).frozen? ⟨g, k, none⟩ = false := ((balloc (Below.refl _ w10) _).drew.frozen (p := ⟨g, k, none⟩) hgw10).trans hzf
      have k11 : Below w10.heap.size w10 ((w10.alloc (.cells #[.int .u8 e2] 5)).drew) := (balloc (Below.refl _ w10) _).drew
      obtain ⟨w11, hw11⟩ : ∃ w11, (w10.alloc (.cells #[.int .u8 e2] 5)).drew = w11 := ⟨_, rfl⟩
      rw [hw11] at k11 hzf1 ⊢
      have O9' := own_below O9.out k11
      have HP' := own_below O10.out k11
      obtain ⟨hst, hgr⟩ := O9'.stored k (.string (z ++ D))
      have hP2 := own_row' (w' := w11.setCell ⟨g, k, none⟩ (.string (z ++ D))) HP' (fun x o e => hgr.block x (own_lt HP' x o e) (fun e2 => HPG.out x o e (Option.some.inj e2)))
      have hb2 : Below w1.heap.size w1 (w11.setCell ⟨g, k, none⟩ (.string (z ++ D))) := bset (bnext AC.out k11) hgA _
      rw [show (L.map Value.string).set k (.string (z ++ D)) = (L.set k (z ++ D)).map Value.string from (List.map_set).symm] at hst
      have hzd : (z ++ D).size ≤ 100 := by rw [ByteArray.size_append]; omega
      have HST := Lib.hid hst
      have HP2 := Lib.hid hP2
      have HB2 := Lib.hid hb2
      have hzc1 : w11.cell? ⟨g, k, none⟩ = some (.string z) := (k11.cell (p := ⟨g, k, none⟩) hgw10).trans hzc
      clear hst hgr hP2 hb2 O9' HP' k11 hw11 hcv
      go_wp2_with fail
      go_meet
      refine ⟨y, P, (I : Int), L.set k (z ++ D), M, _, _, rfl, by omega, rfl, by omega, by omega, rfl, by omega, rfl, rfl, row_own HST.out (by rw [List.length_map, List.length_set, HLL.out]), by rw [List.length_set, HLL.out]; omega, ?_, row_own HP2.out (by rw [List.length_map, HMM.out]), by rw [HMM.out]; omega, HM1.out, HB2.out⟩
      intro s hs
      rcases List.mem_or_eq_of_mem_set hs with h | h
      · exact HL1.out s h
      · rw [h]; exact hzd
    · obtain ⟨i0, hif, hz0, hz1, hz2⟩ := info_parts info_string
      have hw8 : w8.heap.size ≤ w10.heap.size := by omega
      go_wp2_with (at_builtin; refine wpList_app _ rfl _ _ 42 rfl w8.heap.size 9 i0 (.string ⟨#[]⟩) 16 Try.underlying42 hif hz0 hz1 hz2 rfl _ _ _ rfl (O9.out.alloc _) _ [.string z] rfl (Src.one (World.cell?_alloc_at _ _ _ _ rfl)) (by simp [Value.oneCell']) ?c1 ?c2 ?c3 ?_)
      case c1 => simp [maxLen] <;> omega
      case c2 => simp <;> omega
      case c3 => simp <;> omega
      intro v' w' hown hgrow _
      have hb' : Below w1.heap.size w1 w' := (balloc AC.out _).grown hgrow (by have := (balloc AC.out (.cells #[.string z] 9)).size; exact this) (fun k e => by cases e; exact hgA)
      have hP2 : w'.ownsRow w9.heap.size 9 1 (.slice pa m pc) m (M.map Value.string) := own_grown (O10.out.alloc _) hgrow (fun k e => by cases e; exact hgw9)
      replace hown : w'.ownsRow w8.heap.size 9 1 v' (L ++ [z]).length ((L ++ [z]).map Value.string) := by rw [List.length_append, HLL.out, List.map_append]; exact hown
      have HO := Lib.hid (row_own hown (by rw [List.length_map]))
      have HP2 := Lib.hid (row_own hP2 (by rw [List.length_map, HMM.out]))
      have HB2 := Lib.hid hb'
      clear hown hgrow hb' hP2
      go_wp2_with fail
      go_meet
      refine ⟨y, P, (I : Int), L ++ [z], M, _, _, rfl, by omega, rfl, by omega, by omega, rfl, by omega, rfl, rfl, HO.out, by rw [List.length_append, HLL.out]; simp, ?_, HP2.out, by rw [HMM.out]; omega, HM1.out, HB2.out⟩
      intro s hs
      rcases List.mem_append.1 hs with h | h
      · exact HL1.out s h
      · rw [List.mem_singleton.1 h]; omega
    · have t4 : e2.tmod 7 = e2 % 7 := Int.tmod_eq_emod_of_nonneg (by have := HBQ.out; omega)
      have hbq := HBQ.out
      go_wp2_with fail
      go_meet
      exact ⟨y, P, e2 % 7 - 1, L, M, _, _, rfl, by omega, rfl, by omega, by omega, rfl, by omega, rfl, rfl, HP9.out, by rw [HLL.out]; omega, HL1.out, HP10.out, by rw [HMM.out]; omega, HM1.out, AC.out⟩
    · obtain ⟨i0, hif, hz0, hz1, hz2⟩ := info_parts info_string
      go_wp2_with (at_builtin; refine wpList_app _ rfl _ _ 42 rfl w9.heap.size 9 i0 (.string ⟨#[]⟩) 16 Try.underlying42 hif hz0 hz1 hz2 rfl _ _ _ rfl (O10.out.alloc _) _ [.string z] rfl (Src.one (World.cell?_alloc_at _ _ _ _ rfl)) (by simp [Value.oneCell']) ?c1 ?c2 ?c3 ?_)
      case c1 => simp [maxLen] <;> omega
      case c2 => simp <;> omega
      case c3 => simp <;> omega
      intro v' w' hown hgrow _
      have hb' : Below w1.heap.size w1 w' := (balloc AC.out _).grown hgrow (by have := (balloc AC.out (.cells #[.string z] 9)).size; exact this) (fun k e => by have := (O10.out.lt k e).1; omega)
      have hL2 : w'.ownsRow w8.heap.size 9 1 (.slice (some ⟨g, 0, none⟩) 18 lc) 18 (L.map Value.string) := own_row (O9.out.alloc _) (hgrow.block g (by simp; omega) (fun e => by have := (O10.out.lt g e.symm).1; omega))
      replace hown : w'.ownsRow w9.heap.size 9 1 v' (M ++ [z]).length ((M ++ [z]).map Value.string) := by rw [List.length_append, HMM.out, List.map_append]; exact hown
      have HO := Lib.hid (row_own hown (by rw [List.length_map]))
      have HL2 := Lib.hid (row_own hL2 (by rw [List.length_map, HLL.out]))
      have HB2 := Lib.hid hb'
      clear hown hgrow hb' hL2
      go_wp2_with fail
      go_meet
      refine ⟨y, P, (I : Int), L, M ++ [z], _, _, rfl, by omega, rfl, by omega, by omega, rfl, by omega, rfl, rfl, HL2.out, by rw [HLL.out]; omega, HL1.out, HO.out, by rw [List.length_append, HMM.out]; simp; omega, ?_, HB2.out⟩
      intro s hs
      rcases List.mem_append.1 hs with h | h
      · exact HM1.out s h
      · rw [List.mem_singleton.1 h]; omega
    · have hcv : Sem.run Try.prog (convert 51 9 (.slice (some ⟨w10.heap.size, 0, none⟩) 1 1)) ((w10.alloc (.cells #[.int .u8 e2] 5)).drew) = .ok (.string (ByteArray.empty.push (UInt8.ofNat e2.toNat))) ((w10.alloc (.cells #[.int .u8 e2] 5)).drew) := conv_d w10 e2
      obtain ⟨D, hD⟩ : ∃ D, ByteArray.empty.push (UInt8.ofNat e2.toNat) = D := ⟨_, rfl⟩
      have hD1 : D.size = 1 := by rw [← hD]; rfl
      rw [hD] at hcv
      clear hD
      have KS : Hid (∀ V, Below w10.heap.size w10 V → V.cell? ⟨A, 4, none⟩ = some (.int .u8 e2)) := Lib.hid fun V hV => (HBX.out V (AC.out.trans (hV.mono AC.out.size))).2.2.2.2
      have hP8i : (P.size : Int) = 8 := by omega
      have hw7 : IntKind.i64.wrap 7 = 7 := rfl
      go_upto_region 24 with fail
      refine wp_region_held_drew (S := (fun w' => w'.cell? ⟨A, 4, none⟩ = some (.int .u8 e2))) (by kernel_rfl) ?_ (fun hHeld => ?_)
      · (refine KS.out _ ?_; (repeat' (first | exact Below.refl _ _ | (with_reducible assumption) | (refine bnext ?_ (by with_reducible assumption)) | (refine balloc ?_ _) | (refine below_drewN ?_ _) | (refine Below.drew ?_))))
      refine wpAnyH_take (i := 0) (oi := { dst := some 125, op := Op.move (Operand.tmp 10), type := 9, pos := "law.go:136", after := #[], guard := none }) (v := ?_) rfl (by kernel_rfl) (by kernel_rfl) (by kernel_rfl) (fun _ _ _ h => h) (Or.inl ⟨by rfl, ?_⟩) (by assumption) ?_
      rotate_left
      · ((intro w hSw; (try dsimp only at hSw); go_simp; (try rw [if_neg (by omega)])); try with_reducible rfl)
      (try simp only [Act.put, List.setIfInBounds_toArray, List.set_cons_zero, List.set_cons_succ])
      refine wpAnyH_take (i := 1) (oi := { dst := some 126, op := Op.move (Operand.tmp 10), type := 9, pos := "law.go:136", after := #[], guard := none }) (v := ?_) rfl (by kernel_rfl) (by kernel_rfl) (by kernel_rfl) (fun _ _ _ h => h) (Or.inl ⟨by rfl, ?_⟩) (by assumption) ?_
      rotate_left
      · ((intro w hSw; (try dsimp only at hSw); go_simp; (try rw [if_neg (by omega)])); try with_reducible rfl)
      (try simp only [Act.put, List.setIfInBounds_toArray, List.set_cons_zero, List.set_cons_succ])
      refine wpAnyH_take (i := 2) (oi := { dst := some 127, op := Op.call { callee := Callee.builtin Builtin.len, args := #[Operand.tmp 126], argTypes := #[9] }, type := 3, pos := "law.go:136", after := #[{ on := 1, ground := Ground.data }], guard := none }) (v := ?_) rfl (by kernel_rfl) (by kernel_rfl) (by kernel_rfl) (fun _ _ _ h => h) (Or.inl ⟨by rfl, ?_⟩) (by assumption) ?_
      rotate_left
      · ((intro w hSw; (try dsimp only at hSw); go_simp; (try rw [if_neg (by omega)])); try with_reducible rfl)
      (try simp only [Act.put, List.setIfInBounds_toArray, List.set_cons_zero, List.set_cons_succ])
      refine wpAnyH_take (i := 3) (oi := { dst := some 128, op := Op.binOp BinOp.sub 3 (Operand.tmp 127) (Operand.const (Value.int IntKind.i64 1)) 3, type := 3, pos := "law.go:136", after := #[{ on := 2, ground := Ground.data }], guard := none }) (v := ?_) rfl (by kernel_rfl) (by kernel_rfl) (by kernel_rfl) (fun _ _ _ h => h) (Or.inl ⟨by rfl, ?_⟩) (by assumption) ?_
      rotate_left
      · ((intro w hSw; (try dsimp only at hSw); go_simp; (try rw [if_neg (by omega)])); try with_reducible rfl)
      (try simp only [Act.put, List.setIfInBounds_toArray, List.set_cons_zero, List.set_cons_succ])
      refine wpAnyH_take (i := 4) (oi := { dst := some 129, op := Op.slice 9 (Operand.tmp 125) none (some (Operand.tmp 128)) none, type := 9, pos := "law.go:136", after := #[{ on := 0, ground := Ground.data }, { on := 3, ground := Ground.data }], guard := none }) (v := ?_) rfl (by kernel_rfl) (by kernel_rfl) (by kernel_rfl) (fun _ _ _ h => h) (Or.inl ⟨by rfl, ?_⟩) (by assumption) ?_
      rotate_left
      · ((intro w hSw; (try dsimp only at hSw); go_simp; (try rw [if_neg (by omega)])); try with_reducible rfl)
      (try simp only [Act.put, List.setIfInBounds_toArray, List.set_cons_zero, List.set_cons_succ])
      refine wpAnyH_take (i := 5) (oi := { dst := some 130, op := Op.indexAddr 48 (Operand.tmp 5) (Operand.const (Value.int IntKind.i64 4)), type := 0, pos := "law.go:136", after := #[], guard := none }) (v := ?_) rfl (by kernel_rfl) (by kernel_rfl) (by kernel_rfl) (fun _ _ _ h => h) (Or.inl ⟨by rfl, ?_⟩) (by assumption) ?_
      rotate_left
      · ((intro w hSw; (try dsimp only at hSw); go_simp; (try rw [if_neg (by omega)])); try with_reducible rfl)
      (try simp only [Act.put, List.setIfInBounds_toArray, List.set_cons_zero, List.set_cons_succ])
      refine wpAnyH_take (i := 6) (oi := { dst := some 131, op := Op.load 5 (Operand.tmp 130), type := 5, pos := "law.go:136", after := #[{ on := 5, ground := Ground.data }], guard := none }) (v := ?_) rfl (by kernel_rfl) (by kernel_rfl) (by kernel_rfl) (fun _ _ _ h => h) (Or.inl ⟨by rfl, ?_⟩) (by assumption) ?_
      rotate_left
      · ((intro w hSw; (try dsimp only at hSw); go_simp; (try rw [if_neg (by omega)])); try with_reducible rfl)
      (try simp only [Act.put, List.setIfInBounds_toArray, List.set_cons_zero, List.set_cons_succ])
      refine wpAnyH_ready (rs := [7]) (by kernel_rfl) (by simp) ?_
      refine AllReadyH.cons (o := { dst := some 132, op := Op.buildSlice 51 1 #[(0, Operand.tmp 131)], type := 51, pos := "law.go:136", after := #[{ on := 6, ground := Ground.data }], guard := none }) rfl (fun K hK => ?_) ?_
      · go_simp
        refine hK.out _ _ ?_ (fun hHeld => ?_)
        · (refine KS.out _ ?_; (repeat' (first | exact Below.refl _ _ | (with_reducible assumption) | (refine bnext ?_ (by with_reducible assumption)) | (refine balloc ?_ _) | (refine below_drewN ?_ _) | (refine Below.drew ?_))))
        clear hK K
        (try simp only [Act.put, List.setIfInBounds_toArray, List.set_cons_zero, List.set_cons_succ])
        refine wpAnyH_ready (rs := [8]) (by kernel_rfl) (by simp) ?_
        refine AllReadyH.cons (o := { dst := some 133, op := Op.convert 51 9 (Operand.tmp 132), type := 9, pos := "law.go:136", after := #[{ on := 7, ground := Ground.data }], guard := none }) rfl (fun K hK => ?_) ?_
        · go_simp
          refine hK.out _ _ ?_ (fun hHeld => ?_)
          · (refine KS.out _ ?_; (repeat' (first | exact Below.refl _ _ | (with_reducible assumption) | (refine bnext ?_ (by with_reducible assumption)) | (refine balloc ?_ _) | (refine below_drewN ?_ _) | (refine Below.drew ?_))))
          clear hK K
          (try simp only [Act.put, List.setIfInBounds_toArray, List.set_cons_zero, List.set_cons_succ])
          refine wpAnyH_take (i := 9) (oi := { dst := some 134, op := Op.binOp BinOp.add 9 (Operand.tmp 129) (Operand.tmp 133) 9, type := 9, pos := "law.go:136", after := #[{ on := 4, ground := Ground.data }, { on := 8, ground := Ground.data }], guard := none }) (v := ?_) rfl (by kernel_rfl) (by kernel_rfl) (by kernel_rfl) (fun _ _ _ h => h) (Or.inl ⟨by rfl, ?_⟩) (by assumption) ?_
          rotate_left
          · ((intro w hSw; (try dsimp only at hSw); go_simp; (try rw [if_neg (by omega)])); try with_reducible rfl)
          (try simp only [Act.put, List.setIfInBounds_toArray, List.set_cons_zero, List.set_cons_succ])
          refine wpAnyH_take (i := 10) (oi := { dst := some 10, op := Op.assign (Operand.tmp 134), type := 9, pos := "law.go:136", after := #[{ on := 9, ground := Ground.data }, { on := 0, ground := Ground.phase }, { on := 1, ground := Ground.phase }, { on := 2, ground := Ground.phase }, { on := 3, ground := Ground.phase }, { on := 4, ground := Ground.phase }, { on := 5, ground := Ground.phase }, { on := 6, ground := Ground.phase }, { on := 7, ground := Ground.phase }, { on := 8, ground := Ground.phase }, { on := 9, ground := Ground.phase }], guard := none }) (v := ?_) rfl (by kernel_rfl) (by kernel_rfl) (by kernel_rfl) (fun _ _ _ h => h) (Or.inl ⟨by rfl, ?_⟩) (by assumption) ?_
          rotate_left
          · ((intro w hSw; (try dsimp only at hSw); go_simp; (try rw [if_neg (by omega)])); try with_reducible rfl)
          (try simp only [Act.put, List.setIfInBounds_toArray, List.set_cons_zero, List.set_cons_succ])
          refine wpAnyH_done (by kernel_rfl) ?_ _
          go_wp2_with fail
          go_meet
          exact ⟨y, P.extract 0 7 ++ D, (I : Int), L, M, _, _, rfl, by omega, rfl, by omega, by omega, rfl, by rw [ByteArray.size_append, ByteArray.size_extract]; omega, rfl, rfl, HP9.out.keep (balloc (Below.refl _ w10) _).drew, by rw [HLL.out]; omega, HL1.out, HP10.out.keep (balloc (Below.refl _ w10) _).drew, by rw [HMM.out]; omega, HM1.out, (balloc AC.out _).drew⟩
        exact AllReadyH.nil
      exact AllReadyH.nil
    · by_cases hm0 : 0 < m
      · have hmi : (0 : Int) < (m : Int) := by omega
        have hm1 : (0 : Int) ≤ (m : Int) - 1 := by omega
        have hm2 : (m : Int) - 1 ≤ (pc : Int) := by omega
        go_wp2_with fail
        go_meet
        refine ⟨y, P, (I : Int), L, M.take (m - 1), _, _, rfl, by omega, rfl, by omega, by omega, rfl, by omega, rfl, rfl, HP9.out, by rw [HLL.out]; omega, HL1.out, ?_, by rw [List.length_take]; omega, fun s hs => HM1.out s (List.mem_of_mem_take hs), AC.out⟩
        rw [List.map_take]
        exact row_first HP10.out (by rw [List.length_map, HMM.out]; omega)
      · have hmi : ¬ (0 : Int) < (m : Int) := by omega
        go_wp2_with fail
        go_meet
        exact ⟨y, P, (I : Int), L, M, _, _, rfl, by omega, rfl, by omega, by omega, rfl, by omega, rfl, rfl, HP9.out, by rw [HLL.out]; omega, HL1.out, HP10.out, by rw [HMM.out]; omega, HM1.out, AC.out⟩
  case rest =>
    obtain ⟨u, P', i', l, p, va, vb, rfl, hu, rfl, hi1, hi2, rfl, hP', rfl, rfl, hva, hl1, hl2, hvb, hp1, hp2, hb⟩ := hcut
    have HVA := Lib.hid hva
    have HVB := Lib.hid hvb
    have HB := Lib.hid hb
    have HPT := Lib.hid (rparts_any i' u15 u16 l p wc ⟨hi1, hi2⟩ hva hvb (fun s hs => by have := hl2 s hs; omega) (by omega) (fun s hs => by have := hp2 s hs; omega) (by omega))
    obtain ⟨t, ht⟩ : ∃ t, SG.parts i' l p = t := ⟨_, rfl⟩
    have ht1 : t.size ≤ 10000 := by rw [← ht]; exact SG.parts_le hl2 hl1 hp2 hp1
    rw [ht] at HPT
    have hZs := W.WP.S_size s
    obtain ⟨Z, hZ1⟩ : ∃ Z, W.WP.S s = Z := ⟨_, rfl⟩
    rw [hZ1] at hZs ⊢
    obtain ⟨r, hr⟩ : ∃ r, Z.size = r := ⟨_, rfl⟩
    have hr1 : 0 < r ∧ r ≤ 10000 := by omega
    have hri : ¬ (r : Int) = 0 := by omega
    have hd2 := HBD.out
    have tm : (d2 * 7).tmod (r : Int) = d2 * 7 % (r : Int) := Int.tmod_eq_emod_of_nonneg (by omega)
    clear hva hvb hb ht hl2 hp2 hZ1 hZs hzc hzf
    go_wp2_with fail
    refine HPT.out.mono ?_
    rintro e w11 ⟨rfl, k11⟩
    have HB11 := Lib.hid (bnext HB.out k11)
    obtain ⟨f0, f1, f2, f3, f4⟩ := HBX.out _ HB11.out
    clear k11 HB
    go_upto_region 30 with fail
    obtain ⟨q, hq⟩ : ∃ q : Nat, d2 * 7 % (r : Int) = (q : Int) := ⟨(d2 * 7 % (r : Int)).toNat, by have := Int.emod_nonneg (d2 * 7) hri; omega⟩
    have hqr : q < r := by have := Int.emod_lt_of_pos (d2 * 7) (show (0 : Int) < r by omega); omega
    rw [hq]
    have hcv : Sem.run Try.prog (convert 51 9 (.slice (some ⟨w11.heap.size, 0, none⟩) 1 1)) ((w11.alloc (.cells #[.int .u8 e2] 5)).drew) = .ok (.string (ByteArray.empty.push (UInt8.ofNat e2.toNat))) ((w11.alloc (.cells #[.int .u8 e2] 5)).drew) := conv_d w11 e2
    obtain ⟨D, hD⟩ : ∃ D, ByteArray.empty.push (UInt8.ofNat e2.toNat) = D := ⟨_, rfl⟩
    have hD1 : D.size = 1 := by rw [← hD]; rfl
    rw [hD] at hcv
    clear hD tm hq
    have KS : Hid (∀ V, Below w11.heap.size w11 V → V.cell? ⟨A, 4, none⟩ = some (.int .u8 e2)) := Lib.hid fun V hV => (HBX.out V (HB11.out.trans (hV.mono HB11.out.size))).2.2.2.2
    have hqi : (q : Int) < (r : Int) := by omega
    have hq0 : (0 : Int) ≤ (q : Int) := by omega
    have hqz : (q : Int) ≤ (Z.size : Int) := by omega
    have hq1 : (0 : Int) ≤ (q : Int) + 1 := by omega
    have hqz1 : (q : Int) + 1 ≤ (Z.size : Int) := by omega
    have hqz2 : (q : Int) + 1 ≤ (r : Int) := by omega
    have hqz3 : (q : Int) ≤ (r : Int) := by omega
    have hqw0 : IntKind.i64.wrap (q : Int) = (q : Int) := by rw [IntKind.wrap_i64]; omega
    have hqw : IntKind.i64.wrap ((q : Int) + 1) = (q : Int) + 1 := by rw [IntKind.wrap_i64]; omega
    refine wp_region_held_drew (S := (fun w' => w'.cell? ⟨A, 4, none⟩ = some (.int .u8 e2))) (by kernel_rfl) ?_ (fun hHeld => ?_)
    · (refine KS.out _ ?_; (repeat' (first | exact Below.refl _ _ | (with_reducible assumption) | (refine bnext ?_ (by with_reducible assumption)) | (refine balloc ?_ _) | (refine below_drewN ?_ _) | (refine Below.drew ?_))))
    refine wpAnyH_take (i := 0) (oi := { dst := some 156, op := Op.move (Operand.tmp 12), type := 9, pos := "law.go:144", after := #[], guard := none }) (v := ?_) rfl (by kernel_rfl) (by kernel_rfl) (by kernel_rfl) (fun _ _ _ h => h) (Or.inl ⟨by rfl, ?_⟩) (by assumption) ?_
    rotate_left
    · ((intro w hSw; (try dsimp only at hSw); go_simp; (try rw [if_neg (by omega)])); try with_reducible rfl)
    (try simp only [Act.put, List.setIfInBounds_toArray, List.set_cons_zero, List.set_cons_succ])
    refine wpAnyH_take (i := 1) (oi := { dst := some 157, op := Op.move (Operand.tmp 18), type := 9, pos := "law.go:144", after := #[], guard := none }) (v := ?_) rfl (by kernel_rfl) (by kernel_rfl) (by kernel_rfl) (fun _ _ _ h => h) (Or.inl ⟨by rfl, ?_⟩) (by assumption) ?_
    rotate_left
    · ((intro w hSw; (try dsimp only at hSw); go_simp; (try rw [if_neg (by omega)])); try with_reducible rfl)
    (try simp only [Act.put, List.setIfInBounds_toArray, List.set_cons_zero, List.set_cons_succ])
    refine wpAnyH_take (i := 2) (oi := { dst := some 158, op := Op.move (Operand.tmp 12), type := 9, pos := "law.go:144", after := #[], guard := none }) (v := ?_) rfl (by kernel_rfl) (by kernel_rfl) (by kernel_rfl) (fun _ _ _ h => h) (Or.inl ⟨by rfl, ?_⟩) (by assumption) ?_
    rotate_left
    · ((intro w hSw; (try dsimp only at hSw); go_simp; (try rw [if_neg (by omega)])); try with_reducible rfl)
    (try simp only [Act.put, List.setIfInBounds_toArray, List.set_cons_zero, List.set_cons_succ])
    refine wpAnyH_take (i := 3) (oi := { dst := some 159, op := Op.move (Operand.tmp 19), type := 3, pos := "law.go:144", after := #[], guard := none }) (v := ?_) rfl (by kernel_rfl) (by kernel_rfl) (by kernel_rfl) (fun _ _ _ h => h) (Or.inl ⟨by rfl, ?_⟩) (by assumption) ?_
    rotate_left
    · ((intro w hSw; (try dsimp only at hSw); go_simp; (try rw [if_neg (by omega)])); try with_reducible rfl)
    (try simp only [Act.put, List.setIfInBounds_toArray, List.set_cons_zero, List.set_cons_succ])
    refine wpAnyH_take (i := 4) (oi := { dst := some 160, op := Op.slice 9 (Operand.tmp 158) none (some (Operand.tmp 159)) none, type := 9, pos := "law.go:144", after := #[{ on := 2, ground := Ground.data }, { on := 3, ground := Ground.data }], guard := none }) (v := ?_) rfl (by kernel_rfl) (by kernel_rfl) (by kernel_rfl) (fun _ _ _ h => h) (Or.inl ⟨by rfl, ?_⟩) (by assumption) ?_
    rotate_left
    · ((intro w hSw; (try dsimp only at hSw); go_simp; (try rw [if_neg (by omega)])); try with_reducible rfl)
    (try simp only [Act.put, List.setIfInBounds_toArray, List.set_cons_zero, List.set_cons_succ])
    refine wpAnyH_take (i := 5) (oi := { dst := some 161, op := Op.indexAddr 48 (Operand.tmp 5) (Operand.const (Value.int IntKind.i64 4)), type := 0, pos := "law.go:144", after := #[], guard := none }) (v := ?_) rfl (by kernel_rfl) (by kernel_rfl) (by kernel_rfl) (fun _ _ _ h => h) (Or.inl ⟨by rfl, ?_⟩) (by assumption) ?_
    rotate_left
    · ((intro w hSw; (try dsimp only at hSw); go_simp; (try rw [if_neg (by omega)])); try with_reducible rfl)
    (try simp only [Act.put, List.setIfInBounds_toArray, List.set_cons_zero, List.set_cons_succ])
    refine wpAnyH_take (i := 6) (oi := { dst := some 162, op := Op.load 5 (Operand.tmp 161), type := 5, pos := "law.go:144", after := #[{ on := 5, ground := Ground.data }], guard := none }) (v := ?_) rfl (by kernel_rfl) (by kernel_rfl) (by kernel_rfl) (fun _ _ _ h => h) (Or.inl ⟨by rfl, ?_⟩) (by assumption) ?_
    rotate_left
    · ((intro w hSw; (try dsimp only at hSw); go_simp; (try rw [if_neg (by omega)])); try with_reducible rfl)
    (try simp only [Act.put, List.setIfInBounds_toArray, List.set_cons_zero, List.set_cons_succ])
    refine wpAnyH_take (i := 10) (oi := { dst := some 166, op := Op.move (Operand.tmp 12), type := 9, pos := "law.go:144", after := #[], guard := none }) (v := ?_) rfl (by kernel_rfl) (by kernel_rfl) (by kernel_rfl) (fun _ _ _ h => h) (Or.inl ⟨by rfl, ?_⟩) (by assumption) ?_
    rotate_left
    · ((intro w hSw; (try dsimp only at hSw); go_simp; (try rw [if_neg (by omega)])); try with_reducible rfl)
    (try simp only [Act.put, List.setIfInBounds_toArray, List.set_cons_zero, List.set_cons_succ])
    refine wpAnyH_take (i := 11) (oi := { dst := some 167, op := Op.move (Operand.tmp 19), type := 3, pos := "law.go:144", after := #[], guard := none }) (v := ?_) rfl (by kernel_rfl) (by kernel_rfl) (by kernel_rfl) (fun _ _ _ h => h) (Or.inl ⟨by rfl, ?_⟩) (by assumption) ?_
    rotate_left
    · ((intro w hSw; (try dsimp only at hSw); go_simp; (try rw [if_neg (by omega)])); try with_reducible rfl)
    (try simp only [Act.put, List.setIfInBounds_toArray, List.set_cons_zero, List.set_cons_succ])
    refine wpAnyH_take (i := 12) (oi := { dst := some 168, op := Op.binOp BinOp.add 3 (Operand.tmp 167) (Operand.const (Value.int IntKind.i64 1)) 3, type := 3, pos := "law.go:144", after := #[{ on := 11, ground := Ground.data }], guard := none }) (v := ?_) rfl (by kernel_rfl) (by kernel_rfl) (by kernel_rfl) (fun _ _ _ h => h) (Or.inl ⟨by rfl, ?_⟩) (by assumption) ?_
    rotate_left
    · ((intro w hSw; (try dsimp only at hSw); go_simp; (try rw [if_neg (by omega)])); try with_reducible rfl)
    (try simp only [Act.put, List.setIfInBounds_toArray, List.set_cons_zero, List.set_cons_succ])
    refine wpAnyH_take (i := 13) (oi := { dst := some 169, op := Op.slice 9 (Operand.tmp 166) (some (Operand.tmp 168)) none none, type := 9, pos := "law.go:144", after := #[{ on := 10, ground := Ground.data }, { on := 12, ground := Ground.data }], guard := none }) (v := ?_) rfl (by kernel_rfl) (by kernel_rfl) (by kernel_rfl) (fun _ _ _ h => h) (Or.inl ⟨by rfl, ?_⟩) (by assumption) ?_
    rotate_left
    · ((intro w hSw; (try dsimp only at hSw); go_simp; (try rw [if_neg (by omega)])); try with_reducible rfl)
    (try simp only [Act.put, List.setIfInBounds_toArray, List.set_cons_zero, List.set_cons_succ])
    refine wpAnyH_take (i := 15) (oi := { dst := some 171, op := Op.move (Operand.tmp 12), type := 9, pos := "law.go:144", after := #[], guard := none }) (v := ?_) rfl (by kernel_rfl) (by kernel_rfl) (by kernel_rfl) (fun _ _ _ h => h) (Or.inl ⟨by rfl, ?_⟩) (by assumption) ?_
    rotate_left
    · ((intro w hSw; (try dsimp only at hSw); go_simp; (try rw [if_neg (by omega)])); try with_reducible rfl)
    (try simp only [Act.put, List.setIfInBounds_toArray, List.set_cons_zero, List.set_cons_succ])
    refine wpAnyH_take (i := 16) (oi := { dst := some 172, op := Op.move (Operand.tmp 12), type := 9, pos := "law.go:144", after := #[], guard := none }) (v := ?_) rfl (by kernel_rfl) (by kernel_rfl) (by kernel_rfl) (fun _ _ _ h => h) (Or.inl ⟨by rfl, ?_⟩) (by assumption) ?_
    rotate_left
    · ((intro w hSw; (try dsimp only at hSw); go_simp; (try rw [if_neg (by omega)])); try with_reducible rfl)
    (try simp only [Act.put, List.setIfInBounds_toArray, List.set_cons_zero, List.set_cons_succ])
    refine wpAnyH_take (i := 17) (oi := { dst := some 173, op := Op.binOp BinOp.add 9 (Operand.tmp 171) (Operand.tmp 172) 9, type := 9, pos := "law.go:144", after := #[{ on := 15, ground := Ground.data }, { on := 16, ground := Ground.data }], guard := none }) (v := ?_) rfl (by kernel_rfl) (by kernel_rfl) (by kernel_rfl) (fun _ _ _ h => h) (Or.inl ⟨by rfl, ?_⟩) (by assumption) ?_
    rotate_left
    · ((intro w hSw; (try dsimp only at hSw); go_simp; (try rw [if_neg (by omega)])); try with_reducible rfl)
    (try simp only [Act.put, List.setIfInBounds_toArray, List.set_cons_zero, List.set_cons_succ])
    refine wpAnyH_take (i := 18) (oi := { dst := some 174, op := Op.move (Operand.tmp 12), type := 9, pos := "law.go:144", after := #[], guard := none }) (v := ?_) rfl (by kernel_rfl) (by kernel_rfl) (by kernel_rfl) (fun _ _ _ h => h) (Or.inl ⟨by rfl, ?_⟩) (by assumption) ?_
    rotate_left
    · ((intro w hSw; (try dsimp only at hSw); go_simp; (try rw [if_neg (by omega)])); try with_reducible rfl)
    (try simp only [Act.put, List.setIfInBounds_toArray, List.set_cons_zero, List.set_cons_succ])
    refine wpAnyH_take (i := 19) (oi := { dst := some 175, op := Op.move (Operand.tmp 19), type := 3, pos := "law.go:144", after := #[], guard := none }) (v := ?_) rfl (by kernel_rfl) (by kernel_rfl) (by kernel_rfl) (fun _ _ _ h => h) (Or.inl ⟨by rfl, ?_⟩) (by assumption) ?_
    rotate_left
    · ((intro w hSw; (try dsimp only at hSw); go_simp; (try rw [if_neg (by omega)])); try with_reducible rfl)
    (try simp only [Act.put, List.setIfInBounds_toArray, List.set_cons_zero, List.set_cons_succ])
    refine wpAnyH_take (i := 20) (oi := { dst := some 176, op := Op.slice 9 (Operand.tmp 174) none (some (Operand.tmp 175)) none, type := 9, pos := "law.go:144", after := #[{ on := 18, ground := Ground.data }, { on := 19, ground := Ground.data }], guard := none }) (v := ?_) rfl (by kernel_rfl) (by kernel_rfl) (by kernel_rfl) (fun _ _ _ h => h) (Or.inl ⟨by rfl, ?_⟩) (by assumption) ?_
    rotate_left
    · ((intro w hSw; (try dsimp only at hSw); go_simp; (try rw [if_neg (by omega)])); try with_reducible rfl)
    (try simp only [Act.put, List.setIfInBounds_toArray, List.set_cons_zero, List.set_cons_succ])
    refine wpAnyH_take (i := 23) (oi := { dst := some 179, op := Op.move (Operand.const (Value.int IntKind.i64 0)), type := 3, pos := "law.go:144", after := #[], guard := none }) (v := ?_) rfl (by kernel_rfl) (by kernel_rfl) (by kernel_rfl) (fun _ _ _ h => h) (Or.inl ⟨by rfl, ?_⟩) (by assumption) ?_
    rotate_left
    · ((intro w hSw; (try dsimp only at hSw); go_simp; (try rw [if_neg (by omega)])); try with_reducible rfl)
    (try simp only [Act.put, List.setIfInBounds_toArray, List.set_cons_zero, List.set_cons_succ])
    refine wpAnyH_ready (rs := [7]) (by kernel_rfl) (by simp) ?_
    refine AllReadyH.cons (o := { dst := some 163, op := Op.buildSlice 51 1 #[(0, Operand.tmp 162)], type := 51, pos := "law.go:144", after := #[{ on := 6, ground := Ground.data }], guard := none }) rfl (fun K hK => ?_) ?_
    · go_simp
      refine hK.out _ _ ?_ (fun hHeld => ?_)
      · (refine KS.out _ ?_; (repeat' (first | exact Below.refl _ _ | (with_reducible assumption) | (refine bnext ?_ (by with_reducible assumption)) | (refine balloc ?_ _) | (refine below_drewN ?_ _) | (refine Below.drew ?_))))
      clear hK K
      (try simp only [Act.put, List.setIfInBounds_toArray, List.set_cons_zero, List.set_cons_succ])
      refine wpAnyH_ready (rs := [8]) (by kernel_rfl) (by simp) ?_
      refine AllReadyH.cons (o := { dst := some 164, op := Op.convert 51 9 (Operand.tmp 163), type := 9, pos := "law.go:144", after := #[{ on := 7, ground := Ground.data }], guard := none }) rfl (fun K hK => ?_) ?_
      · go_simp
        refine hK.out _ _ ?_ (fun hHeld => ?_)
        · (refine KS.out _ ?_; (repeat' (first | exact Below.refl _ _ | (with_reducible assumption) | (refine bnext ?_ (by with_reducible assumption)) | (refine balloc ?_ _) | (refine below_drewN ?_ _) | (refine Below.drew ?_))))
        clear hK K
        (try simp only [Act.put, List.setIfInBounds_toArray, List.set_cons_zero, List.set_cons_succ])
        refine wpAnyH_take (i := 9) (oi := { dst := some 165, op := Op.binOp BinOp.add 9 (Operand.tmp 160) (Operand.tmp 164) 9, type := 9, pos := "law.go:144", after := #[{ on := 4, ground := Ground.data }, { on := 8, ground := Ground.data }], guard := none }) (v := ?_) rfl (by kernel_rfl) (by kernel_rfl) (by kernel_rfl) (fun _ _ _ h => h) (Or.inl ⟨by rfl, ?_⟩) (by assumption) ?_
        rotate_left
        · ((intro w hSw; (try dsimp only at hSw); go_simp; (try rw [if_neg (by omega)])); try with_reducible rfl)
        (try simp only [Act.put, List.setIfInBounds_toArray, List.set_cons_zero, List.set_cons_succ])
        refine wpAnyH_take (i := 14) (oi := { dst := some 170, op := Op.binOp BinOp.add 9 (Operand.tmp 165) (Operand.tmp 169) 9, type := 9, pos := "law.go:144", after := #[{ on := 9, ground := Ground.data }, { on := 13, ground := Ground.data }], guard := none }) (v := ?_) rfl (by kernel_rfl) (by kernel_rfl) (by kernel_rfl) (fun _ _ _ h => h) (Or.inl ⟨by rfl, ?_⟩) (by assumption) ?_
        rotate_left
        · ((intro w hSw; (try dsimp only at hSw); go_simp; (try rw [if_neg (by omega)])); try with_reducible rfl)
        (try simp only [Act.put, List.setIfInBounds_toArray, List.set_cons_zero, List.set_cons_succ])
        refine wpAnyH_ready (rs := [21]) (by kernel_rfl) (by simp) ?_
        refine AllReadyH.cons (o := { dst := some 177, op := Op.buildSlice 42 5 #[(0, Operand.tmp 156), (1, Operand.tmp 157), (2, Operand.tmp 170), (3, Operand.tmp 173), (4, Operand.tmp 176)], type := 42, pos := "law.go:144", after := #[{ on := 0, ground := Ground.data }, { on := 1, ground := Ground.data }, { on := 14, ground := Ground.data }, { on := 17, ground := Ground.data }, { on := 20, ground := Ground.data }], guard := none }) rfl (fun K hK => ?_) ?_
        · go_simp
          refine hK.out _ _ ?_ (fun hHeld => ?_)
          · (refine KS.out _ ?_; (repeat' (first | exact Below.refl _ _ | (with_reducible assumption) | (refine bnext ?_ (by with_reducible assumption)) | (refine balloc ?_ _) | (refine below_drewN ?_ _) | (refine Below.drew ?_))))
          clear hK K
          (try simp only [Act.put, List.setIfInBounds_toArray, List.set_cons_zero, List.set_cons_succ])
          refine wpAnyH_take (i := 22) (oi := { dst := some 178, op := Op.call { callee := Callee.builtin Builtin.len, args := #[Operand.tmp 177], argTypes := #[42] }, type := 3, pos := "law.go:144", after := #[{ on := 21, ground := Ground.data }], guard := none }) (v := ?_) rfl (by kernel_rfl) (by kernel_rfl) (by kernel_rfl) (fun _ _ _ h => h) (Or.inl ⟨by rfl, ?_⟩) (by assumption) ?_
          rotate_left
          · ((intro w hSw; (try dsimp only at hSw); go_simp; (try rw [if_neg (by omega)])); try with_reducible rfl)
          (try simp only [Act.put, List.setIfInBounds_toArray, List.set_cons_zero, List.set_cons_succ])
          refine wpAnyH_done (by kernel_rfl) ?_ _
          obtain ⟨X3, hX3⟩ : ∃ X3, Z.extract 0 q ++ D ++ Z.extract (q + 1) r = X3 := ⟨_, rfl⟩
          have s3 : X3.size ≤ 100000 := by rw [← hX3, ByteArray.size_append, ByteArray.size_append, ByteArray.size_extract, ByteArray.size_extract]; omega
          obtain ⟨X4, hX4⟩ : ∃ X4, Z ++ Z = X4 := ⟨_, rfl⟩
          have s4 : X4.size ≤ 100000 := by rw [← hX4, ByteArray.size_append]; omega
          obtain ⟨X5, hX5⟩ : ∃ X5, Z.extract 0 q = X5 := ⟨_, rfl⟩
          have s5 : X5.size ≤ 100000 := by rw [← hX5, ByteArray.size_extract]; omega
          rw [hX3, hX4]
          rw [hX5]
          obtain ⟨V1, hV1⟩ : ∃ V1, w11.alloc (.cells #[.int .u8 e2] 5) = V1 := ⟨_, rfl⟩
          have hk1 : Below w11.heap.size w11 V1 := by rw [← hV1]; exact balloc (Below.refl _ _) _
          rw [hV1]
          obtain ⟨G, hG⟩ : ∃ G, V1.heap.size = G := ⟨_, rfl⟩
          have h00 := World.alloc_heap_new V1 (.cells #[.string Z, .string t, .string X3, .string X4, .string X5] 9)
          obtain ⟨V2, hV2⟩ : ∃ V2, (V1.alloc (.cells #[.string Z, .string t, .string X3, .string X4, .string X5] 9)).drew = V2 := ⟨_, rfl⟩
          have h0 : V2.heap[G]? = some (.cells #[.string Z, .string t, .string X3, .string X4, .string X5] 9 (0, 0)) := by rw [← hV2, ← hG]; exact h00
          have hk2 : Below w11.heap.size w11 V2 := by rw [← hV2]; exact (balloc hk1 _).drew
          have HC : Hid (∀ V, Below V2.heap.size V2 V → ∀ j, j < 5 → ∃ X : ByteArray, X.size ≤ 100000 ∧ V.cell? ⟨G, j, none⟩ = some (.string X)) := Lib.hid fun V hV j hj => by
            have h1 := (hV.block G (Array.getElem?_eq_some_iff.1 h0).1).trans h0
            have h3 : j = 0 ∨ j = 1 ∨ j = 2 ∨ j = 3 ∨ j = 4 := by omega
            rcases h3 with rfl | rfl | rfl | rfl | rfl
            · exact ⟨Z, by omega, by simp [World.cell?, h1]⟩
            · exact ⟨t, by omega, by simp [World.cell?, h1]⟩
            · exact ⟨X3, s3, by simp [World.cell?, h1]⟩
            · exact ⟨X4, s4, by simp [World.cell?, h1]⟩
            · exact ⟨X5, s5, by simp [World.cell?, h1]⟩
          have hG' : (w11.alloc (.cells #[.int .u8 e2] 5)).heap.size = w11.heap.size + 1 := by simp
          have hGG : w11.heap.size + 1 = G := by rw [← hG', hV1, hG]
          have HB2 := Lib.hid ((bnext HB11.out hk2).trans (Below.refl _ _))
          have HAC := Lib.hid (bnext acc.out (bnext HB11.out hk2))
          rw [hV2]
          (try rw [hGG])
          clear h0 h00 hk1 hk2 hV1 hV2 hX3 hX4 hX5 s3 s4 s5 hcv HB11 hG' hGG hG KS hHeld
          go_wp2_with fail
          go_loopw [179] (fun v wr => ∃ j : Nat, v = .int .i64 (j : Int) ∧ j ≤ 5 ∧ Below V2.heap.size V2 wr) (fun v _ => 5 - (intOf v).toNat)
          case atStart => exact ⟨0, rfl, by omega, Below.refl _ _⟩
          case round =>
            obtain ⟨j, rfl, hj, hb⟩ := hrel
            have HB := Lib.hid hb
            by_cases hj5 : j < 5
            · have hji : (j : Int) < 5 := by omega
              obtain ⟨X, hX, hc⟩ := HC.out wr hb j hj5
              have E1 := Lib.hid (fun V => check_any P' u X V (by omega) (by omega) (by omega))
              have E2 := Lib.hid (fun V => rcheck_any P' u X V (by omega) (by omega) (by omega))
              obtain ⟨y', hy'⟩ : ∃ y', SG.check P' u X = y' := ⟨_, rfl⟩
              rw [hy'] at E1 E2
              have hyy : (y' != y') = false := by simp
              clear hy' hb
              go_wp2_with fail
              refine (E1.out _).mono ?_
              rintro e wa ⟨rfl, ka⟩
              go_wp2_with fail
              refine (E2.out _).mono ?_
              rintro e wb ⟨rfl, kb⟩
              have HB6 := Lib.hid (bnext (bnext HB.out ka) kb)
              clear ka kb hc
              go_wp2
              go_roundw
              case rel => exact ⟨j + 1, by go_num, hj5, HB6.out⟩
              case measure => simp [intOf]; omega
            · obtain rfl : j = 5 := by omega
              go_wp2
              go_ret
              exact ⟨rfl, bnext HAC.out hb⟩
        exact AllReadyH.nil
      exact AllReadyH.nil
    exact AllReadyH.nil

set_option maxRecDepth 100000 in
theorem lifted (os : Os) (started : os.Started) (H : Type) (enc : TypeId × Value → H) :
    ReturnsInHanded {} Try.checked os 7 .any (Rows.signChecksSpec.pre6 enc Try.prog Try.f7 Rows.signChecksRow.domain false) (Rows.signChecksSpec.post enc Try.prog Try.f7 false true false false) := by
  refine returnsInHanded_of_change (C := Try.checked) own started (by kernel_rfl) Try.func7
    (ChangeSpec.witness6 (enc := enc) (C := Try.checked) false ⟨#[], #[.string ByteArray.empty, .string ByteArray.empty, .agg #[.int .u8 0, .int .u8 0, .int .u8 0, .int .u8 0, .int .u8 0]], []⟩ 8 (by kernel_rfl) (by kernel_rfl) (by kernel_rfl) (by kernel_rfl)) ?_
  intro W base args ds gs before hval0 hW hcnd _
  have hval : ∀ (j : Nat) t v, Try.f7.params[j]? = some t → args[j]? = some v → Value.okWide Try.prog W .any base t v := hval0
  have hW' := hW
  obtain ⟨p, q, hA0, hV, rfl, hfz, hnd⟩ := hW
  have hA : DataW.TrodAll enc Try.prog W 0 (fun _ => true) true Try.f7.params.toList args.toList ds p := hA0
  rw [Try.params7] at hA hval
  obtain ⟨v0, vs0, d0, ds0, p0, q0, hargs, rfl, rfl, h0, r0⟩ := trodAll_cons hA
  obtain ⟨v1, vs1, d1, ds1, p1, q1, rfl, rfl, rfl, h1, r1⟩ := trodAll_cons r0
  obtain ⟨v2, vs2, d2, ds2, p2, q2, rfl, rfl, rfl, h2, r2⟩ := trodAll_cons r1
  obtain ⟨rfl, rfl, rfl⟩ := trodAll_nil r2
  obtain rfl : args = #[v0, v1, v2] := by cases args; simp_all
  obtain ⟨rfl, rfl⟩ := trodVars_none hV
  have k0 := h0
  have lt0 : ∀ x ∈ p0, x.block < W.heap.size := by obtain ⟨m, hm⟩ := k0; exact DataW.trod_lt m _ _ _ hm
  have k1 := h1
  have lt1 : ∀ x ∈ p1, x.block < W.heap.size := by obtain ⟨m, hm⟩ := k1; exact DataW.trod_lt m _ _ _ hm
  have k2 := h2
  have lt2 : ∀ x ∈ p2, x.block < W.heap.size := by obtain ⟨m, hm⟩ := k2; exact DataW.trod_lt m _ _ _ hm
  obtain ⟨a0, rfl, rfl, rfl, wa0⟩ := open_string Try.underlying9 (hval 0 9 v0 rfl rfl) h0
  obtain ⟨a1, rfl, rfl, rfl, wa1⟩ := open_string Try.underlying9 (hval 1 9 v1 rfl rfl) h1
  obtain ⟨a2, b2, c2, d2, e2, rfl, wa2, wb2, wc2, wd2, we2⟩ := open_arr5 Try.underlying48 Try.underlying5 (by kernel_rfl) (by kernel_rfl) (hval 2 48 v2 rfl rfl) h2
  clear hA0 hval0
  refine (walk a0 a1 a2 b2 c2 d2 e2 wa0 wa1 wa2 wb2 wc2 wd2 we2 W).mono fun e W' ⟨he, bel⟩ => ?_
  subst he
  exact ⟨_, rfl, _, _, _, [], _, [], hW', trodAll_mk1 (shut_bool Try.underlying4 _), (trodAll_cons_mk (Below.trod laidOut (by kernel_rfl) (of_decide_eq_true (by kernel_rfl)) k0 bel lt0) (trodAll_cons_mk (Below.trod laidOut (by kernel_rfl) (of_decide_eq_true (by kernel_rfl)) k1 bel lt1) (trodAll_cons_mk (Below.trod laidOut (by kernel_rfl) (of_decide_eq_true (by kernel_rfl)) k2 bel lt2) trodAll_mk0))), rfl, bel.frame _, fun h => by cases h⟩

theorem over : Rows.signChecksRow.holds Try.pinned (OpenSpec.ofChange Rows.signChecksSpec) :=
  OpenClaim.holds_of_wide 7 Try.f7 rfl rfl rfl rfl rfl rfl rfl ⟨rfl, rfl, rfl, rfl, rfl⟩ rfl rfl rfl rfl rfl (by kernel_rfl) Try.func7 (by kernel_rfl)
    (of_decide_eq_true (by kernel_rfl)) (by unfold Func.isWrapper; first | (rw [if_pos (by decide +kernel)]; kernel_rfl) | (rw [if_neg (by decide +kernel)]; exact ⟨rfl, rfl⟩))
    (fun os started H enc _ => lifted os started H enc)

end Go.Proofs.Ytinkhgmdeldniaa.signChecks
namespace Go.Proofs.Ytinkhgmdeldniaa
theorem signChecks_proved : Rows.SignChecksSaid := signChecks.over
#print axioms signChecks_proved
end Go.Proofs.Ytinkhgmdeldniaa
