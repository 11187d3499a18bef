/- For all scripts and all times LinesDrains returns true: each message arrives as often as it has copies, late by its delay. No conditions. -/
import Derived.Test.YtgphdgalcbcamaaLn23
namespace Go.Proofs.Ytgphdgalcbcamaa.linesDrains
open Go.ChangeShapes Go.WideShapes Go.ChangeAt Go.RowKit Go.Joins Go.Deep
set_option linter.unusedVariables false

set_option maxRecDepth 100000 in
set_option maxHeartbeats 8000000 in
theorem walk (v0 : Value) (a0 : List Tr) (v1 : Value) (a1 : List Int)  (w : World) (H0 : TrArg w v0 a0) (H1 : RowAt w v1 (a1.map (Value.int .i64))) (L1 : a1.length ≤ maxLen ∧ ∀ a n c, v1 = .slice a n c → n ≤ c) (E1 : ∀ x, x ∈ a1 → -9223372036854775808 ≤ x ∧ x ≤ 9223372036854775807) :
    Calls Try.prog 4 #[v0, v1] w fun e w' => e = .returned (.bool true) ∧ Below w.heap.size w w' := by
  have HM : Hid (∀ V, Below w.heap.size w V → TrArg V v0 a0) := Lib.hid fun V hV => H0.keep hV
  have HT : Hid (∀ V, Below w.heap.size w V → RowAt V v1 (a1.map (Value.int .i64))) := Lib.hid fun V hV => H1.keep hV
  obtain ⟨xa, xc, rfl, -⟩ := H1.out
  rw [List.length_map] at HT ⊢
  obtain ⟨N1, hN1⟩ : ∃ N, a1.length = N := ⟨_, rfl⟩
  rw [hN1] at HT ⊢
  have hNl : N1 ≤ maxLen := by rw [← hN1]; exact L1.1
  unfold maxLen at hNl
  have HNN := Lib.hid hN1
  clear H0 H1 L1 E1 hN1
  go_enter Try.func4, Try.ntmps4
  go_wp2_with fail
  refine (sanity_any _).mono ?_
  rintro e w2 ⟨rfl, k2⟩
  have HB2 := Lib.hid k2
  clear k2
  obtain ⟨T, hT⟩ : ∃ T, a0.take 40 = T := ⟨_, rfl⟩
  obtain ⟨v', hsh, hsrc⟩ := short_any w2 v0 a0 (HM.out _ HB2.out)
  rw [hT] at hsrc
  obtain ⟨n, hn⟩ : ∃ n, T.length = n := ⟨_, rfl⟩
  have hn40 : n ≤ 40 := by rw [← hn, ← hT, List.length_take]; omega
  rw [hn] at hsrc
  have HSH := Lib.hid hsh
  have HNT := Lib.hid hn
  have HS0 : Hid (∀ V, Below w2.heap.size w2 V → SrcN 3 V v' n (trs T)) := Lib.hid fun V hV => hsrc.keep hV
  have HN1 := Lib.hid (new_any w2 2 v' T n hn (by omega) hsrc)
  obtain ⟨sa, sc, hsl, -⟩ := hsrc
  subst hsl
  clear hsh hn hT
  go_upto_region 2 with fail
  go_wp2_with fail
  go_at_call 12
  refine HSH.out.mono ?_
  rintro x wx ⟨rfl, he⟩
  have he' := he.symm
  subst he'
  go_wp2_with fail
  go_at_call 11
  refine HN1.out.mono ?_
  rintro x w5 ⟨M, rfl, hla, hb5⟩
  have hmm := @run_makeMap Try.prog
  go_upto_region 7 with fail
  clear hmm
  have hb6 := balloc (Below.refl _ w5) (.map #[] 0)
  have HDR : Hid (Dr w2 w2.heap.size (w5.alloc (.map #[] 0)) M w5.heap.size T 0 [] 0 (fun _ => .slice none 0 0) (LN.due []) (fun b => b = w5.heap.size)) := Lib.hid ⟨⟨_, hla.below hb6, fun b h e => by omega, fun b h => h.1⟩, MDu.made w5, fun j => ⟨IntsAt.nil _, fun q e => by cases e⟩, rfl, fun b e => by rw [e]; exact ⟨hb5.size, by simp⟩, bnext (bnext (Below.refl _ w2) hb5) hb6, Nat.le_refl _, fun j a n c e => by injection e with _ e1 e2; subst e1 e2; exact ⟨Nat.le_refl _, by simp [maxLen]⟩⟩
  obtain ⟨mb, hmb⟩ : ∃ mb, w5.heap.size = mb := ⟨_, rfl⟩
  obtain ⟨w6, hw6⟩ : ∃ w6, w5.alloc (.map #[] 0) = w6 := ⟨_, rfl⟩
  rw [hmb, hw6] at HDR
  rw [hw6]
  try rw [hmb]
  clear hmb hw6 hb6 hla hb5
  go_loopw [8, 9] (fun v8 v9 wr => ∃ (i N m : Nat) (f : Nat → Value) (H : Nat → Prop), v9 = .int .i64 (i : Int) ∧ v8 = .int .i64 (m : Int) ∧ i ≤ N1 ∧ i ≤ 40 ∧ N ≤ 9 * i ∧ Hid ((DP T a1 i).length = m) ∧ Hid (∀ j, i ≤ j → f j = .slice none 0 0) ∧ Hid (Dr w2 w2.heap.size wr M mb T i (DP T a1 i) N f (LN.due (DP T a1 i)) H)) (fun _ v _ => N1 - (intOf v).toNat)
  case atStart => exact ⟨0, 0, 0, _, _, rfl, rfl, by omega, by omega, by omega, Lib.hid rfl, Lib.hid (fun j _ => rfl), HDR⟩
  case round =>
    clear HDR
    obtain ⟨i, N, m, f, H, rfl, rfl, hi, hi40, hNi, HML, HFN, HD⟩ := hrel
    by_cases hin : i < N1 ∧ i < 40
    · obtain ⟨hin, hi2⟩ := hin
      have hii : (i : Int) < (N1 : Int) := by omega
      have hii2 : (i : Int) < 40 := by omega
      have hi0' : (0 : Int) ≤ (i : Int) := by omega
      obtain ⟨i0, hi0, hz0, hz1, hz2⟩ := info_parts info_int
      obtain ⟨g0, o0, rfl, -, hcell⟩ := (HT.out wr (bnext HB2.out HD.out.bel)).cell (k := i) (by rw [List.length_map, HNN.out]; exact hin)
      have hcell' : wr.cell? ⟨g0, o0 + i, none⟩ = some (.int .i64 (a1.getD i 0)) := by
        rw [hcell, List.getElem_map, List.getD_eq_getElem?_getD, List.getElem?_eq_getElem (by rw [HNN.out]; exact hin)]
        rfl
      obtain ⟨z, hz⟩ : ∃ z, a1.getD i 0 = z := ⟨_, rfl⟩
      obtain ⟨ka, hka⟩ : ∃ t, dAt a1 i = t := ⟨_, rfl⟩
      have hab : 0 ≤ ka ∧ ka < 1000 := by rw [← hka]; unfold dAt; omega
      have hmod := mod_any z 1000 wr (by decide) (by decide)
      rw [show z % 1000 = ka by rw [← hka, ← hz]; rfl] at hmod
      have HMOD := Lib.hid hmod
      have HSP : Hid (sendP T 2 i ka 0 1 (LN.txt i) (DP T a1 i) = DP T a1 (i + 1)) := Lib.hid (by rw [← hka]; rfl)
      have HDN : Hid (LN.due (DP T a1 (i + 1)) i = if (tro T i).l = true then [] else (List.range (clp (tro T i).c 1 9).toNat).map (fun (j : Nat) => ka + clp (tro T i).d 0 1048576 + (j : Int))) := Lib.hid (by rw [DP_due_new, hka, show clp ka 0 1048576 = ka by unfold clp; omega])
      have HDO : Hid (∀ j, j ≠ i → LN.due (DP T a1 (i + 1)) j = LN.due (DP T a1 i) j) := Lib.hid fun j h => DP_due_old T a1 i j h
      have HDZ : Hid (LN.due (DP T a1 i) i = []) := Lib.hid (DP_due_none T a1 i i (Nat.le_refl _))
      have HLN : Hid ((DP T a1 (i + 1)).length = if (tro T i).l = true then m else m + (clp (tro T i).c 1 9).toNat) := Lib.hid (by
        show (sendP T 2 i _ 0 1 _ (DP T a1 i)).length = _
        unfold sendP
        rw [nodes01.1, nodes01.2]
        cases (tro T i).l
        · show (DP T a1 i ++ cps _ i _ _ _ _).length = _
          rw [List.length_append, HML.out]
          simp [cps]
        · exact HML.out)
      have hm360 : m ≤ 360 := by have h1 := (DP_sn T a1 i).len; have h2 := HML.out; omega
      rw [hz] at hcell'
      clear hmod hz hka hcell
      go_wp2_with fail
      go_at_call 17
      refine HMOD.out.mono ?_
      rintro x wx ⟨rfl, he⟩
      have he' := he.symm
      subst he'
      have hu8 := u8_wrap i (by omega)
      have hcv := conv_new wr i
      go_upto_region 11 with fail
      clear hcv hcell'
      have hb1 := balloc (Below.refl _ wr) (.cells #[.int .u8 (i : Int)] 5)
      obtain ⟨w1, hw1⟩ : ∃ w', wr.alloc (.cells #[.int .u8 (i : Int)] 5) = w' := ⟨_, rfl⟩
      rw [hw1] at hb1
      rw [hw1]
      have HB1 := Lib.hid hb1
      clear hw1 hb1
      go_wp2_with fail
      go_at_call 18
      refine (told_any _ _).mono ?_
      rintro x w2' ⟨rfl, dz⟩
      have HB2' := Lib.hid (bnext HB1.out dz)
      clear dz
      go_wp2_with fail
      go_at_call 15
      refine (HD.out.send HB2'.out ka 0 1 (LN.txt i) (by omega) (by have := HML.out; omega)).mono ?_
      rintro x w4 ⟨rfl, hd4, -⟩
      rw [HSP.out] at hd4
      have HD4 := Lib.hid hd4
      clear hd4
      go_upto_region 13 with fail
      have hb5 := balloc (Below.refl _ w4) (.cells #[.bool false, .int .i64 1, .int .i64 0] 43)
      have hx5 := heap_alloc_new w4 (.cells #[.bool false, .int .i64 1, .int .i64 0] 43)
      obtain ⟨X, hX⟩ : ∃ X, w4.heap.size = X := ⟨_, rfl⟩
      obtain ⟨w5, hw5⟩ : ∃ w5, w4.alloc (.cells #[.bool false, .int .i64 1, .int .i64 0] 43) = w5 := ⟨_, rfl⟩
      have HXH : Hid (¬ H X) := Lib.hid fun h => by
        have := (HD4.out.hb X h).2
        omega
      have hd5 := HD4.out.below hb5
      rw [hw5] at hd5 hx5
      rw [hX] at hx5
      try rw [hX]
      try rw [hw5]
      have HD5 := Lib.hid hd5
      have HX5 := Lib.hid hx5
      rw [hw5] at hb5
      have HB5 := Lib.hid hb5
      have HXS := Lib.hid hX
      clear hd5 hx5 hb5 hw5 hX
      obtain ⟨⟨tl, tc, td⟩, ht⟩ : ∃ t, tro T i = t := ⟨_, rfl⟩
      rw [ht] at HDN HLN
      have hcb := clp_bd tc (show (1 : Int) ≤ 9 by decide)
      have hdb := clp_bd td (show (0 : Int) ≤ 1048576 by decide)
      obtain ⟨cn, hcn⟩ : ∃ cn : Nat, clp tc 1 9 = (cn : Int) := ⟨(clp tc 1 9).toNat, by omega⟩
      obtain ⟨dd, hdd⟩ : ∃ dd, clp td 0 1048576 = dd := ⟨_, rfl⟩
      have HCC := Lib.hid fun V => rclamp_any tc 1 9 V
      have HCD := Lib.hid fun V => rclamp_any td 0 1048576 V
      dsimp only at HDN HLN
      rw [hcn] at HCC hcb
      rw [hdd] at HCD hdb HDN
      rw [hcn, Int.toNat_natCast] at HDN HLN
      have hcn9 : cn ≤ 9 := by omega
      clear hcb hcn hdd
      by_cases hkn : i < n
      · have hkz : (i : Int) < (n : Int) := by omega
        have hs1 : SrcN 3 w5 (.slice sa n sc) n (trs T) := HS0.out _ HD5.out.bel
        obtain ⟨g1, o1, rfl, hgl, k0, k1, k2⟩ := tr_at hs1 (t := ⟨tl, tc, td⟩) (by rw [← ht]; unfold tro; rw [List.getD_eq_getElem?_getD, List.getElem?_eq_getElem (by rw [HNT.out]; exact hkn)]; rfl) hkn
        have q0 := nd_cell (i := 0) HX5.out rfl
        have q1 := nd_cell (i := 1) HX5.out rfl
        have q2 := nd_cell (i := 2) HX5.out rfl
        have y0 := nd_froz HX5.out 0
        have y1 := nd_froz HX5.out 1
        have y2 := nd_froz HX5.out 2
        clear hs1
        go_upto_region 15 with fail
        obtain ⟨w6, hw6, hx6, hf6⟩ := set3 HX5.out (.bool tl) (.int .i64 tc) (.int .i64 td)
        have hd6 := HD4.out.below (V' := w6) (by rw [← hw6]; have hz := HXS.out; exact bset (bset (bset HB5.out (by show _ ≤ X; omega) _) (by show _ ≤ X; omega) _) (by show _ ≤ X; omega) _)
        rw [hw6]
        have HD6 := Lib.hid hd6
        have HX6 := Lib.hid hx6
        clear hw6 hx6 hf6 hd6 HD5 HX5 HB5 HD4 q0 q1 q2 y0 y1 y2 k0 k1 k2 hgl hkz ht HD
        have hL0 : LJ i (LN.due (DP T a1 i)) (ka + dd) 0 = LN.due (DP T a1 i) := by
          funext y
          unfold LJ
          by_cases e : y = i
          · rw [if_pos e, e, HDZ.out]
            rfl
          · rw [if_neg e]
        have ho6 : DrO w2 w2.heap.size w6 M mb T (i + 1) (DP T a1 (i + 1)) N f (LJ i (LN.due (DP T a1 i)) (ka + dd) 0) H i 0 := by
          rw [hL0]
          exact HD6.out.none_yet (HFN.out i (Nat.le_refl _)) HDZ.out
        have HO6 := Lib.hid ho6
        clear hL0 ho6 HD6 HDZ HB1 HB2'
        go_upto_region 16 with fail
        go_loopw [8, 13] (fun v8 v13 wr => ∃ (jj N' m' : Nat) (f' : Nat → Value) (H' : Nat → Prop), v13 = .int .i64 (jj : Int) ∧ v8 = .int .i64 (m' : Int) ∧ jj ≤ cn ∧ N' ≤ 9 * i + jj ∧ Hid (m' = m + jj) ∧ m' ≤ 369 ∧ Hid (tl = true → jj = 0) ∧ Hid (∀ j, i + 1 ≤ j → f' j = .slice none 0 0) ∧ Hid (DrO w2 w2.heap.size wr M mb T (i + 1) (DP T a1 (i + 1)) N' f' (LJ i (LN.due (DP T a1 i)) (ka + dd) jj) H' i jj) ∧ Hid (wr.heap[X]? = some (.cells #[.bool tl, .int .i64 tc, .int .i64 td] 43 (0, 0))) ∧ Hid (¬ H' X)) (fun _ v _ => cn - (intOf v).toNat)
        case atStart => exact ⟨0, N, m, f, H, rfl, rfl, by omega, by omega, Lib.hid rfl, by omega, Lib.hid (fun _ => rfl), Lib.hid (fun j hj => HFN.out j (by omega)), HO6, HX6, HXH⟩
        case round =>
          clear HO6 HX6 HXH HFN hNi
          obtain ⟨jj, N', m', f', H', rfl, rfl, hjj, hNN, HMM, hmm, HTL, HFN, HO, HX, HXH⟩ := hrel
          have x0 := nd_cell (i := 0) HX.out rfl
          have x1 := nd_cell (i := 1) HX.out rfl
          by_cases hjc : jj < cn
          · have hjz : (jj : Int) < (cn : Int) := by omega
            cases tl with
            | true =>
              have HLS : Hid ((DP T a1 (i + 1)).length = m') := Lib.hid (by have h1 := HLN.out; have h2 := HMM.out; have h3 := HTL.out rfl; rw [if_pos rfl] at h1; omega)
              have hLL : LJ i (LN.due (DP T a1 i)) (ka + dd) jj = LN.due (DP T a1 (i + 1)) := by
                funext y
                unfold LJ
                by_cases e : y = i
                · rw [if_pos e, e, HDN.out, if_pos rfl, HTL.out rfl]
                  rfl
                · rw [if_neg e, HDO.out y e]
              have hdr := HO.out.dr
              rw [hLL] at hdr
              have HDR := Lib.hid hdr
              have HNM : Hid (N' ≤ 9 * (i + 1)) := Lib.hid (by omega)
              clear hLL hdr
              go_wp2_with fail
              go_at_call 19
              refine (HCC.out _).mono ?_
              rintro x wz ⟨rfl, he⟩
              have he' := he.symm
              subst he'
              go_wp2
              go_roundw
              case rel => exact ⟨i + 1, N', m', f', H', by go_num, rfl, hin, by omega, HNM.out, HLS, HFN, HDR⟩
              case measure => simp [intOf]; omega
            | false =>
              go_wp2_with fail
              go_at_call 19
              refine (HCC.out _).mono ?_
              rintro x wz ⟨rfl, he⟩
              have he' := he.symm
              subst he'
              go_upto_region 18 with fail
              have h0 := HO.out
              obtain ⟨ra, rc, hfi⟩ := own_shape h0.own
              have hlk := h0.dr.map.look i (by omega)
              rw [hfi] at hlk
              have hmbl := h0.dr.map.lt
              have hmH := h0.dr.mbH
              have hro := (h0.dr.row i).2
              rw [hfi] at hro
              have HKS : Hid (∀ V, FrS (fun b => H' b ∧ b ≠ mb) wr V → V.cell? ⟨X, 2, none⟩ = some (.int .i64 td) ∧ (Instr.lookup 38 (.map (some mb)) (.string (LN.txt i)) false).run Try.prog V = .ok (.slice ra jj rc) V) := Lib.hid fun V hV => by
                refine ⟨nd_cell (i := 2) (hV.nd HX.out (fun h => HXH.out h.1)) rfl, ?_⟩
                rw [← hfi]
                exact (h0.dr.map.same (hV.block mb hmbl (fun h => h.2 rfl))).look i (by omega)
              have HRO : Hid (∀ q, (Value.slice ra jj rc).ownBlock = some q → H' q ∧ q ≠ mb) := Lib.hid hro
              have HFI := Lib.hid hfi
              have HWD0 := Below.drew (Below.refl wr.heap.size wr)
              obtain ⟨W0, hW0⟩ : ∃ W0, wr.drew = W0 := ⟨_, rfl⟩
              rw [hW0] at HWD0
              have HWD := Lib.hid HWD0
              have HW0 := Lib.hid hW0
              have hSk := HKS.out W0 (FrS.of HWD0)
              have HXB : Hid (X < wr.heap.size) := Lib.hid (Array.getElem?_eq_some_iff.1 HX.out).1
              have HUU : Hid ((LJ i (LN.due (DP T a1 i)) (ka + dd) jj i).map (Value.int .i64) = (LJ i (LN.due (DP T a1 i)) (ka + dd) jj i).map (Value.int .i64)) := Lib.hid rfl
              have hown0 := h0.own
              rw [hfi] at hown0
              obtain ⟨U, hU⟩ : ∃ U, (LJ i (LN.due (DP T a1 i)) (ka + dd) jj i).map (Value.int .i64) = U := ⟨_, rfl⟩
              rw [hU] at hown0
              have HOW := Lib.hid hown0
              have HU := Lib.hid hU
              have hjj0 : (0 : Int) ≤ (jj : Int) := by omega
              have hj9 : (jj : Int) ≤ 9 := by omega
              have hwr1 : IntKind.i64.wrap (ka + dd) = ka + dd := by rw [IntKind.wrap_i64]; omega
              have hwr2 : IntKind.i64.wrap (ka + dd + (jj : Int)) = ka + dd + (jj : Int) := by rw [IntKind.wrap_i64]; omega
              have HN9 : Hid (N' ≤ 400) := Lib.hid (by omega)
              have HXX := Lib.hid HX.out
              clear h0 hfi hlk hmbl hmH hro HWD0 hW0 HUU hown0 hU x0 x1 hjz HX
              refine wp_region_last #[{ dst := some 73, op := Op.move (Operand.tmp 7), type := 38, pos := "law.go:92", after := #[], guard := none }, { dst := some 74, op := Op.move (Operand.tmp 11), type := 9, pos := "law.go:92", after := #[], guard := none }, { dst := some 75, op := Op.move (Operand.tmp 7), type := 38, pos := "law.go:92", after := #[], guard := none }, { dst := some 76, op := Op.move (Operand.tmp 11), type := 9, pos := "law.go:92", after := #[], guard := none }, { dst := some 77, op := Op.lookup 38 (Operand.tmp 75) (Operand.tmp 76) false, type := 37, pos := "law.go:92", after := #[{ on := 2, ground := Ground.data }, { on := 3, ground := Ground.data }], guard := none }, { dst := some 78, op := Op.move (Operand.tmp 10), type := 3, pos := "law.go:92", after := #[], guard := none }, { dst := some 79, op := Op.fieldAddr 43 (Operand.tmp 12) 2, type := 0, pos := "law.go:92", after := #[], guard := none }, { dst := some 80, op := Op.load 3 (Operand.tmp 79), type := 3, pos := "law.go:92", after := #[{ on := 6, ground := Ground.data }], guard := none }, { dst := some 81, op := Op.call { callee := Callee.value (Operand.func 19), args := #[Operand.tmp 80, Operand.const (Value.int IntKind.i64 0), Operand.const (Value.int IntKind.i64 1048576)], argTypes := #[3, 3, 3] }, type := 3, pos := "law.go:92", after := #[{ on := 7, ground := Ground.data }], guard := none }, { dst := some 82, op := Op.binOp BinOp.add 3 (Operand.tmp 78) (Operand.tmp 81) 3, type := 3, pos := "law.go:92", after := #[{ on := 5, ground := Ground.data }, { on := 8, ground := Ground.data }], guard := none }, { dst := some 83, op := Op.move (Operand.tmp 13), type := 3, pos := "law.go:92", after := #[], guard := none }, { dst := some 84, op := Op.binOp BinOp.add 3 (Operand.tmp 82) (Operand.tmp 83) 3, type := 3, pos := "law.go:92", after := #[{ on := 9, ground := Ground.data }, { on := 10, ground := Ground.data }], guard := none }, { dst := some 85, op := Op.buildSlice 37 1 #[(0, Operand.tmp 84)], type := 37, pos := "law.go:92", after := #[{ on := 11, ground := Ground.data }], guard := none }, { dst := some 86, op := Op.call { callee := Callee.builtin Builtin.append, args := #[Operand.tmp 77, Operand.tmp 85], argTypes := #[37, 37] }, type := 37, pos := "law.go:92", after := #[{ on := 4, ground := Ground.data }, { on := 12, ground := Ground.data }, { on := 8, ground := Ground.chain }], guard := none }] { dst := none, op := Op.mapUpdate 38 (Operand.tmp 73) (Operand.tmp 74) (Operand.tmp 86), type := 0, pos := "law.go:92", after := #[{ on := 0, ground := Ground.data }, { on := 1, ground := Ground.data }, { on := 13, ground := Ground.data }, { on := 13, ground := Ground.chain }, { on := 0, ground := Ground.phase }, { on := 1, ground := Ground.phase }, { on := 2, ground := Ground.phase }, { on := 3, ground := Ground.phase }, { on := 4, ground := Ground.phase }, { on := 5, ground := Ground.phase }, { on := 6, ground := Ground.phase }, { on := 7, ground := Ground.phase }, { on := 8, ground := Ground.phase }, { on := 9, ground := Ground.phase }, { on := 10, ground := Ground.phase }, { on := 11, ground := Ground.phase }, { on := 12, ground := Ground.phase }, { on := 13, ground := Ground.phase }], guard := none } rfl (by kernel_rfl) (by kernel_rfl) ((fun w' => w'.cell? ⟨X, 2, none⟩ = some (.int .i64 td) ∧ (Instr.lookup 38 (.map (some mb)) (.string (LN.txt i)) false).run Try.prog w' = .ok (.slice ra jj rc) w')) ?_ (fun hHeld => ?_)
              · (rw [HW0.out]; exact hSk)
              rw [HW0.out] at hHeld ⊢
              refine wpAnyH_take (i := 0) (oi := { dst := some 73, op := Op.move (Operand.tmp 7), type := 38, pos := "law.go:92", after := #[], guard := none }) (v := ?_) rfl (by kernel_rfl) (by kernel_rfl) (by kernel_rfl) (fun _ _ _ h => h) (Or.inl ⟨by rfl, ?_⟩) (by assumption) ?_
              rotate_left
              · ((intro w hSw; (try dsimp only at hSw); go_simp; (try rw [if_neg (by omega)])); try with_reducible rfl)
              (try simp only [Act.put, List.setIfInBounds_toArray, List.set_cons_zero, List.set_cons_succ])
              refine wpAnyH_take (i := 1) (oi := { dst := some 74, op := Op.move (Operand.tmp 11), type := 9, pos := "law.go:92", after := #[], guard := none }) (v := ?_) rfl (by kernel_rfl) (by kernel_rfl) (by kernel_rfl) (fun _ _ _ h => h) (Or.inl ⟨by rfl, ?_⟩) (by assumption) ?_
              rotate_left
              · ((intro w hSw; (try dsimp only at hSw); go_simp; (try rw [if_neg (by omega)])); try with_reducible rfl)
              (try simp only [Act.put, List.setIfInBounds_toArray, List.set_cons_zero, List.set_cons_succ])
              refine wpAnyH_take (i := 2) (oi := { dst := some 75, op := Op.move (Operand.tmp 7), type := 38, pos := "law.go:92", after := #[], guard := none }) (v := ?_) rfl (by kernel_rfl) (by kernel_rfl) (by kernel_rfl) (fun _ _ _ h => h) (Or.inl ⟨by rfl, ?_⟩) (by assumption) ?_
              rotate_left
              · ((intro w hSw; (try dsimp only at hSw); go_simp; (try rw [if_neg (by omega)])); try with_reducible rfl)
              (try simp only [Act.put, List.setIfInBounds_toArray, List.set_cons_zero, List.set_cons_succ])
              refine wpAnyH_take (i := 3) (oi := { dst := some 76, op := Op.move (Operand.tmp 11), type := 9, pos := "law.go:92", after := #[], guard := none }) (v := ?_) rfl (by kernel_rfl) (by kernel_rfl) (by kernel_rfl) (fun _ _ _ h => h) (Or.inl ⟨by rfl, ?_⟩) (by assumption) ?_
              rotate_left
              · ((intro w hSw; (try dsimp only at hSw); go_simp; (try rw [if_neg (by omega)])); try with_reducible rfl)
              (try simp only [Act.put, List.setIfInBounds_toArray, List.set_cons_zero, List.set_cons_succ])
              refine wpAnyH_take (i := 4) (oi := { dst := some 77, op := Op.lookup 38 (Operand.tmp 75) (Operand.tmp 76) false, type := 37, pos := "law.go:92", after := #[{ on := 2, ground := Ground.data }, { on := 3, ground := Ground.data }], guard := none }) (v := ?_) rfl (by kernel_rfl) (by kernel_rfl) (by kernel_rfl) (fun _ _ _ h => h) (Or.inl ⟨by rfl, ?_⟩) (by assumption) ?_
              rotate_left
              · ((intro w hSw; (try dsimp only at hSw); go_simp; (try rw [if_neg (by omega)])); try with_reducible rfl)
              (try simp only [Act.put, List.setIfInBounds_toArray, List.set_cons_zero, List.set_cons_succ])
              refine wpAnyH_take (i := 5) (oi := { dst := some 78, op := Op.move (Operand.tmp 10), type := 3, pos := "law.go:92", after := #[], guard := none }) (v := ?_) rfl (by kernel_rfl) (by kernel_rfl) (by kernel_rfl) (fun _ _ _ h => h) (Or.inl ⟨by rfl, ?_⟩) (by assumption) ?_
              rotate_left
              · ((intro w hSw; (try dsimp only at hSw); go_simp; (try rw [if_neg (by omega)])); try with_reducible rfl)
              (try simp only [Act.put, List.setIfInBounds_toArray, List.set_cons_zero, List.set_cons_succ])
              refine wpAnyH_take (i := 6) (oi := { dst := some 79, op := Op.fieldAddr 43 (Operand.tmp 12) 2, type := 0, pos := "law.go:92", after := #[], guard := none }) (v := ?_) rfl (by kernel_rfl) (by kernel_rfl) (by kernel_rfl) (fun _ _ _ h => h) (Or.inl ⟨by rfl, ?_⟩) (by assumption) ?_
              rotate_left
              · ((intro w hSw; (try dsimp only at hSw); go_simp; (try rw [if_neg (by omega)])); try with_reducible rfl)
              (try simp only [Act.put, List.setIfInBounds_toArray, List.set_cons_zero, List.set_cons_succ])
              refine wpAnyH_take (i := 7) (oi := { dst := some 80, op := Op.load 3 (Operand.tmp 79), type := 3, pos := "law.go:92", after := #[{ on := 6, ground := Ground.data }], guard := none }) (v := ?_) rfl (by kernel_rfl) (by kernel_rfl) (by kernel_rfl) (fun _ _ _ h => h) (Or.inl ⟨by rfl, ?_⟩) (by assumption) ?_
              rotate_left
              · ((intro w hSw; (try dsimp only at hSw); go_simp; (try rw [if_neg (by omega)])); try with_reducible rfl)
              (try simp only [Act.put, List.setIfInBounds_toArray, List.set_cons_zero, List.set_cons_succ])
              refine wpAnyH_take (i := 10) (oi := { dst := some 83, op := Op.move (Operand.tmp 13), type := 3, pos := "law.go:92", after := #[], guard := none }) (v := ?_) rfl (by kernel_rfl) (by kernel_rfl) (by kernel_rfl) (fun _ _ _ h => h) (Or.inl ⟨by rfl, ?_⟩) (by assumption) ?_
              rotate_left
              · ((intro w hSw; (try dsimp only at hSw); go_simp; (try rw [if_neg (by omega)])); try with_reducible rfl)
              (try simp only [Act.put, List.setIfInBounds_toArray, List.set_cons_zero, List.set_cons_succ])
              refine wpAnyH_ready (rs := [8]) (by kernel_rfl) (by simp) ?_
              refine AllReadyH.cons (o := { dst := some 81, op := Op.call { callee := Callee.value (Operand.func 19), args := #[Operand.tmp 80, Operand.const (Value.int IntKind.i64 0), Operand.const (Value.int IntKind.i64 1048576)], argTypes := #[3, 3, 3] }, type := 3, pos := "law.go:92", after := #[{ on := 7, ground := Ground.data }], guard := none }) rfl (fun K hK => ?_) AllReadyH.nil
              (go_simp; go_at_call 19; refine (HCD.out _).mono ?_; rintro u wz ⟨rfl, he⟩; have he' := he.symm; subst he'; dsimp only)
              refine hK.out _ _ ?_ (fun hHeld => ?_)
              · exact hSk
              clear hK K
              (try simp only [Act.put, List.setIfInBounds_toArray, List.set_cons_zero, List.set_cons_succ])
              refine wpAnyH_take (i := 9) (oi := { dst := some 82, op := Op.binOp BinOp.add 3 (Operand.tmp 78) (Operand.tmp 81) 3, type := 3, pos := "law.go:92", after := #[{ on := 5, ground := Ground.data }, { on := 8, ground := Ground.data }], guard := none }) (v := ?_) rfl (by kernel_rfl) (by kernel_rfl) (by kernel_rfl) (fun _ _ _ h => h) (Or.inl ⟨by rfl, ?_⟩) (by assumption) ?_
              rotate_left
              · ((intro w hSw; (try dsimp only at hSw); go_simp; (try rw [if_neg (by omega)])); try with_reducible rfl)
              (try simp only [Act.put, List.setIfInBounds_toArray, List.set_cons_zero, List.set_cons_succ])
              refine wpAnyH_take (i := 11) (oi := { dst := some 84, op := Op.binOp BinOp.add 3 (Operand.tmp 82) (Operand.tmp 83) 3, type := 3, pos := "law.go:92", after := #[{ on := 9, ground := Ground.data }, { on := 10, ground := Ground.data }], guard := none }) (v := ?_) rfl (by kernel_rfl) (by kernel_rfl) (by kernel_rfl) (fun _ _ _ h => h) (Or.inl ⟨by rfl, ?_⟩) (by assumption) ?_
              rotate_left
              · ((intro w hSw; (try dsimp only at hSw); go_simp; (try rw [if_neg (by omega)])); try with_reducible rfl)
              (try simp only [Act.put, List.setIfInBounds_toArray, List.set_cons_zero, List.set_cons_succ])
              refine wpAnyH_ready (rs := [12]) (by kernel_rfl) (by simp) ?_
              refine AllReadyH.cons (o := { dst := some 85, op := Op.buildSlice 37 1 #[(0, Operand.tmp 84)], type := 37, pos := "law.go:92", after := #[{ on := 11, ground := Ground.data }], guard := none }) rfl (fun K hK => ?_) AllReadyH.nil
              (go_simp; obtain ⟨wb, hwb⟩ : ∃ wb, W0.alloc (.cells #[.int .i64 (ka + dd + (jj : Int))] 3) = wb := ⟨_, rfl⟩; have hbb := balloc HWD.out (.cells #[.int .i64 (ka + dd + (jj : Int))] 3); have hsrc := srcN_new W0 [.int .i64 (ka + dd + (jj : Int))] 3 1 1 1 rfl; change SrcN 1 (W0.alloc (.cells #[.int .i64 (ka + dd + (jj : Int))] 3)) _ _ _ at hsrc; rw [hwb] at hbb hsrc ⊢; have HBB := Lib.hid hbb; have HSRC := Lib.hid hsrc; have hSk := HKS.out wb (FrS.of hbb); clear hbb hsrc hwb)
              refine hK.out _ _ ?_ (fun hHeld => ?_)
              · exact hSk
              clear hK K
              (try simp only [Act.put, List.setIfInBounds_toArray, List.set_cons_zero, List.set_cons_succ])
              refine wpAnyH_ready (rs := [13]) (by kernel_rfl) (by simp) ?_
              refine AllReadyH.cons (o := { dst := some 86, op := Op.call { callee := Callee.builtin Builtin.append, args := #[Operand.tmp 77, Operand.tmp 85], argTypes := #[37, 37] }, type := 37, pos := "law.go:92", after := #[{ on := 4, ground := Ground.data }, { on := 12, ground := Ground.data }, { on := 8, ground := Ground.chain }], guard := none }) rfl (fun K hK => ?_) AllReadyH.nil
              (refine step_appN (by rfl) _ _ _ (by rfl) 0 3 i0 _ 1 8 Try.underlying37 hi0 hz0 hz1 hz2 rfl (by decide) (.slice ra jj rc) jj U (by rfl) (own_below HOW.out HBB.out) _ 1 [.int .i64 (ka + dd + (jj : Int))] (by rfl) HSRC.out (by simp [Value.oneCell']) (by unfold maxLen; omega) (by omega) (Nat.zero_le _) ?_; intro v' w9 hown9 hgrow hat; have hSk := HKS.out w9 ((FrS.of HBB.out).trans (FrS.grown hgrow (fun r e => HRO.out r e))); have HG9 := Lib.hid hgrow; have HO9 := Lib.hid hown9; have HAT := Lib.hid hat; clear hown9 hgrow hat)
              refine hK.out _ _ ?_ (fun hHeld => ?_)
              · exact hSk
              clear hK K
              (try simp only [Act.put, List.setIfInBounds_toArray, List.set_cons_zero, List.set_cons_succ])
              have hdo := HO.out.below HBB.out
              have hap := hdo.app (by omega) (by have := HN9.out; omega) (ka + dd + (jj : Int)) v' (V' := w9) (by rw [HU.out]; exact HO9.out) (by rw [HFI.out]; exact HG9.out) (by rw [HFI.out]; exact HAT.out)
              obtain ⟨w10, hput, ho2, hfr⟩ := hap
              have HPUT := Lib.hid hput
              have hLJ : (fun y => if y = i then LJ i (LN.due (DP T a1 i)) (ka + dd) jj i ++ [ka + dd + (jj : Int)] else LJ i (LN.due (DP T a1 i)) (ka + dd) jj y) = LJ i (LN.due (DP T a1 i)) (ka + dd) (jj + 1) := by
                funext y
                unfold LJ
                by_cases e : y = i
                · rw [if_pos e, if_pos rfl, if_pos e, List.range_succ, List.map_append]
                  rfl
                · rw [if_neg e, if_neg e, if_neg e]
              rw [hLJ] at ho2
              have HO2 := Lib.hid ho2
              have HX2 : Hid (w10.heap[X]? = some (.cells #[.bool false, .int .i64 tc, .int .i64 td] 43 (0, 0))) := Lib.hid (hfr.nd ((HBB.out.block X HXB.out).trans HXX.out) HXH.out)
              have HXH2 : Hid (¬ (H' X ∨ v'.ownBlock = some X)) := Lib.hid fun h => by
                rcases h with h | h
                · exact HXH.out h
                · rcases HAT.out with h1 | h1
                  · exact HXH.out (HRO.out X (h1.symm.trans h)).1
                  · rw [h1] at h
                    have h2 := Option.some.inj h
                    have h3 := HXB.out
                    have h4 := HBB.out.size
                    omega
              have HFN' : Hid (∀ j, i + 1 ≤ j → (if j = i then v' else f' j) = .slice none 0 0) := Lib.hid fun j hj => by rw [if_neg (by omega)]; exact HFN.out j hj
              have hput := HPUT.out
              clear hdo hLJ ho2 hfr HWD
              refine wpAnyH_done (by kernel_rfl) ?_ _
              show Oper.wp _ _ _ _ _ _
              have hput := HPUT.out
              clear hHeld
              go_wp2
              go_roundw
              case rel => exact ⟨jj + 1, N' + 1, m' + 1, _, _, by go_num, by go_num, hjc, by omega, Lib.hid (by have := HMM.out; omega), by have h1 := HMM.out; omega, Lib.hid (fun e => by cases e), HFN', HO2, HX2, HXH2⟩
              case measure => simp [intOf]; omega
          · obtain rfl : jj = cn := by omega
            have hjz : ¬ (jj : Int) < (jj : Int) := by omega
            have HLS : Hid ((DP T a1 (i + 1)).length = m') := Lib.hid (by
              have h1 := HLN.out; have h2 := HMM.out
              cases tl with
              | true => have h3 := HTL.out rfl; rw [if_pos rfl] at h1; omega
              | false => rw [if_neg Bool.false_ne_true] at h1; omega)
            have hLL : LJ i (LN.due (DP T a1 i)) (ka + dd) jj = LN.due (DP T a1 (i + 1)) := by
              funext y
              unfold LJ
              by_cases e : y = i
              · rw [if_pos e, e, HDN.out]
                cases tl with
                | true => rw [if_pos rfl, HTL.out rfl]; rfl
                | false => rw [if_neg Bool.false_ne_true]
              · rw [if_neg e, HDO.out y e]
            have hdr := HO.out.dr
            rw [hLL] at hdr
            have HDR := Lib.hid hdr
            have HNM : Hid (N' ≤ 9 * (i + 1)) := Lib.hid (by omega)
            clear hLL hdr
            go_wp2_with fail
            go_at_call 19
            refine (HCC.out _).mono ?_
            rintro x wz ⟨rfl, he⟩
            have he' := he.symm
            subst he'
            go_wp2
            go_roundw
            case rel => exact ⟨i + 1, N', m', f', H', by go_num, rfl, hin, by omega, HNM.out, HLS, HFN, HDR⟩
            case measure => simp [intOf]; omega
      · have hkz : ¬ (i : Int) < (n : Int) := by omega
        have ht2 : tro T i = ⟨false, 1, 0⟩ := by unfold tro; rw [List.getD_eq_getElem?_getD, List.getElem?_eq_none (by rw [HNT.out]; omega)]; rfl
        rw [ht] at ht2
        injection ht2 with e1 e2 e3
        obtain ⟨w6, hw6⟩ : ∃ w6, w6 = w5 := ⟨_, rfl⟩
        subst hw6
        have HD6 := HD5
        have HX6 : Hid (w6.heap[X]? = some (.cells #[.bool tl, .int .i64 tc, .int .i64 td] 43 (0, 0))) := Lib.hid (by rw [e1, e2, e3]; exact HX5.out)
        clear HD5 HX5 HB5 HD4 ht HD e1 e2 e3
        go_upto_region 15 with fail
        clear hkz
        have hL0 : LJ i (LN.due (DP T a1 i)) (ka + dd) 0 = LN.due (DP T a1 i) := by
          funext y
          unfold LJ
          by_cases e : y = i
          · rw [if_pos e, e, HDZ.out]
            rfl
          · rw [if_neg e]
        have ho6 : DrO w2 w2.heap.size w6 M mb T (i + 1) (DP T a1 (i + 1)) N f (LJ i (LN.due (DP T a1 i)) (ka + dd) 0) H i 0 := by
          rw [hL0]
          exact HD6.out.none_yet (HFN.out i (Nat.le_refl _)) HDZ.out
        have HO6 := Lib.hid ho6
        clear hL0 ho6 HD6 HDZ HB1 HB2'
        go_upto_region 16 with fail
        go_loopw [8, 13] (fun v8 v13 wr => ∃ (jj N' m' : Nat) (f' : Nat → Value) (H' : Nat → Prop), v13 = .int .i64 (jj : Int) ∧ v8 = .int .i64 (m' : Int) ∧ jj ≤ cn ∧ N' ≤ 9 * i + jj ∧ Hid (m' = m + jj) ∧ m' ≤ 369 ∧ Hid (tl = true → jj = 0) ∧ Hid (∀ j, i + 1 ≤ j → f' j = .slice none 0 0) ∧ Hid (DrO w2 w2.heap.size wr M mb T (i + 1) (DP T a1 (i + 1)) N' f' (LJ i (LN.due (DP T a1 i)) (ka + dd) jj) H' i jj) ∧ Hid (wr.heap[X]? = some (.cells #[.bool tl, .int .i64 tc, .int .i64 td] 43 (0, 0))) ∧ Hid (¬ H' X)) (fun _ v _ => cn - (intOf v).toNat)
        case atStart => exact ⟨0, N, m, f, H, rfl, rfl, by omega, by omega, Lib.hid rfl, by omega, Lib.hid (fun _ => rfl), Lib.hid (fun j hj => HFN.out j (by omega)), HO6, HX6, HXH⟩
        case round =>
          clear HO6 HX6 HXH HFN hNi
          obtain ⟨jj, N', m', f', H', rfl, rfl, hjj, hNN, HMM, hmm, HTL, HFN, HO, HX, HXH⟩ := hrel
          have x0 := nd_cell (i := 0) HX.out rfl
          have x1 := nd_cell (i := 1) HX.out rfl
          by_cases hjc : jj < cn
          · have hjz : (jj : Int) < (cn : Int) := by omega
            cases tl with
            | true =>
              have HLS : Hid ((DP T a1 (i + 1)).length = m') := Lib.hid (by have h1 := HLN.out; have h2 := HMM.out; have h3 := HTL.out rfl; rw [if_pos rfl] at h1; omega)
              have hLL : LJ i (LN.due (DP T a1 i)) (ka + dd) jj = LN.due (DP T a1 (i + 1)) := by
                funext y
                unfold LJ
                by_cases e : y = i
                · rw [if_pos e, e, HDN.out, if_pos rfl, HTL.out rfl]
                  rfl
                · rw [if_neg e, HDO.out y e]
              have hdr := HO.out.dr
              rw [hLL] at hdr
              have HDR := Lib.hid hdr
              have HNM : Hid (N' ≤ 9 * (i + 1)) := Lib.hid (by omega)
              clear hLL hdr
              go_wp2_with fail
              go_at_call 19
              refine (HCC.out _).mono ?_
              rintro x wz ⟨rfl, he⟩
              have he' := he.symm
              subst he'
              go_wp2
              go_roundw
              case rel => exact ⟨i + 1, N', m', f', H', by go_num, rfl, hin, by omega, HNM.out, HLS, HFN, HDR⟩
              case measure => simp [intOf]; omega
            | false =>
              go_wp2_with fail
              go_at_call 19
              refine (HCC.out _).mono ?_
              rintro x wz ⟨rfl, he⟩
              have he' := he.symm
              subst he'
              go_upto_region 18 with fail
              have h0 := HO.out
              obtain ⟨ra, rc, hfi⟩ := own_shape h0.own
              have hlk := h0.dr.map.look i (by omega)
              rw [hfi] at hlk
              have hmbl := h0.dr.map.lt
              have hmH := h0.dr.mbH
              have hro := (h0.dr.row i).2
              rw [hfi] at hro
              have HKS : Hid (∀ V, FrS (fun b => H' b ∧ b ≠ mb) wr V → V.cell? ⟨X, 2, none⟩ = some (.int .i64 td) ∧ (Instr.lookup 38 (.map (some mb)) (.string (LN.txt i)) false).run Try.prog V = .ok (.slice ra jj rc) V) := Lib.hid fun V hV => by
                refine ⟨nd_cell (i := 2) (hV.nd HX.out (fun h => HXH.out h.1)) rfl, ?_⟩
                rw [← hfi]
                exact (h0.dr.map.same (hV.block mb hmbl (fun h => h.2 rfl))).look i (by omega)
              have HRO : Hid (∀ q, (Value.slice ra jj rc).ownBlock = some q → H' q ∧ q ≠ mb) := Lib.hid hro
              have HFI := Lib.hid hfi
              have HWD0 := Below.drew (Below.refl wr.heap.size wr)
              obtain ⟨W0, hW0⟩ : ∃ W0, wr.drew = W0 := ⟨_, rfl⟩
              rw [hW0] at HWD0
              have HWD := Lib.hid HWD0
              have HW0 := Lib.hid hW0
              have hSk := HKS.out W0 (FrS.of HWD0)
              have HXB : Hid (X < wr.heap.size) := Lib.hid (Array.getElem?_eq_some_iff.1 HX.out).1
              have HUU : Hid ((LJ i (LN.due (DP T a1 i)) (ka + dd) jj i).map (Value.int .i64) = (LJ i (LN.due (DP T a1 i)) (ka + dd) jj i).map (Value.int .i64)) := Lib.hid rfl
              have hown0 := h0.own
              rw [hfi] at hown0
              obtain ⟨U, hU⟩ : ∃ U, (LJ i (LN.due (DP T a1 i)) (ka + dd) jj i).map (Value.int .i64) = U := ⟨_, rfl⟩
              rw [hU] at hown0
              have HOW := Lib.hid hown0
              have HU := Lib.hid hU
              have hjj0 : (0 : Int) ≤ (jj : Int) := by omega
              have hj9 : (jj : Int) ≤ 9 := by omega
              have hwr1 : IntKind.i64.wrap (ka + dd) = ka + dd := by rw [IntKind.wrap_i64]; omega
              have hwr2 : IntKind.i64.wrap (ka + dd + (jj : Int)) = ka + dd + (jj : Int) := by rw [IntKind.wrap_i64]; omega
              have HN9 : Hid (N' ≤ 400) := Lib.hid (by omega)
              have HXX := Lib.hid HX.out
              clear h0 hfi hlk hmbl hmH hro HWD0 hW0 HUU hown0 hU x0 x1 hjz HX
              refine wp_region_last #[{ dst := some 73, op := Op.move (Operand.tmp 7), type := 38, pos := "law.go:92", after := #[], guard := none }, { dst := some 74, op := Op.move (Operand.tmp 11), type := 9, pos := "law.go:92", after := #[], guard := none }, { dst := some 75, op := Op.move (Operand.tmp 7), type := 38, pos := "law.go:92", after := #[], guard := none }, { dst := some 76, op := Op.move (Operand.tmp 11), type := 9, pos := "law.go:92", after := #[], guard := none }, { dst := some 77, op := Op.lookup 38 (Operand.tmp 75) (Operand.tmp 76) false, type := 37, pos := "law.go:92", after := #[{ on := 2, ground := Ground.data }, { on := 3, ground := Ground.data }], guard := none }, { dst := some 78, op := Op.move (Operand.tmp 10), type := 3, pos := "law.go:92", after := #[], guard := none }, { dst := some 79, op := Op.fieldAddr 43 (Operand.tmp 12) 2, type := 0, pos := "law.go:92", after := #[], guard := none }, { dst := some 80, op := Op.load 3 (Operand.tmp 79), type := 3, pos := "law.go:92", after := #[{ on := 6, ground := Ground.data }], guard := none }, { dst := some 81, op := Op.call { callee := Callee.value (Operand.func 19), args := #[Operand.tmp 80, Operand.const (Value.int IntKind.i64 0), Operand.const (Value.int IntKind.i64 1048576)], argTypes := #[3, 3, 3] }, type := 3, pos := "law.go:92", after := #[{ on := 7, ground := Ground.data }], guard := none }, { dst := some 82, op := Op.binOp BinOp.add 3 (Operand.tmp 78) (Operand.tmp 81) 3, type := 3, pos := "law.go:92", after := #[{ on := 5, ground := Ground.data }, { on := 8, ground := Ground.data }], guard := none }, { dst := some 83, op := Op.move (Operand.tmp 13), type := 3, pos := "law.go:92", after := #[], guard := none }, { dst := some 84, op := Op.binOp BinOp.add 3 (Operand.tmp 82) (Operand.tmp 83) 3, type := 3, pos := "law.go:92", after := #[{ on := 9, ground := Ground.data }, { on := 10, ground := Ground.data }], guard := none }, { dst := some 85, op := Op.buildSlice 37 1 #[(0, Operand.tmp 84)], type := 37, pos := "law.go:92", after := #[{ on := 11, ground := Ground.data }], guard := none }, { dst := some 86, op := Op.call { callee := Callee.builtin Builtin.append, args := #[Operand.tmp 77, Operand.tmp 85], argTypes := #[37, 37] }, type := 37, pos := "law.go:92", after := #[{ on := 4, ground := Ground.data }, { on := 12, ground := Ground.data }, { on := 8, ground := Ground.chain }], guard := none }] { dst := none, op := Op.mapUpdate 38 (Operand.tmp 73) (Operand.tmp 74) (Operand.tmp 86), type := 0, pos := "law.go:92", after := #[{ on := 0, ground := Ground.data }, { on := 1, ground := Ground.data }, { on := 13, ground := Ground.data }, { on := 13, ground := Ground.chain }, { on := 0, ground := Ground.phase }, { on := 1, ground := Ground.phase }, { on := 2, ground := Ground.phase }, { on := 3, ground := Ground.phase }, { on := 4, ground := Ground.phase }, { on := 5, ground := Ground.phase }, { on := 6, ground := Ground.phase }, { on := 7, ground := Ground.phase }, { on := 8, ground := Ground.phase }, { on := 9, ground := Ground.phase }, { on := 10, ground := Ground.phase }, { on := 11, ground := Ground.phase }, { on := 12, ground := Ground.phase }, { on := 13, ground := Ground.phase }], guard := none } rfl (by kernel_rfl) (by kernel_rfl) ((fun w' => w'.cell? ⟨X, 2, none⟩ = some (.int .i64 td) ∧ (Instr.lookup 38 (.map (some mb)) (.string (LN.txt i)) false).run Try.prog w' = .ok (.slice ra jj rc) w')) ?_ (fun hHeld => ?_)
              · (rw [HW0.out]; exact hSk)
              rw [HW0.out] at hHeld ⊢
              refine wpAnyH_take (i := 0) (oi := { dst := some 73, op := Op.move (Operand.tmp 7), type := 38, pos := "law.go:92", after := #[], guard := none }) (v := ?_) rfl (by kernel_rfl) (by kernel_rfl) (by kernel_rfl) (fun _ _ _ h => h) (Or.inl ⟨by rfl, ?_⟩) (by assumption) ?_
              rotate_left
              · ((intro w hSw; (try dsimp only at hSw); go_simp; (try rw [if_neg (by omega)])); try with_reducible rfl)
              (try simp only [Act.put, List.setIfInBounds_toArray, List.set_cons_zero, List.set_cons_succ])
              refine wpAnyH_take (i := 1) (oi := { dst := some 74, op := Op.move (Operand.tmp 11), type := 9, pos := "law.go:92", after := #[], guard := none }) (v := ?_) rfl (by kernel_rfl) (by kernel_rfl) (by kernel_rfl) (fun _ _ _ h => h) (Or.inl ⟨by rfl, ?_⟩) (by assumption) ?_
              rotate_left
              · ((intro w hSw; (try dsimp only at hSw); go_simp; (try rw [if_neg (by omega)])); try with_reducible rfl)
              (try simp only [Act.put, List.setIfInBounds_toArray, List.set_cons_zero, List.set_cons_succ])
              refine wpAnyH_take (i := 2) (oi := { dst := some 75, op := Op.move (Operand.tmp 7), type := 38, pos := "law.go:92", after := #[], guard := none }) (v := ?_) rfl (by kernel_rfl) (by kernel_rfl) (by kernel_rfl) (fun _ _ _ h => h) (Or.inl ⟨by rfl, ?_⟩) (by assumption) ?_
              rotate_left
              · ((intro w hSw; (try dsimp only at hSw); go_simp; (try rw [if_neg (by omega)])); try with_reducible rfl)
              (try simp only [Act.put, List.setIfInBounds_toArray, List.set_cons_zero, List.set_cons_succ])
              refine wpAnyH_take (i := 3) (oi := { dst := some 76, op := Op.move (Operand.tmp 11), type := 9, pos := "law.go:92", after := #[], guard := none }) (v := ?_) rfl (by kernel_rfl) (by kernel_rfl) (by kernel_rfl) (fun _ _ _ h => h) (Or.inl ⟨by rfl, ?_⟩) (by assumption) ?_
              rotate_left
              · ((intro w hSw; (try dsimp only at hSw); go_simp; (try rw [if_neg (by omega)])); try with_reducible rfl)
              (try simp only [Act.put, List.setIfInBounds_toArray, List.set_cons_zero, List.set_cons_succ])
              refine wpAnyH_take (i := 4) (oi := { dst := some 77, op := Op.lookup 38 (Operand.tmp 75) (Operand.tmp 76) false, type := 37, pos := "law.go:92", after := #[{ on := 2, ground := Ground.data }, { on := 3, ground := Ground.data }], guard := none }) (v := ?_) rfl (by kernel_rfl) (by kernel_rfl) (by kernel_rfl) (fun _ _ _ h => h) (Or.inl ⟨by rfl, ?_⟩) (by assumption) ?_
              rotate_left
              · ((intro w hSw; (try dsimp only at hSw); go_simp; (try rw [if_neg (by omega)])); try with_reducible rfl)
              (try simp only [Act.put, List.setIfInBounds_toArray, List.set_cons_zero, List.set_cons_succ])
              refine wpAnyH_take (i := 5) (oi := { dst := some 78, op := Op.move (Operand.tmp 10), type := 3, pos := "law.go:92", after := #[], guard := none }) (v := ?_) rfl (by kernel_rfl) (by kernel_rfl) (by kernel_rfl) (fun _ _ _ h => h) (Or.inl ⟨by rfl, ?_⟩) (by assumption) ?_
              rotate_left
              · ((intro w hSw; (try dsimp only at hSw); go_simp; (try rw [if_neg (by omega)])); try with_reducible rfl)
              (try simp only [Act.put, List.setIfInBounds_toArray, List.set_cons_zero, List.set_cons_succ])
              refine wpAnyH_take (i := 6) (oi := { dst := some 79, op := Op.fieldAddr 43 (Operand.tmp 12) 2, type := 0, pos := "law.go:92", after := #[], guard := none }) (v := ?_) rfl (by kernel_rfl) (by kernel_rfl) (by kernel_rfl) (fun _ _ _ h => h) (Or.inl ⟨by rfl, ?_⟩) (by assumption) ?_
              rotate_left
              · ((intro w hSw; (try dsimp only at hSw); go_simp; (try rw [if_neg (by omega)])); try with_reducible rfl)
              (try simp only [Act.put, List.setIfInBounds_toArray, List.set_cons_zero, List.set_cons_succ])
              refine wpAnyH_take (i := 7) (oi := { dst := some 80, op := Op.load 3 (Operand.tmp 79), type := 3, pos := "law.go:92", after := #[{ on := 6, ground := Ground.data }], guard := none }) (v := ?_) rfl (by kernel_rfl) (by kernel_rfl) (by kernel_rfl) (fun _ _ _ h => h) (Or.inl ⟨by rfl, ?_⟩) (by assumption) ?_
              rotate_left
              · ((intro w hSw; (try dsimp only at hSw); go_simp; (try rw [if_neg (by omega)])); try with_reducible rfl)
              (try simp only [Act.put, List.setIfInBounds_toArray, List.set_cons_zero, List.set_cons_succ])
              refine wpAnyH_take (i := 10) (oi := { dst := some 83, op := Op.move (Operand.tmp 13), type := 3, pos := "law.go:92", after := #[], guard := none }) (v := ?_) rfl (by kernel_rfl) (by kernel_rfl) (by kernel_rfl) (fun _ _ _ h => h) (Or.inl ⟨by rfl, ?_⟩) (by assumption) ?_
              rotate_left
              · ((intro w hSw; (try dsimp only at hSw); go_simp; (try rw [if_neg (by omega)])); try with_reducible rfl)
              (try simp only [Act.put, List.setIfInBounds_toArray, List.set_cons_zero, List.set_cons_succ])
              refine wpAnyH_ready (rs := [8]) (by kernel_rfl) (by simp) ?_
              refine AllReadyH.cons (o := { dst := some 81, op := Op.call { callee := Callee.value (Operand.func 19), args := #[Operand.tmp 80, Operand.const (Value.int IntKind.i64 0), Operand.const (Value.int IntKind.i64 1048576)], argTypes := #[3, 3, 3] }, type := 3, pos := "law.go:92", after := #[{ on := 7, ground := Ground.data }], guard := none }) rfl (fun K hK => ?_) AllReadyH.nil
              (go_simp; go_at_call 19; refine (HCD.out _).mono ?_; rintro u wz ⟨rfl, he⟩; have he' := he.symm; subst he'; dsimp only)
              refine hK.out _ _ ?_ (fun hHeld => ?_)
              · exact hSk
              clear hK K
              (try simp only [Act.put, List.setIfInBounds_toArray, List.set_cons_zero, List.set_cons_succ])
              refine wpAnyH_take (i := 9) (oi := { dst := some 82, op := Op.binOp BinOp.add 3 (Operand.tmp 78) (Operand.tmp 81) 3, type := 3, pos := "law.go:92", after := #[{ on := 5, ground := Ground.data }, { on := 8, ground := Ground.data }], guard := none }) (v := ?_) rfl (by kernel_rfl) (by kernel_rfl) (by kernel_rfl) (fun _ _ _ h => h) (Or.inl ⟨by rfl, ?_⟩) (by assumption) ?_
              rotate_left
              · ((intro w hSw; (try dsimp only at hSw); go_simp; (try rw [if_neg (by omega)])); try with_reducible rfl)
              (try simp only [Act.put, List.setIfInBounds_toArray, List.set_cons_zero, List.set_cons_succ])
              refine wpAnyH_take (i := 11) (oi := { dst := some 84, op := Op.binOp BinOp.add 3 (Operand.tmp 82) (Operand.tmp 83) 3, type := 3, pos := "law.go:92", after := #[{ on := 9, ground := Ground.data }, { on := 10, ground := Ground.data }], guard := none }) (v := ?_) rfl (by kernel_rfl) (by kernel_rfl) (by kernel_rfl) (fun _ _ _ h => h) (Or.inl ⟨by rfl, ?_⟩) (by assumption) ?_
              rotate_left
              · ((intro w hSw; (try dsimp only at hSw); go_simp; (try rw [if_neg (by omega)])); try with_reducible rfl)
              (try simp only [Act.put, List.setIfInBounds_toArray, List.set_cons_zero, List.set_cons_succ])
              refine wpAnyH_ready (rs := [12]) (by kernel_rfl) (by simp) ?_
              refine AllReadyH.cons (o := { dst := some 85, op := Op.buildSlice 37 1 #[(0, Operand.tmp 84)], type := 37, pos := "law.go:92", after := #[{ on := 11, ground := Ground.data }], guard := none }) rfl (fun K hK => ?_) AllReadyH.nil
              (go_simp; obtain ⟨wb, hwb⟩ : ∃ wb, W0.alloc (.cells #[.int .i64 (ka + dd + (jj : Int))] 3) = wb := ⟨_, rfl⟩; have hbb := balloc HWD.out (.cells #[.int .i64 (ka + dd + (jj : Int))] 3); have hsrc := srcN_new W0 [.int .i64 (ka + dd + (jj : Int))] 3 1 1 1 rfl; change SrcN 1 (W0.alloc (.cells #[.int .i64 (ka + dd + (jj : Int))] 3)) _ _ _ at hsrc; rw [hwb] at hbb hsrc ⊢; have HBB := Lib.hid hbb; have HSRC := Lib.hid hsrc; have hSk := HKS.out wb (FrS.of hbb); clear hbb hsrc hwb)
              refine hK.out _ _ ?_ (fun hHeld => ?_)
              · exact hSk
              clear hK K
              (try simp only [Act.put, List.setIfInBounds_toArray, List.set_cons_zero, List.set_cons_succ])
              refine wpAnyH_ready (rs := [13]) (by kernel_rfl) (by simp) ?_
              refine AllReadyH.cons (o := { dst := some 86, op := Op.call { callee := Callee.builtin Builtin.append, args := #[Operand.tmp 77, Operand.tmp 85], argTypes := #[37, 37] }, type := 37, pos := "law.go:92", after := #[{ on := 4, ground := Ground.data }, { on := 12, ground := Ground.data }, { on := 8, ground := Ground.chain }], guard := none }) rfl (fun K hK => ?_) AllReadyH.nil
              (refine step_appN (by rfl) _ _ _ (by rfl) 0 3 i0 _ 1 8 Try.underlying37 hi0 hz0 hz1 hz2 rfl (by decide) (.slice ra jj rc) jj U (by rfl) (own_below HOW.out HBB.out) _ 1 [.int .i64 (ka + dd + (jj : Int))] (by rfl) HSRC.out (by simp [Value.oneCell']) (by unfold maxLen; omega) (by omega) (Nat.zero_le _) ?_; intro v' w9 hown9 hgrow hat; have hSk := HKS.out w9 ((FrS.of HBB.out).trans (FrS.grown hgrow (fun r e => HRO.out r e))); have HG9 := Lib.hid hgrow; have HO9 := Lib.hid hown9; have HAT := Lib.hid hat; clear hown9 hgrow hat)
              refine hK.out _ _ ?_ (fun hHeld => ?_)
              · exact hSk
              clear hK K
              (try simp only [Act.put, List.setIfInBounds_toArray, List.set_cons_zero, List.set_cons_succ])
              have hdo := HO.out.below HBB.out
              have hap := hdo.app (by omega) (by have := HN9.out; omega) (ka + dd + (jj : Int)) v' (V' := w9) (by rw [HU.out]; exact HO9.out) (by rw [HFI.out]; exact HG9.out) (by rw [HFI.out]; exact HAT.out)
              obtain ⟨w10, hput, ho2, hfr⟩ := hap
              have HPUT := Lib.hid hput
              have hLJ : (fun y => if y = i then LJ i (LN.due (DP T a1 i)) (ka + dd) jj i ++ [ka + dd + (jj : Int)] else LJ i (LN.due (DP T a1 i)) (ka + dd) jj y) = LJ i (LN.due (DP T a1 i)) (ka + dd) (jj + 1) := by
                funext y
                unfold LJ
                by_cases e : y = i
                · rw [if_pos e, if_pos rfl, if_pos e, List.range_succ, List.map_append]
                  rfl
                · rw [if_neg e, if_neg e, if_neg e]
              rw [hLJ] at ho2
              have HO2 := Lib.hid ho2
              have HX2 : Hid (w10.heap[X]? = some (.cells #[.bool false, .int .i64 tc, .int .i64 td] 43 (0, 0))) := Lib.hid (hfr.nd ((HBB.out.block X HXB.out).trans HXX.out) HXH.out)
              have HXH2 : Hid (¬ (H' X ∨ v'.ownBlock = some X)) := Lib.hid fun h => by
                rcases h with h | h
                · exact HXH.out h
                · rcases HAT.out with h1 | h1
                  · exact HXH.out (HRO.out X (h1.symm.trans h)).1
                  · rw [h1] at h
                    have h2 := Option.some.inj h
                    have h3 := HXB.out
                    have h4 := HBB.out.size
                    omega
              have HFN' : Hid (∀ j, i + 1 ≤ j → (if j = i then v' else f' j) = .slice none 0 0) := Lib.hid fun j hj => by rw [if_neg (by omega)]; exact HFN.out j hj
              have hput := HPUT.out
              clear hdo hLJ ho2 hfr HWD
              refine wpAnyH_done (by kernel_rfl) ?_ _
              show Oper.wp _ _ _ _ _ _
              have hput := HPUT.out
              clear hHeld
              go_wp2
              go_roundw
              case rel => exact ⟨jj + 1, N' + 1, m' + 1, _, _, by go_num, by go_num, hjc, by omega, Lib.hid (by have := HMM.out; omega), by have h1 := HMM.out; omega, Lib.hid (fun e => by cases e), HFN', HO2, HX2, HXH2⟩
              case measure => simp [intOf]; omega
          · obtain rfl : jj = cn := by omega
            have hjz : ¬ (jj : Int) < (jj : Int) := by omega
            have HLS : Hid ((DP T a1 (i + 1)).length = m') := Lib.hid (by
              have h1 := HLN.out; have h2 := HMM.out
              cases tl with
              | true => have h3 := HTL.out rfl; rw [if_pos rfl] at h1; omega
              | false => rw [if_neg Bool.false_ne_true] at h1; omega)
            have hLL : LJ i (LN.due (DP T a1 i)) (ka + dd) jj = LN.due (DP T a1 (i + 1)) := by
              funext y
              unfold LJ
              by_cases e : y = i
              · rw [if_pos e, e, HDN.out]
                cases tl with
                | true => rw [if_pos rfl, HTL.out rfl]; rfl
                | false => rw [if_neg Bool.false_ne_true]
              · rw [if_neg e, HDO.out y e]
            have hdr := HO.out.dr
            rw [hLL] at hdr
            have HDR := Lib.hid hdr
            have HNM : Hid (N' ≤ 9 * (i + 1)) := Lib.hid (by omega)
            clear hLL hdr
            go_wp2_with fail
            go_at_call 19
            refine (HCC.out _).mono ?_
            rintro x wz ⟨rfl, he⟩
            have he' := he.symm
            subst he'
            go_wp2
            go_roundw
            case rel => exact ⟨i + 1, N', m', f', H', by go_num, rfl, hin, by omega, HNM.out, HLS, HFN, HDR⟩
            case measure => simp [intOf]; omega
    · by_cases hin2 : i < N1
      · have hii : (i : Int) < (N1 : Int) := by omega
        have hii2 : ¬ (i : Int) < 40 := by omega
        clear hin hin2
        have HSN := Lib.hid (DP_sn T a1 i)
        have HGD := Lib.hid (DP_gd T a1 i)
        have HEN := Lib.hid (DP_ends T a1 i)
        have HLE := Lib.hid (DP_pos T a1 i)
        obtain ⟨P, hP⟩ : ∃ P, DP T a1 i = P := ⟨_, rfl⟩
        rw [hP] at HSN HGD HEN HLE HD HML
        have hm360 : m ≤ 360 := by have h1 := HSN.out.len; have h2 := HML.out; omega
        have HORD := Lib.hid HSN.out.ord
        clear hP HFN HSN
        go_upto_region 21 with fail
        go_loopw [8, 14] (fun v8 v14 wr => ∃ (m N : Nat) (la : Int) (R : List Pc) (f : Nat → Value), v8 = .int .i64 (m : Int) ∧ v14 = .int .i64 la ∧ m ≤ 360 ∧ N + m ≤ 100000 ∧ Hid (R.length = m) ∧ Hid (LN.Ord R) ∧ Hid (LN.Gd i R) ∧ Hid (∀ p ∈ R, p.f = 0 ∧ p.o = 1) ∧ Hid (∀ q ∈ R, la ≤ q.t) ∧ Hid (Dr w2 w2.heap.size wr M mb T i R N f (LN.due R) H)) (fun v _ _ => (intOf v).toNat)
        case atStart => exact ⟨m, N, 0, P, f, rfl, rfl, hm360, by omega, HML, HORD, HGD, HEN, HLE, HD⟩
        case round =>
          clear HD HLE HEN HGD HORD HML hm360 hNi
          obtain ⟨m, N, la, R, f, rfl, rfl, hm, hNm, HML, HO, HG, HEN, HLE, HD⟩ := hrel
          by_cases hm0 : m = 0
          · subst hm0
            have hR : R = [] := List.eq_nil_of_length_eq_zero HML.out
            subst hR
            have HN := Lib.hid HD.out.none
            go_upto_region 29 with fail
            go_wp2_with fail
            go_at_call 20
            refine HN.out.mono ?_
            rintro x wx ⟨rfl, hx⟩
            have HX := Lib.hid (bnext HB2.out (hx.below (balloc (Below.refl _ wx) ms0C)).bel)
            clear hx
            go_wp2
            go_ret
            exact ⟨rfl, HX.out⟩
          · have hmz : (m : Int) > 0 := by omega
            have hRne : R ≠ [] := fun e => hm0 (by rw [← HML.out, e]; rfl)
            obtain ⟨p, hp⟩ := LN.bs_some hRne
            have hmem := List.mem_of_getElem? hp
            obtain ⟨hps, hpn0, hpni⟩ := HG.out p hmem
            obtain ⟨hpf, hpo⟩ := HEN.out p hmem
            have hla := HLE.out p hmem
            obtain ⟨pn, hpn⟩ : ∃ pn : Nat, p.n = (pn : Int) := ⟨p.n.toNat, by omega⟩
            have hpn40 : pn < 40 := by omega
            rw [hpn, Int.toNat_natCast] at hps
            have hdue := LN.due_best HO.out hp hpn
            have HN := Lib.hid (HD.out.next HO.out (by have := HML.out; omega) p hp)
            obtain ⟨pt, hpt⟩ : ∃ t, p.t = t := ⟨_, rfl⟩
            obtain ⟨R', hR'⟩ : ∃ R', R.eraseIdx (LN.bs R) = R' := ⟨_, rfl⟩
            rw [hpf, hpo, hps, hpt, hR'] at HN
            rw [hpt, hR'] at hdue
            rw [hpt] at hla
            have HML2 : Hid (R'.length + 1 = m) := Lib.hid (by
              rw [← hR', List.length_eraseIdx, if_pos (List.getElem?_eq_some_iff.1 hp).1]
              have h1 := HML.out
              omega)
            have HO2 : Hid (LN.Ord R') := Lib.hid (by rw [← hR']; exact Ord.erase HO.out _)
            have HG2 : Hid (LN.Gd i R') := Lib.hid (by rw [← hR']; exact HG.out.erase _)
            have HEN2 : Hid (∀ p ∈ R', p.f = 0 ∧ p.o = 1) := Lib.hid (fun q hq => by rw [← hR'] at hq; exact HEN.out q (List.mem_of_mem_eraseIdx hq))
            have HLE2 : Hid (∀ q ∈ R', pt ≤ q.t) := Lib.hid (fun q hq => by rw [← hR'] at hq; rw [← hpt]; exact LN.best_le hp q (List.mem_of_mem_eraseIdx hq))
            have HOT : Hid (∀ j, j ≠ pn → LN.due R' j = LN.due R j) := Lib.hid (fun j hj => by rw [← hR']; exact LN.due_other hp (by rw [hpn]; omega))
            have HDUE := Lib.hid hdue
            clear hRne hmem hps hpn0 hpni hpf hpo hpn hdue hpt hR' hp
            go_upto_region 23 with fail
            go_wp2_with fail
            go_at_call 20
            refine HN.out.mono ?_
            rintro x wa ⟨rfl, ha⟩
            have hbx := balloc (Below.refl _ wa) (.cells #[.int .i64 0, .int .i64 1, .string (LN.txt pn)] 31)
            have hxx := heap_alloc_new wa (.cells #[.int .i64 0, .int .i64 1, .string (LN.txt pn)] 31)
            obtain ⟨X, hX⟩ : ∃ X, wa.heap.size = X := ⟨_, rfl⟩
            obtain ⟨w8, hw8⟩ : ∃ w8, wa.alloc (.cells #[.int .i64 0, .int .i64 1, .string (LN.txt pn)] 31) = w8 := ⟨_, rfl⟩
            have hd8 := ha.below hbx
            rw [hw8] at hbx hxx hd8
            rw [hX] at hxx
            have hlk := hd8.map.look pn (by omega)
            obtain ⟨rest, hrest⟩ : ∃ rest, LN.due R' pn = rest := ⟨_, rfl⟩
            have hrow := (hd8.row pn).1
            rw [HDUE.out, hrest] at hrow
            obtain ⟨q, hq⟩ : ∃ q, rest.length = q := ⟨_, rfl⟩
            obtain ⟨ao, c, hfp, -, hcc⟩ := hrow
            obtain ⟨g, o, rfl, hgl, hcell⟩ : ∃ g o, ao = some ⟨g, o, none⟩ ∧ g < w8.heap.size ∧ ∀ (j : Nat) (u : Value), ((pt :: rest).map (Value.int .i64))[j]? = some u → w8.cell? ⟨g, o + j, none⟩ = some u := by
              rcases hcc with ⟨h, -⟩ | ⟨g, o, e, h1, h2⟩
              · simp at h
              · exact ⟨g, o, e, h1, h2⟩
            have k0 : w8.cell? ⟨g, o, none⟩ = some (.int .i64 pt) := hcell 0 _ rfl
            rw [List.length_cons, hq] at hfp
            rw [hfp] at hlk
            have HD8 := Lib.hid hd8
            have HX8 := Lib.hid hxx
            have HREST := Lib.hid hrest
            have HQ := Lib.hid hq
            have HFP := Lib.hid hfp
            have HCELL := Lib.hid hcell
            have x0 := nd_cell (i := 0) hxx rfl
            have x1 := nd_cell (i := 1) hxx rfl
            have x2 := nd_cell (i := 2) hxx rfl
            clear ha hbx hd8 hxx hrest hq hfp hcell
            go_upto_region 24 with fail
            try rw [hX]
            try rw [hw8]
            clear hX hw8
            go_upto_region 25 with fail
            have HCL : Hid (∀ V, Below w8.heap.size w8 V → V.cell? ⟨g, o, none⟩ = some (.int .i64 pt) ∧ V.cell? ⟨X, 0, none⟩ = some (.int .i64 0) ∧ V.cell? ⟨X, 1, none⟩ = some (.int .i64 1) ∧ V.cell? ⟨X, 2, none⟩ = some (.string (LN.txt pn))) := Lib.hid fun V hV => by
              have hb := (hV.block X (Array.getElem?_eq_some_iff.1 HX8.out).1).trans HX8.out
              exact ⟨(hV.cell (p := ⟨g, o, none⟩) hgl).trans k0, nd_cell hb rfl, nd_cell hb rfl, nd_cell hb rfl⟩
            have hlt : ¬ pt < la := by omega
            have hqz : ((((q + 1 : Nat) : Int)) == 0) = false := by simp; omega
            have hqz2 : ((q : Int) + 1 == 0) = false := by simp; omega
            have hq1 : (0 : Int) < ((q + 1 : Nat) : Int) := by omega
            have hne := fun w => neq_ms w 0 1 (LN.txt pn)
            have HWD0 := Below.drew (Below.refl w8.heap.size w8)
            obtain ⟨W0, hW0⟩ : ∃ W0, w8.drew = W0 := ⟨_, rfl⟩
            rw [hW0] at HWD0
            have HWD := Lib.hid HWD0
            have HW0 := Lib.hid hW0
            clear HWD0 hW0 k0 x0 x1 x2 hlk hgl
            refine wp_region_held_drew (S := (fun w' => w'.cell? ⟨g, o, none⟩ = some (.int .i64 pt) ∧ w'.cell? ⟨X, 0, none⟩ = some (.int .i64 0) ∧ w'.cell? ⟨X, 1, none⟩ = some (.int .i64 1) ∧ w'.cell? ⟨X, 2, none⟩ = some (.string (LN.txt pn)))) (by kernel_rfl) ?_ (fun hHeld => ?_)
            · (rw [HW0.out]; exact HCL.out _ HWD.out)
            rw [HW0.out] at hHeld ⊢
            refine wpAnyH_take (i := 0) (oi := { dst := some 103, op := Op.move (Operand.tmp 17), type := 4, pos := "law.go:100", after := #[], guard := none }) (v := ?_) rfl (by kernel_rfl) (by kernel_rfl) (by kernel_rfl) (fun _ _ _ h => h) (Or.inl ⟨by rfl, ?_⟩) (by assumption) ?_
            rotate_left
            · ((intro w hSw; (try dsimp only at hSw); go_simp; (try rw [if_neg (by omega)])); try with_reducible rfl)
            (try simp only [Act.put, List.setIfInBounds_toArray, List.set_cons_zero, List.set_cons_succ])
            refine wpAnyH_take (i := 1) (oi := { dst := some 104, op := Op.unOp UnOp.not 4 (Operand.tmp 103), type := 4, pos := "law.go:100", after := #[{ on := 0, ground := Ground.data }], guard := none }) (v := ?_) rfl (by kernel_rfl) (by kernel_rfl) (by kernel_rfl) (fun _ _ _ h => h) (Or.inl ⟨by rfl, ?_⟩) (by assumption) ?_
            rotate_left
            · ((intro w hSw; (try dsimp only at hSw); go_simp; (try rw [if_neg (by omega)])); try with_reducible rfl)
            (try simp only [Act.put, List.setIfInBounds_toArray, List.set_cons_zero, List.set_cons_succ])
            refine wpAnyH_take (i := 2) (oi := { dst := some 105, op := Op.move (Operand.tmp 104), type := 4, pos := "law.go:100", after := #[{ on := 1, ground := Ground.data }], guard := none }) (v := ?_) rfl (by kernel_rfl) (by kernel_rfl) (by kernel_rfl) (fun _ _ _ h => h) (Or.inl ⟨by rfl, ?_⟩) (by assumption) ?_
            rotate_left
            · ((intro w hSw; (try dsimp only at hSw); go_simp; (try rw [if_neg (by omega)])); try with_reducible rfl)
            (try simp only [Act.put, List.setIfInBounds_toArray, List.set_cons_zero, List.set_cons_succ])
            refine wpAnyH_take (i := 3) (oi := { dst := some 106, op := Op.move (Operand.tmp 16), type := 3, pos := "law.go:100", after := #[{ on := 2, ground := Ground.guard }], guard := some (2, false) }) (v := ?_) rfl (by kernel_rfl) (by kernel_rfl) (by kernel_rfl) (fun _ _ _ h => h) (Or.inl ⟨by rfl, ?_⟩) (by assumption) ?_
            rotate_left
            · ((intro w hSw; (try dsimp only at hSw); go_simp; (try rw [if_neg (by omega)])); try with_reducible rfl)
            (try simp only [Act.put, List.setIfInBounds_toArray, List.set_cons_zero, List.set_cons_succ])
            refine wpAnyH_take (i := 4) (oi := { dst := some 107, op := Op.move (Operand.tmp 14), type := 3, pos := "law.go:100", after := #[{ on := 2, ground := Ground.guard }], guard := some (2, false) }) (v := ?_) rfl (by kernel_rfl) (by kernel_rfl) (by kernel_rfl) (fun _ _ _ h => h) (Or.inl ⟨by rfl, ?_⟩) (by assumption) ?_
            rotate_left
            · ((intro w hSw; (try dsimp only at hSw); go_simp; (try rw [if_neg (by omega)])); try with_reducible rfl)
            (try simp only [Act.put, List.setIfInBounds_toArray, List.set_cons_zero, List.set_cons_succ])
            refine wpAnyH_take (i := 5) (oi := { dst := some 108, op := Op.binOp BinOp.lss 3 (Operand.tmp 106) (Operand.tmp 107) 3, type := 4, pos := "law.go:100", after := #[{ on := 3, ground := Ground.data }, { on := 4, ground := Ground.data }, { on := 2, ground := Ground.guard }], guard := some (2, false) }) (v := ?_) rfl (by kernel_rfl) (by kernel_rfl) (by kernel_rfl) (fun _ _ _ h => h) (Or.inl ⟨by rfl, ?_⟩) (by assumption) ?_
            rotate_left
            · ((intro w hSw; (try dsimp only at hSw); go_simp; (try rw [if_neg (by omega)])); try with_reducible rfl)
            (try simp only [Act.put, List.setIfInBounds_toArray, List.set_cons_zero, List.set_cons_succ])
            refine wpAnyH_take (i := 6) (oi := { dst := some 109, op := Op.pick (Operand.tmp 105) (Operand.const (Value.bool true)) (Operand.tmp 108), type := 4, pos := "law.go:100", after := #[{ on := 2, ground := Ground.data }, { on := 5, ground := Ground.data }], guard := none }) (v := ?_) rfl (by kernel_rfl) (by kernel_rfl) (by kernel_rfl) (fun _ _ _ h => h) (Or.inl ⟨by rfl, ?_⟩) (by assumption) ?_
            rotate_left
            · ((intro w hSw; (try dsimp only at hSw); go_simp; (try rw [if_neg (by omega)])); try with_reducible rfl)
            (try simp only [Act.put, List.setIfInBounds_toArray, List.set_cons_zero, List.set_cons_succ])
            refine wpAnyH_take (i := 7) (oi := { dst := some 110, op := Op.move (Operand.tmp 109), type := 4, pos := "law.go:100", after := #[{ on := 6, ground := Ground.data }, { on := 2, ground := Ground.chain }], guard := none }) (v := ?_) rfl (by kernel_rfl) (by kernel_rfl) (by kernel_rfl) (fun _ _ _ h => h) (Or.inl ⟨by rfl, ?_⟩) (by assumption) ?_
            rotate_left
            · ((intro w hSw; (try dsimp only at hSw); go_simp; (try rw [if_neg (by omega)])); try with_reducible rfl)
            (try simp only [Act.put, List.setIfInBounds_toArray, List.set_cons_zero, List.set_cons_succ])
            refine wpAnyH_take (i := 8) (oi := { dst := some 111, op := Op.move (Operand.tmp 18), type := 37, pos := "law.go:100", after := #[{ on := 7, ground := Ground.guard }], guard := some (7, false) }) (v := ?_) rfl (by kernel_rfl) (by kernel_rfl) (by kernel_rfl) (fun _ _ _ h => h) (Or.inl ⟨by rfl, ?_⟩) (by assumption) ?_
            rotate_left
            · ((intro w hSw; (try dsimp only at hSw); go_simp; (try rw [if_neg (by omega)])); try with_reducible rfl)
            (try simp only [Act.put, List.setIfInBounds_toArray, List.set_cons_zero, List.set_cons_succ])
            refine wpAnyH_take (i := 9) (oi := { dst := some 112, op := Op.call { callee := Callee.builtin Builtin.len, args := #[Operand.tmp 111], argTypes := #[37] }, type := 3, pos := "law.go:100", after := #[{ on := 8, ground := Ground.data }, { on := 7, ground := Ground.guard }], guard := some (7, false) }) (v := ?_) rfl (by kernel_rfl) (by kernel_rfl) (by kernel_rfl) (fun _ _ _ h => h) (Or.inl ⟨by rfl, ?_⟩) (by assumption) ?_
            rotate_left
            · ((intro w hSw; (try dsimp only at hSw); go_simp; (try rw [if_neg (by omega)])); try with_reducible rfl)
            (try simp only [Act.put, List.setIfInBounds_toArray, List.set_cons_zero, List.set_cons_succ])
            refine wpAnyH_take (i := 10) (oi := { dst := some 113, op := Op.binOp BinOp.eql 3 (Operand.tmp 112) (Operand.const (Value.int IntKind.i64 0)) 3, type := 4, pos := "law.go:100", after := #[{ on := 9, ground := Ground.data }, { on := 7, ground := Ground.guard }], guard := some (7, false) }) (v := ?_) rfl (by kernel_rfl) (by kernel_rfl) (by kernel_rfl) (fun _ _ _ h => h) (Or.inl ⟨by rfl, ?_⟩) (by assumption) ?_
            rotate_left
            · ((intro w hSw; (try dsimp only at hSw); go_simp; (try rw [if_neg (by omega)])); try with_reducible rfl)
            (try simp only [Act.put, List.setIfInBounds_toArray, List.set_cons_zero, List.set_cons_succ])
            refine wpAnyH_take (i := 11) (oi := { dst := some 114, op := Op.pick (Operand.tmp 110) (Operand.const (Value.bool true)) (Operand.tmp 113), type := 4, pos := "law.go:100", after := #[{ on := 7, ground := Ground.data }, { on := 10, ground := Ground.data }], guard := none }) (v := ?_) rfl (by kernel_rfl) (by kernel_rfl) (by kernel_rfl) (fun _ _ _ h => h) (Or.inl ⟨by rfl, ?_⟩) (by assumption) ?_
            rotate_left
            · ((intro w hSw; (try dsimp only at hSw); go_simp; (try rw [if_neg (by omega)])); try with_reducible rfl)
            (try simp only [Act.put, List.setIfInBounds_toArray, List.set_cons_zero, List.set_cons_succ])
            refine wpAnyH_take (i := 12) (oi := { dst := some 115, op := Op.move (Operand.tmp 114), type := 4, pos := "law.go:100", after := #[{ on := 11, ground := Ground.data }, { on := 7, ground := Ground.chain }], guard := none }) (v := ?_) rfl (by kernel_rfl) (by kernel_rfl) (by kernel_rfl) (fun _ _ _ h => h) (Or.inl ⟨by rfl, ?_⟩) (by assumption) ?_
            rotate_left
            · ((intro w hSw; (try dsimp only at hSw); go_simp; (try rw [if_neg (by omega)])); try with_reducible rfl)
            (try simp only [Act.put, List.setIfInBounds_toArray, List.set_cons_zero, List.set_cons_succ])
            refine wpAnyH_take (i := 13) (oi := { dst := some 116, op := Op.move (Operand.tmp 18), type := 37, pos := "law.go:100", after := #[{ on := 12, ground := Ground.guard }], guard := some (12, false) }) (v := ?_) rfl (by kernel_rfl) (by kernel_rfl) (by kernel_rfl) (fun _ _ _ h => h) (Or.inl ⟨by rfl, ?_⟩) (by assumption) ?_
            rotate_left
            · ((intro w hSw; (try dsimp only at hSw); go_simp; (try rw [if_neg (by omega)])); try with_reducible rfl)
            (try simp only [Act.put, List.setIfInBounds_toArray, List.set_cons_zero, List.set_cons_succ])
            refine wpAnyH_take (i := 14) (oi := { dst := some 117, op := Op.indexAddr 37 (Operand.tmp 116) (Operand.const (Value.int IntKind.i64 0)), type := 0, pos := "law.go:100", after := #[{ on := 13, ground := Ground.data }, { on := 12, ground := Ground.guard }], guard := some (12, false) }) (v := ?_) rfl (by kernel_rfl) (by kernel_rfl) (by kernel_rfl) (fun _ _ _ h => h) (Or.inl ⟨by rfl, ?_⟩) (by assumption) ?_
            rotate_left
            · ((intro w hSw; (try dsimp only at hSw); go_simp; (try rw [if_neg (by omega)])); try with_reducible rfl)
            (try simp only [Act.put, List.setIfInBounds_toArray, List.set_cons_zero, List.set_cons_succ])
            refine wpAnyH_take (i := 15) (oi := { dst := some 118, op := Op.load 3 (Operand.tmp 117), type := 3, pos := "law.go:100", after := #[{ on := 14, ground := Ground.data }, { on := 12, ground := Ground.guard }], guard := some (12, false) }) (v := ?_) rfl (by kernel_rfl) (by kernel_rfl) (by kernel_rfl) (fun _ _ _ h => h) (Or.inl ⟨by rfl, ?_⟩) (by assumption) ?_
            rotate_left
            · ((intro w hSw; (try dsimp only at hSw); go_simp; (try rw [if_neg (by omega)])); try with_reducible rfl)
            (try simp only [Act.put, List.setIfInBounds_toArray, List.set_cons_zero, List.set_cons_succ])
            refine wpAnyH_take (i := 16) (oi := { dst := some 119, op := Op.move (Operand.tmp 16), type := 3, pos := "law.go:100", after := #[{ on := 12, ground := Ground.guard }], guard := some (12, false) }) (v := ?_) rfl (by kernel_rfl) (by kernel_rfl) (by kernel_rfl) (fun _ _ _ h => h) (Or.inl ⟨by rfl, ?_⟩) (by assumption) ?_
            rotate_left
            · ((intro w hSw; (try dsimp only at hSw); go_simp; (try rw [if_neg (by omega)])); try with_reducible rfl)
            (try simp only [Act.put, List.setIfInBounds_toArray, List.set_cons_zero, List.set_cons_succ])
            refine wpAnyH_take (i := 17) (oi := { dst := some 120, op := Op.binOp BinOp.neq 3 (Operand.tmp 118) (Operand.tmp 119) 3, type := 4, pos := "law.go:100", after := #[{ on := 15, ground := Ground.data }, { on := 16, ground := Ground.data }, { on := 12, ground := Ground.guard }], guard := some (12, false) }) (v := ?_) rfl (by kernel_rfl) (by kernel_rfl) (by kernel_rfl) (fun _ _ _ h => h) (Or.inl ⟨by rfl, ?_⟩) (by assumption) ?_
            rotate_left
            · ((intro w hSw; (try dsimp only at hSw); go_simp; (try rw [if_neg (by omega)])); try with_reducible rfl)
            (try simp only [Act.put, List.setIfInBounds_toArray, List.set_cons_zero, List.set_cons_succ])
            refine wpAnyH_take (i := 18) (oi := { dst := some 121, op := Op.pick (Operand.tmp 115) (Operand.const (Value.bool true)) (Operand.tmp 120), type := 4, pos := "law.go:100", after := #[{ on := 12, ground := Ground.data }, { on := 17, ground := Ground.data }], guard := none }) (v := ?_) rfl (by kernel_rfl) (by kernel_rfl) (by kernel_rfl) (fun _ _ _ h => h) (Or.inl ⟨by rfl, ?_⟩) (by assumption) ?_
            rotate_left
            · ((intro w hSw; (try dsimp only at hSw); go_simp; (try rw [if_neg (by omega)])); try with_reducible rfl)
            (try simp only [Act.put, List.setIfInBounds_toArray, List.set_cons_zero, List.set_cons_succ])
            refine wpAnyH_take (i := 19) (oi := { dst := some 122, op := Op.move (Operand.tmp 121), type := 4, pos := "law.go:100", after := #[{ on := 18, ground := Ground.data }, { on := 12, ground := Ground.chain }], guard := none }) (v := ?_) rfl (by kernel_rfl) (by kernel_rfl) (by kernel_rfl) (fun _ _ _ h => h) (Or.inl ⟨by rfl, ?_⟩) (by assumption) ?_
            rotate_left
            · ((intro w hSw; (try dsimp only at hSw); go_simp; (try rw [if_neg (by omega)])); try with_reducible rfl)
            (try simp only [Act.put, List.setIfInBounds_toArray, List.set_cons_zero, List.set_cons_succ])
            refine wpAnyH_take (i := 20) (oi := { dst := some 123, op := Op.load 31 (Operand.tmp 15), type := 31, pos := "law.go:100", after := #[{ on := 19, ground := Ground.guard }], guard := some (19, false) }) (v := ?_) rfl (by kernel_rfl) (by kernel_rfl) (by kernel_rfl) (fun _ _ _ h => h) (Or.inl ⟨by rfl, ?_⟩) (by assumption) ?_
            rotate_left
            · ((intro w hSw; (try dsimp only at hSw); go_simp; (try rw [if_neg (by omega)])); try with_reducible rfl)
            (try simp only [Act.put, List.setIfInBounds_toArray, List.set_cons_zero, List.set_cons_succ])
            refine wpAnyH_take (i := 21) (oi := { dst := some 124, op := Op.fieldAddr 31 (Operand.tmp 15) 2, type := 0, pos := "law.go:100", after := #[{ on := 19, ground := Ground.guard }], guard := some (19, false) }) (v := ?_) rfl (by kernel_rfl) (by kernel_rfl) (by kernel_rfl) (fun _ _ _ h => h) (Or.inl ⟨by rfl, ?_⟩) (by assumption) ?_
            rotate_left
            · ((intro w hSw; (try dsimp only at hSw); go_simp; (try rw [if_neg (by omega)])); try with_reducible rfl)
            (try simp only [Act.put, List.setIfInBounds_toArray, List.set_cons_zero, List.set_cons_succ])
            refine wpAnyH_take (i := 22) (oi := { dst := some 125, op := Op.load 9 (Operand.tmp 124), type := 9, pos := "law.go:100", after := #[{ on := 21, ground := Ground.data }, { on := 19, ground := Ground.guard }], guard := some (19, false) }) (v := ?_) rfl (by kernel_rfl) (by kernel_rfl) (by kernel_rfl) (fun _ _ _ h => h) (Or.inl ⟨by rfl, ?_⟩) (by assumption) ?_
            rotate_left
            · ((intro w hSw; (try dsimp only at hSw); go_simp; (try rw [if_neg (by omega)])); try with_reducible rfl)
            (try simp only [Act.put, List.setIfInBounds_toArray, List.set_cons_zero, List.set_cons_succ])
            refine wpAnyH_ready (rs := [23]) (by kernel_rfl) (by simp) ?_
            refine AllReadyH.cons (o := { dst := some 126, op := Op.call { callee := Callee.value (Operand.func 18), args := #[Operand.tmp 125], argTypes := #[9] }, type := 31, pos := "law.go:100", after := #[{ on := 22, ground := Ground.data }, { on := 19, ground := Ground.chain }, { on := 19, ground := Ground.guard }], guard := some (19, false) }) rfl (fun K hK => ?_) ?_
            · (go_simp; go_at_call 18; refine (told_any _ _).mono ?_; rintro u wz ⟨rfl, dz⟩; have bz := bnext HWD.out dz; clear dz; dsimp only)
              refine hK.out _ _ ?_ (fun hHeld => ?_)
              · exact HCL.out _ bz
              clear hK K
              (try simp only [Act.put, List.setIfInBounds_toArray, List.set_cons_zero, List.set_cons_succ])
              refine wpAnyH_take (i := 24) (oi := { dst := some 127, op := Op.binOp BinOp.neq 31 (Operand.tmp 123) (Operand.tmp 126) 31, type := 4, pos := "law.go:100", after := #[{ on := 20, ground := Ground.data }, { on := 23, ground := Ground.data }, { on := 19, ground := Ground.guard }], guard := some (19, false) }) (v := ?_) rfl (by kernel_rfl) (by kernel_rfl) (by kernel_rfl) (fun _ _ _ h => h) (Or.inl ⟨by rfl, ?_⟩) (by assumption) ?_
              rotate_left
              · ((intro w hSw; (try dsimp only at hSw); go_simp; (try rw [if_neg (by omega)])); try with_reducible rfl)
              (try simp only [Act.put, List.setIfInBounds_toArray, List.set_cons_zero, List.set_cons_succ])
              refine wpAnyH_take (i := 25) (oi := { dst := some 128, op := Op.pick (Operand.tmp 122) (Operand.const (Value.bool true)) (Operand.tmp 127), type := 4, pos := "law.go:100", after := #[{ on := 19, ground := Ground.data }, { on := 24, ground := Ground.data }], guard := none }) (v := ?_) rfl (by kernel_rfl) (by kernel_rfl) (by kernel_rfl) (fun _ _ _ h => h) (Or.inl ⟨by rfl, ?_⟩) (by assumption) ?_
              rotate_left
              · ((intro w hSw; (try dsimp only at hSw); go_simp; (try rw [if_neg (by omega)])); try with_reducible rfl)
              (try simp only [Act.put, List.setIfInBounds_toArray, List.set_cons_zero, List.set_cons_succ])
              refine wpAnyH_done (by kernel_rfl) ?_ _
              have HC2 : Hid (wz.drew.cell? ⟨X, 2, none⟩ = some (.string (LN.txt pn))) := Lib.hid (HCL.out _ (Below.drew bz)).2.2.2
              have hcap := HD8.out.cap pn _ _ _ HFP.out
              obtain ⟨hcap1, hcap2⟩ := hcap
              unfold maxLen at hcap2
              obtain ⟨ad, had⟩ : ∃ ad : Option Addr, (if c = 1 then some (⟨g, o, none⟩ : Addr) else some ⟨g, o + 1, none⟩) = ad := ⟨_, rfl⟩
              have hob : (Value.slice ad q (c - 1)).ownBlock = some g := by rw [← had]; split <;> rfl
              have hdu : Du (.slice ad q (c - 1)) := .inr (by
                by_cases h1 : c = 1
                · exact ⟨g, o, q, c - 1, by rw [← had, if_pos h1]⟩
                · exact ⟨g, o + 1, q, c - 1, by rw [← had, if_neg h1]⟩)
              have hd9 := (HD8.out.below bz).below (Below.drew (Below.refl wz.heap.size wz))
              have hrow := (hd9.row pn).1
              rw [HFP.out, HDUE.out, HREST.out] at hrow
              have hia := hrow.drop1 HQ.out hcap1 had
              obtain ⟨w9, hput, hd10⟩ := hd9.put pn (by omega) (by omega) (.slice ad q (c - 1)) rest hdu hia (fun a n cc e => by injection e with _ e1 e2; subst e1 e2; unfold maxLen; omega) (fun b e => (hd9.row pn).2 b (by rw [HFP.out]; exact (show (Value.slice (some ⟨g, o, none⟩) (q + 1) c).ownBlock = some g from rfl).trans (hob.symm.trans e)))
              have hL : (fun y => if y = pn then rest else LN.due R y) = LN.due R' := by
                funext y
                by_cases hy : y = pn
                · rw [if_pos hy, hy]
                  exact HREST.out.symm
                · rw [if_neg hy]
                  exact (HOT.out y hy).symm
              rw [hL] at hd10
              have HD10 := Lib.hid hd10
              have HPUT := Lib.hid hput
              clear hob hdu hd9 hrow hia hd10 hL hput hHeld hlt hqz hqz2 hne
              go_upto_region 27 with fail
              refine wp_region_last #[{ dst := some 129, op := Op.move (Operand.tmp 7), type := 38, pos := "law.go:103", after := #[], guard := none }, { dst := some 130, op := Op.fieldAddr 31 (Operand.tmp 15) 2, type := 0, pos := "law.go:103", after := #[], guard := none }, { dst := some 131, op := Op.load 9 (Operand.tmp 130), type := 9, pos := "law.go:103", after := #[{ on := 1, ground := Ground.data }], guard := none }, { dst := some 132, op := Op.move (Operand.tmp 18), type := 37, pos := "law.go:103", after := #[], guard := none }, { dst := some 133, op := Op.slice 37 (Operand.tmp 132) (some (Operand.const (Value.int IntKind.i64 1))) none none, type := 37, pos := "law.go:103", after := #[{ on := 3, ground := Ground.data }], guard := none }] { dst := none, op := Op.mapUpdate 38 (Operand.tmp 129) (Operand.tmp 131) (Operand.tmp 133), type := 0, pos := "law.go:103", after := #[{ on := 0, ground := Ground.data }, { on := 2, ground := Ground.data }, { on := 4, ground := Ground.data }, { on := 0, ground := Ground.phase }, { on := 1, ground := Ground.phase }, { on := 2, ground := Ground.phase }, { on := 3, ground := Ground.phase }, { on := 4, ground := Ground.phase }], guard := none } rfl (by kernel_rfl) (by kernel_rfl) (fun w' => w'.cell? ⟨X, 2, none⟩ = some (.string (LN.txt pn))) ?_ (fun hHeld => ?_)
              · exact HC2.out
              refine wpAnyH_take (i := 0) (oi := { dst := some 129, op := Op.move (Operand.tmp 7), type := 38, pos := "law.go:103", after := #[], guard := none }) (v := ?_) rfl (by kernel_rfl) (by kernel_rfl) (by kernel_rfl) (fun _ _ _ h => h) (Or.inl ⟨by rfl, ?_⟩) (by assumption) ?_
              rotate_left
              · ((intro w hSw; (try dsimp only at hSw); go_simp; (try rw [if_neg (by omega)])); try with_reducible rfl)
              (try simp only [Act.put, List.setIfInBounds_toArray, List.set_cons_zero, List.set_cons_succ])
              refine wpAnyH_take (i := 1) (oi := { dst := some 130, op := Op.fieldAddr 31 (Operand.tmp 15) 2, type := 0, pos := "law.go:103", after := #[], guard := none }) (v := ?_) rfl (by kernel_rfl) (by kernel_rfl) (by kernel_rfl) (fun _ _ _ h => h) (Or.inl ⟨by rfl, ?_⟩) (by assumption) ?_
              rotate_left
              · ((intro w hSw; (try dsimp only at hSw); go_simp; (try rw [if_neg (by omega)])); try with_reducible rfl)
              (try simp only [Act.put, List.setIfInBounds_toArray, List.set_cons_zero, List.set_cons_succ])
              refine wpAnyH_take (i := 2) (oi := { dst := some 131, op := Op.load 9 (Operand.tmp 130), type := 9, pos := "law.go:103", after := #[{ on := 1, ground := Ground.data }], guard := none }) (v := ?_) rfl (by kernel_rfl) (by kernel_rfl) (by kernel_rfl) (fun _ _ _ h => h) (Or.inl ⟨by rfl, ?_⟩) (by assumption) ?_
              rotate_left
              · ((intro w hSw; (try dsimp only at hSw); go_simp; (try rw [if_neg (by omega)])); try with_reducible rfl)
              (try simp only [Act.put, List.setIfInBounds_toArray, List.set_cons_zero, List.set_cons_succ])
              refine wpAnyH_take (i := 3) (oi := { dst := some 132, op := Op.move (Operand.tmp 18), type := 37, pos := "law.go:103", after := #[], guard := none }) (v := ?_) rfl (by kernel_rfl) (by kernel_rfl) (by kernel_rfl) (fun _ _ _ h => h) (Or.inl ⟨by rfl, ?_⟩) (by assumption) ?_
              rotate_left
              · ((intro w hSw; (try dsimp only at hSw); go_simp; (try rw [if_neg (by omega)])); try with_reducible rfl)
              (try simp only [Act.put, List.setIfInBounds_toArray, List.set_cons_zero, List.set_cons_succ])
              refine wpAnyH_take (i := 4) (oi := { dst := some 133, op := Op.slice 37 (Operand.tmp 132) (some (Operand.const (Value.int IntKind.i64 1))) none none, type := 37, pos := "law.go:103", after := #[{ on := 3, ground := Ground.data }], guard := none }) (v := ?_) rfl (by kernel_rfl) (by kernel_rfl) (by kernel_rfl) (fun _ _ _ h => h) (Or.inl ⟨by rfl, ?_⟩) (by assumption) ?_
              rotate_left
              · ((intro w hSw; (try dsimp only at hSw); go_simp; (try rw [if_pos (by omega)])); try with_reducible rfl)
              (try simp only [Act.put, List.setIfInBounds_toArray, List.set_cons_zero, List.set_cons_succ])
              refine wpAnyH_done (by kernel_rfl) ?_ _
              show Oper.wp _ _ _ _ _ _
              have hput := HPUT.out
              clear hHeld
              go_wp2
              go_roundw
              case rel => exact ⟨m - 1, N + 1, pt, R', _, by rw [show ((m - 1 : Nat) : Int) = (m : Int) - 1 by omega], rfl, by omega, by omega, Lib.hid (by have := HML2.out; omega), HO2, HG2, HEN2, HLE2, HD10⟩
              case measure => simp [intOf]; omega
            exact AllReadyH.nil
      · have hii : ¬ (i : Int) < (N1 : Int) := by omega
        clear hin hin2
        have HSN := Lib.hid (DP_sn T a1 i)
        have HGD := Lib.hid (DP_gd T a1 i)
        have HEN := Lib.hid (DP_ends T a1 i)
        have HLE := Lib.hid (DP_pos T a1 i)
        obtain ⟨P, hP⟩ : ∃ P, DP T a1 i = P := ⟨_, rfl⟩
        rw [hP] at HSN HGD HEN HLE HD HML
        have hm360 : m ≤ 360 := by have h1 := HSN.out.len; have h2 := HML.out; omega
        have HORD := Lib.hid HSN.out.ord
        clear hP HFN HSN
        go_upto_region 21 with fail
        go_loopw [8, 14] (fun v8 v14 wr => ∃ (m N : Nat) (la : Int) (R : List Pc) (f : Nat → Value), v8 = .int .i64 (m : Int) ∧ v14 = .int .i64 la ∧ m ≤ 360 ∧ N + m ≤ 100000 ∧ Hid (R.length = m) ∧ Hid (LN.Ord R) ∧ Hid (LN.Gd i R) ∧ Hid (∀ p ∈ R, p.f = 0 ∧ p.o = 1) ∧ Hid (∀ q ∈ R, la ≤ q.t) ∧ Hid (Dr w2 w2.heap.size wr M mb T i R N f (LN.due R) H)) (fun v _ _ => (intOf v).toNat)
        case atStart => exact ⟨m, N, 0, P, f, rfl, rfl, hm360, by omega, HML, HORD, HGD, HEN, HLE, HD⟩
        case round =>
          clear HD HLE HEN HGD HORD HML hm360 hNi
          obtain ⟨m, N, la, R, f, rfl, rfl, hm, hNm, HML, HO, HG, HEN, HLE, HD⟩ := hrel
          by_cases hm0 : m = 0
          · subst hm0
            have hR : R = [] := List.eq_nil_of_length_eq_zero HML.out
            subst hR
            have HN := Lib.hid HD.out.none
            go_upto_region 29 with fail
            go_wp2_with fail
            go_at_call 20
            refine HN.out.mono ?_
            rintro x wx ⟨rfl, hx⟩
            have HX := Lib.hid (bnext HB2.out (hx.below (balloc (Below.refl _ wx) ms0C)).bel)
            clear hx
            go_wp2
            go_ret
            exact ⟨rfl, HX.out⟩
          · have hmz : (m : Int) > 0 := by omega
            have hRne : R ≠ [] := fun e => hm0 (by rw [← HML.out, e]; rfl)
            obtain ⟨p, hp⟩ := LN.bs_some hRne
            have hmem := List.mem_of_getElem? hp
            obtain ⟨hps, hpn0, hpni⟩ := HG.out p hmem
            obtain ⟨hpf, hpo⟩ := HEN.out p hmem
            have hla := HLE.out p hmem
            obtain ⟨pn, hpn⟩ : ∃ pn : Nat, p.n = (pn : Int) := ⟨p.n.toNat, by omega⟩
            have hpn40 : pn < 40 := by omega
            rw [hpn, Int.toNat_natCast] at hps
            have hdue := LN.due_best HO.out hp hpn
            have HN := Lib.hid (HD.out.next HO.out (by have := HML.out; omega) p hp)
            obtain ⟨pt, hpt⟩ : ∃ t, p.t = t := ⟨_, rfl⟩
            obtain ⟨R', hR'⟩ : ∃ R', R.eraseIdx (LN.bs R) = R' := ⟨_, rfl⟩
            rw [hpf, hpo, hps, hpt, hR'] at HN
            rw [hpt, hR'] at hdue
            rw [hpt] at hla
            have HML2 : Hid (R'.length + 1 = m) := Lib.hid (by
              rw [← hR', List.length_eraseIdx, if_pos (List.getElem?_eq_some_iff.1 hp).1]
              have h1 := HML.out
              omega)
            have HO2 : Hid (LN.Ord R') := Lib.hid (by rw [← hR']; exact Ord.erase HO.out _)
            have HG2 : Hid (LN.Gd i R') := Lib.hid (by rw [← hR']; exact HG.out.erase _)
            have HEN2 : Hid (∀ p ∈ R', p.f = 0 ∧ p.o = 1) := Lib.hid (fun q hq => by rw [← hR'] at hq; exact HEN.out q (List.mem_of_mem_eraseIdx hq))
            have HLE2 : Hid (∀ q ∈ R', pt ≤ q.t) := Lib.hid (fun q hq => by rw [← hR'] at hq; rw [← hpt]; exact LN.best_le hp q (List.mem_of_mem_eraseIdx hq))
            have HOT : Hid (∀ j, j ≠ pn → LN.due R' j = LN.due R j) := Lib.hid (fun j hj => by rw [← hR']; exact LN.due_other hp (by rw [hpn]; omega))
            have HDUE := Lib.hid hdue
            clear hRne hmem hps hpn0 hpni hpf hpo hpn hdue hpt hR' hp
            go_upto_region 23 with fail
            go_wp2_with fail
            go_at_call 20
            refine HN.out.mono ?_
            rintro x wa ⟨rfl, ha⟩
            have hbx := balloc (Below.refl _ wa) (.cells #[.int .i64 0, .int .i64 1, .string (LN.txt pn)] 31)
            have hxx := heap_alloc_new wa (.cells #[.int .i64 0, .int .i64 1, .string (LN.txt pn)] 31)
            obtain ⟨X, hX⟩ : ∃ X, wa.heap.size = X := ⟨_, rfl⟩
            obtain ⟨w8, hw8⟩ : ∃ w8, wa.alloc (.cells #[.int .i64 0, .int .i64 1, .string (LN.txt pn)] 31) = w8 := ⟨_, rfl⟩
            have hd8 := ha.below hbx
            rw [hw8] at hbx hxx hd8
            rw [hX] at hxx
            have hlk := hd8.map.look pn (by omega)
            obtain ⟨rest, hrest⟩ : ∃ rest, LN.due R' pn = rest := ⟨_, rfl⟩
            have hrow := (hd8.row pn).1
            rw [HDUE.out, hrest] at hrow
            obtain ⟨q, hq⟩ : ∃ q, rest.length = q := ⟨_, rfl⟩
            obtain ⟨ao, c, hfp, -, hcc⟩ := hrow
            obtain ⟨g, o, rfl, hgl, hcell⟩ : ∃ g o, ao = some ⟨g, o, none⟩ ∧ g < w8.heap.size ∧ ∀ (j : Nat) (u : Value), ((pt :: rest).map (Value.int .i64))[j]? = some u → w8.cell? ⟨g, o + j, none⟩ = some u := by
              rcases hcc with ⟨h, -⟩ | ⟨g, o, e, h1, h2⟩
              · simp at h
              · exact ⟨g, o, e, h1, h2⟩
            have k0 : w8.cell? ⟨g, o, none⟩ = some (.int .i64 pt) := hcell 0 _ rfl
            rw [List.length_cons, hq] at hfp
            rw [hfp] at hlk
            have HD8 := Lib.hid hd8
            have HX8 := Lib.hid hxx
            have HREST := Lib.hid hrest
            have HQ := Lib.hid hq
            have HFP := Lib.hid hfp
            have HCELL := Lib.hid hcell
            have x0 := nd_cell (i := 0) hxx rfl
            have x1 := nd_cell (i := 1) hxx rfl
            have x2 := nd_cell (i := 2) hxx rfl
            clear ha hbx hd8 hxx hrest hq hfp hcell
            go_upto_region 24 with fail
            try rw [hX]
            try rw [hw8]
            clear hX hw8
            go_upto_region 25 with fail
            have HCL : Hid (∀ V, Below w8.heap.size w8 V → V.cell? ⟨g, o, none⟩ = some (.int .i64 pt) ∧ V.cell? ⟨X, 0, none⟩ = some (.int .i64 0) ∧ V.cell? ⟨X, 1, none⟩ = some (.int .i64 1) ∧ V.cell? ⟨X, 2, none⟩ = some (.string (LN.txt pn))) := Lib.hid fun V hV => by
              have hb := (hV.block X (Array.getElem?_eq_some_iff.1 HX8.out).1).trans HX8.out
              exact ⟨(hV.cell (p := ⟨g, o, none⟩) hgl).trans k0, nd_cell hb rfl, nd_cell hb rfl, nd_cell hb rfl⟩
            have hlt : ¬ pt < la := by omega
            have hqz : ((((q + 1 : Nat) : Int)) == 0) = false := by simp; omega
            have hqz2 : ((q : Int) + 1 == 0) = false := by simp; omega
            have hq1 : (0 : Int) < ((q + 1 : Nat) : Int) := by omega
            have hne := fun w => neq_ms w 0 1 (LN.txt pn)
            have HWD0 := Below.drew (Below.refl w8.heap.size w8)
            obtain ⟨W0, hW0⟩ : ∃ W0, w8.drew = W0 := ⟨_, rfl⟩
            rw [hW0] at HWD0
            have HWD := Lib.hid HWD0
            have HW0 := Lib.hid hW0
            clear HWD0 hW0 k0 x0 x1 x2 hlk hgl
            refine wp_region_held_drew (S := (fun w' => w'.cell? ⟨g, o, none⟩ = some (.int .i64 pt) ∧ w'.cell? ⟨X, 0, none⟩ = some (.int .i64 0) ∧ w'.cell? ⟨X, 1, none⟩ = some (.int .i64 1) ∧ w'.cell? ⟨X, 2, none⟩ = some (.string (LN.txt pn)))) (by kernel_rfl) ?_ (fun hHeld => ?_)
            · (rw [HW0.out]; exact HCL.out _ HWD.out)
            rw [HW0.out] at hHeld ⊢
            refine wpAnyH_take (i := 0) (oi := { dst := some 103, op := Op.move (Operand.tmp 17), type := 4, pos := "law.go:100", after := #[], guard := none }) (v := ?_) rfl (by kernel_rfl) (by kernel_rfl) (by kernel_rfl) (fun _ _ _ h => h) (Or.inl ⟨by rfl, ?_⟩) (by assumption) ?_
            rotate_left
            · ((intro w hSw; (try dsimp only at hSw); go_simp; (try rw [if_neg (by omega)])); try with_reducible rfl)
            (try simp only [Act.put, List.setIfInBounds_toArray, List.set_cons_zero, List.set_cons_succ])
            refine wpAnyH_take (i := 1) (oi := { dst := some 104, op := Op.unOp UnOp.not 4 (Operand.tmp 103), type := 4, pos := "law.go:100", after := #[{ on := 0, ground := Ground.data }], guard := none }) (v := ?_) rfl (by kernel_rfl) (by kernel_rfl) (by kernel_rfl) (fun _ _ _ h => h) (Or.inl ⟨by rfl, ?_⟩) (by assumption) ?_
            rotate_left
            · ((intro w hSw; (try dsimp only at hSw); go_simp; (try rw [if_neg (by omega)])); try with_reducible rfl)
            (try simp only [Act.put, List.setIfInBounds_toArray, List.set_cons_zero, List.set_cons_succ])
            refine wpAnyH_take (i := 2) (oi := { dst := some 105, op := Op.move (Operand.tmp 104), type := 4, pos := "law.go:100", after := #[{ on := 1, ground := Ground.data }], guard := none }) (v := ?_) rfl (by kernel_rfl) (by kernel_rfl) (by kernel_rfl) (fun _ _ _ h => h) (Or.inl ⟨by rfl, ?_⟩) (by assumption) ?_
            rotate_left
            · ((intro w hSw; (try dsimp only at hSw); go_simp; (try rw [if_neg (by omega)])); try with_reducible rfl)
            (try simp only [Act.put, List.setIfInBounds_toArray, List.set_cons_zero, List.set_cons_succ])
            refine wpAnyH_take (i := 3) (oi := { dst := some 106, op := Op.move (Operand.tmp 16), type := 3, pos := "law.go:100", after := #[{ on := 2, ground := Ground.guard }], guard := some (2, false) }) (v := ?_) rfl (by kernel_rfl) (by kernel_rfl) (by kernel_rfl) (fun _ _ _ h => h) (Or.inl ⟨by rfl, ?_⟩) (by assumption) ?_
            rotate_left
            · ((intro w hSw; (try dsimp only at hSw); go_simp; (try rw [if_neg (by omega)])); try with_reducible rfl)
            (try simp only [Act.put, List.setIfInBounds_toArray, List.set_cons_zero, List.set_cons_succ])
            refine wpAnyH_take (i := 4) (oi := { dst := some 107, op := Op.move (Operand.tmp 14), type := 3, pos := "law.go:100", after := #[{ on := 2, ground := Ground.guard }], guard := some (2, false) }) (v := ?_) rfl (by kernel_rfl) (by kernel_rfl) (by kernel_rfl) (fun _ _ _ h => h) (Or.inl ⟨by rfl, ?_⟩) (by assumption) ?_
            rotate_left
            · ((intro w hSw; (try dsimp only at hSw); go_simp; (try rw [if_neg (by omega)])); try with_reducible rfl)
            (try simp only [Act.put, List.setIfInBounds_toArray, List.set_cons_zero, List.set_cons_succ])
            refine wpAnyH_take (i := 5) (oi := { dst := some 108, op := Op.binOp BinOp.lss 3 (Operand.tmp 106) (Operand.tmp 107) 3, type := 4, pos := "law.go:100", after := #[{ on := 3, ground := Ground.data }, { on := 4, ground := Ground.data }, { on := 2, ground := Ground.guard }], guard := some (2, false) }) (v := ?_) rfl (by kernel_rfl) (by kernel_rfl) (by kernel_rfl) (fun _ _ _ h => h) (Or.inl ⟨by rfl, ?_⟩) (by assumption) ?_
            rotate_left
            · ((intro w hSw; (try dsimp only at hSw); go_simp; (try rw [if_neg (by omega)])); try with_reducible rfl)
            (try simp only [Act.put, List.setIfInBounds_toArray, List.set_cons_zero, List.set_cons_succ])
            refine wpAnyH_take (i := 6) (oi := { dst := some 109, op := Op.pick (Operand.tmp 105) (Operand.const (Value.bool true)) (Operand.tmp 108), type := 4, pos := "law.go:100", after := #[{ on := 2, ground := Ground.data }, { on := 5, ground := Ground.data }], guard := none }) (v := ?_) rfl (by kernel_rfl) (by kernel_rfl) (by kernel_rfl) (fun _ _ _ h => h) (Or.inl ⟨by rfl, ?_⟩) (by assumption) ?_
            rotate_left
            · ((intro w hSw; (try dsimp only at hSw); go_simp; (try rw [if_neg (by omega)])); try with_reducible rfl)
            (try simp only [Act.put, List.setIfInBounds_toArray, List.set_cons_zero, List.set_cons_succ])
            refine wpAnyH_take (i := 7) (oi := { dst := some 110, op := Op.move (Operand.tmp 109), type := 4, pos := "law.go:100", after := #[{ on := 6, ground := Ground.data }, { on := 2, ground := Ground.chain }], guard := none }) (v := ?_) rfl (by kernel_rfl) (by kernel_rfl) (by kernel_rfl) (fun _ _ _ h => h) (Or.inl ⟨by rfl, ?_⟩) (by assumption) ?_
            rotate_left
            · ((intro w hSw; (try dsimp only at hSw); go_simp; (try rw [if_neg (by omega)])); try with_reducible rfl)
            (try simp only [Act.put, List.setIfInBounds_toArray, List.set_cons_zero, List.set_cons_succ])
            refine wpAnyH_take (i := 8) (oi := { dst := some 111, op := Op.move (Operand.tmp 18), type := 37, pos := "law.go:100", after := #[{ on := 7, ground := Ground.guard }], guard := some (7, false) }) (v := ?_) rfl (by kernel_rfl) (by kernel_rfl) (by kernel_rfl) (fun _ _ _ h => h) (Or.inl ⟨by rfl, ?_⟩) (by assumption) ?_
            rotate_left
            · ((intro w hSw; (try dsimp only at hSw); go_simp; (try rw [if_neg (by omega)])); try with_reducible rfl)
            (try simp only [Act.put, List.setIfInBounds_toArray, List.set_cons_zero, List.set_cons_succ])
            refine wpAnyH_take (i := 9) (oi := { dst := some 112, op := Op.call { callee := Callee.builtin Builtin.len, args := #[Operand.tmp 111], argTypes := #[37] }, type := 3, pos := "law.go:100", after := #[{ on := 8, ground := Ground.data }, { on := 7, ground := Ground.guard }], guard := some (7, false) }) (v := ?_) rfl (by kernel_rfl) (by kernel_rfl) (by kernel_rfl) (fun _ _ _ h => h) (Or.inl ⟨by rfl, ?_⟩) (by assumption) ?_
            rotate_left
            · ((intro w hSw; (try dsimp only at hSw); go_simp; (try rw [if_neg (by omega)])); try with_reducible rfl)
            (try simp only [Act.put, List.setIfInBounds_toArray, List.set_cons_zero, List.set_cons_succ])
            refine wpAnyH_take (i := 10) (oi := { dst := some 113, op := Op.binOp BinOp.eql 3 (Operand.tmp 112) (Operand.const (Value.int IntKind.i64 0)) 3, type := 4, pos := "law.go:100", after := #[{ on := 9, ground := Ground.data }, { on := 7, ground := Ground.guard }], guard := some (7, false) }) (v := ?_) rfl (by kernel_rfl) (by kernel_rfl) (by kernel_rfl) (fun _ _ _ h => h) (Or.inl ⟨by rfl, ?_⟩) (by assumption) ?_
            rotate_left
            · ((intro w hSw; (try dsimp only at hSw); go_simp; (try rw [if_neg (by omega)])); try with_reducible rfl)
            (try simp only [Act.put, List.setIfInBounds_toArray, List.set_cons_zero, List.set_cons_succ])
            refine wpAnyH_take (i := 11) (oi := { dst := some 114, op := Op.pick (Operand.tmp 110) (Operand.const (Value.bool true)) (Operand.tmp 113), type := 4, pos := "law.go:100", after := #[{ on := 7, ground := Ground.data }, { on := 10, ground := Ground.data }], guard := none }) (v := ?_) rfl (by kernel_rfl) (by kernel_rfl) (by kernel_rfl) (fun _ _ _ h => h) (Or.inl ⟨by rfl, ?_⟩) (by assumption) ?_
            rotate_left
            · ((intro w hSw; (try dsimp only at hSw); go_simp; (try rw [if_neg (by omega)])); try with_reducible rfl)
            (try simp only [Act.put, List.setIfInBounds_toArray, List.set_cons_zero, List.set_cons_succ])
            refine wpAnyH_take (i := 12) (oi := { dst := some 115, op := Op.move (Operand.tmp 114), type := 4, pos := "law.go:100", after := #[{ on := 11, ground := Ground.data }, { on := 7, ground := Ground.chain }], guard := none }) (v := ?_) rfl (by kernel_rfl) (by kernel_rfl) (by kernel_rfl) (fun _ _ _ h => h) (Or.inl ⟨by rfl, ?_⟩) (by assumption) ?_
            rotate_left
            · ((intro w hSw; (try dsimp only at hSw); go_simp; (try rw [if_neg (by omega)])); try with_reducible rfl)
            (try simp only [Act.put, List.setIfInBounds_toArray, List.set_cons_zero, List.set_cons_succ])
            refine wpAnyH_take (i := 13) (oi := { dst := some 116, op := Op.move (Operand.tmp 18), type := 37, pos := "law.go:100", after := #[{ on := 12, ground := Ground.guard }], guard := some (12, false) }) (v := ?_) rfl (by kernel_rfl) (by kernel_rfl) (by kernel_rfl) (fun _ _ _ h => h) (Or.inl ⟨by rfl, ?_⟩) (by assumption) ?_
            rotate_left
            · ((intro w hSw; (try dsimp only at hSw); go_simp; (try rw [if_neg (by omega)])); try with_reducible rfl)
            (try simp only [Act.put, List.setIfInBounds_toArray, List.set_cons_zero, List.set_cons_succ])
            refine wpAnyH_take (i := 14) (oi := { dst := some 117, op := Op.indexAddr 37 (Operand.tmp 116) (Operand.const (Value.int IntKind.i64 0)), type := 0, pos := "law.go:100", after := #[{ on := 13, ground := Ground.data }, { on := 12, ground := Ground.guard }], guard := some (12, false) }) (v := ?_) rfl (by kernel_rfl) (by kernel_rfl) (by kernel_rfl) (fun _ _ _ h => h) (Or.inl ⟨by rfl, ?_⟩) (by assumption) ?_
            rotate_left
            · ((intro w hSw; (try dsimp only at hSw); go_simp; (try rw [if_neg (by omega)])); try with_reducible rfl)
            (try simp only [Act.put, List.setIfInBounds_toArray, List.set_cons_zero, List.set_cons_succ])
            refine wpAnyH_take (i := 15) (oi := { dst := some 118, op := Op.load 3 (Operand.tmp 117), type := 3, pos := "law.go:100", after := #[{ on := 14, ground := Ground.data }, { on := 12, ground := Ground.guard }], guard := some (12, false) }) (v := ?_) rfl (by kernel_rfl) (by kernel_rfl) (by kernel_rfl) (fun _ _ _ h => h) (Or.inl ⟨by rfl, ?_⟩) (by assumption) ?_
            rotate_left
            · ((intro w hSw; (try dsimp only at hSw); go_simp; (try rw [if_neg (by omega)])); try with_reducible rfl)
            (try simp only [Act.put, List.setIfInBounds_toArray, List.set_cons_zero, List.set_cons_succ])
            refine wpAnyH_take (i := 16) (oi := { dst := some 119, op := Op.move (Operand.tmp 16), type := 3, pos := "law.go:100", after := #[{ on := 12, ground := Ground.guard }], guard := some (12, false) }) (v := ?_) rfl (by kernel_rfl) (by kernel_rfl) (by kernel_rfl) (fun _ _ _ h => h) (Or.inl ⟨by rfl, ?_⟩) (by assumption) ?_
            rotate_left
            · ((intro w hSw; (try dsimp only at hSw); go_simp; (try rw [if_neg (by omega)])); try with_reducible rfl)
            (try simp only [Act.put, List.setIfInBounds_toArray, List.set_cons_zero, List.set_cons_succ])
            refine wpAnyH_take (i := 17) (oi := { dst := some 120, op := Op.binOp BinOp.neq 3 (Operand.tmp 118) (Operand.tmp 119) 3, type := 4, pos := "law.go:100", after := #[{ on := 15, ground := Ground.data }, { on := 16, ground := Ground.data }, { on := 12, ground := Ground.guard }], guard := some (12, false) }) (v := ?_) rfl (by kernel_rfl) (by kernel_rfl) (by kernel_rfl) (fun _ _ _ h => h) (Or.inl ⟨by rfl, ?_⟩) (by assumption) ?_
            rotate_left
            · ((intro w hSw; (try dsimp only at hSw); go_simp; (try rw [if_neg (by omega)])); try with_reducible rfl)
            (try simp only [Act.put, List.setIfInBounds_toArray, List.set_cons_zero, List.set_cons_succ])
            refine wpAnyH_take (i := 18) (oi := { dst := some 121, op := Op.pick (Operand.tmp 115) (Operand.const (Value.bool true)) (Operand.tmp 120), type := 4, pos := "law.go:100", after := #[{ on := 12, ground := Ground.data }, { on := 17, ground := Ground.data }], guard := none }) (v := ?_) rfl (by kernel_rfl) (by kernel_rfl) (by kernel_rfl) (fun _ _ _ h => h) (Or.inl ⟨by rfl, ?_⟩) (by assumption) ?_
            rotate_left
            · ((intro w hSw; (try dsimp only at hSw); go_simp; (try rw [if_neg (by omega)])); try with_reducible rfl)
            (try simp only [Act.put, List.setIfInBounds_toArray, List.set_cons_zero, List.set_cons_succ])
            refine wpAnyH_take (i := 19) (oi := { dst := some 122, op := Op.move (Operand.tmp 121), type := 4, pos := "law.go:100", after := #[{ on := 18, ground := Ground.data }, { on := 12, ground := Ground.chain }], guard := none }) (v := ?_) rfl (by kernel_rfl) (by kernel_rfl) (by kernel_rfl) (fun _ _ _ h => h) (Or.inl ⟨by rfl, ?_⟩) (by assumption) ?_
            rotate_left
            · ((intro w hSw; (try dsimp only at hSw); go_simp; (try rw [if_neg (by omega)])); try with_reducible rfl)
            (try simp only [Act.put, List.setIfInBounds_toArray, List.set_cons_zero, List.set_cons_succ])
            refine wpAnyH_take (i := 20) (oi := { dst := some 123, op := Op.load 31 (Operand.tmp 15), type := 31, pos := "law.go:100", after := #[{ on := 19, ground := Ground.guard }], guard := some (19, false) }) (v := ?_) rfl (by kernel_rfl) (by kernel_rfl) (by kernel_rfl) (fun _ _ _ h => h) (Or.inl ⟨by rfl, ?_⟩) (by assumption) ?_
            rotate_left
            · ((intro w hSw; (try dsimp only at hSw); go_simp; (try rw [if_neg (by omega)])); try with_reducible rfl)
            (try simp only [Act.put, List.setIfInBounds_toArray, List.set_cons_zero, List.set_cons_succ])
            refine wpAnyH_take (i := 21) (oi := { dst := some 124, op := Op.fieldAddr 31 (Operand.tmp 15) 2, type := 0, pos := "law.go:100", after := #[{ on := 19, ground := Ground.guard }], guard := some (19, false) }) (v := ?_) rfl (by kernel_rfl) (by kernel_rfl) (by kernel_rfl) (fun _ _ _ h => h) (Or.inl ⟨by rfl, ?_⟩) (by assumption) ?_
            rotate_left
            · ((intro w hSw; (try dsimp only at hSw); go_simp; (try rw [if_neg (by omega)])); try with_reducible rfl)
            (try simp only [Act.put, List.setIfInBounds_toArray, List.set_cons_zero, List.set_cons_succ])
            refine wpAnyH_take (i := 22) (oi := { dst := some 125, op := Op.load 9 (Operand.tmp 124), type := 9, pos := "law.go:100", after := #[{ on := 21, ground := Ground.data }, { on := 19, ground := Ground.guard }], guard := some (19, false) }) (v := ?_) rfl (by kernel_rfl) (by kernel_rfl) (by kernel_rfl) (fun _ _ _ h => h) (Or.inl ⟨by rfl, ?_⟩) (by assumption) ?_
            rotate_left
            · ((intro w hSw; (try dsimp only at hSw); go_simp; (try rw [if_neg (by omega)])); try with_reducible rfl)
            (try simp only [Act.put, List.setIfInBounds_toArray, List.set_cons_zero, List.set_cons_succ])
            refine wpAnyH_ready (rs := [23]) (by kernel_rfl) (by simp) ?_
            refine AllReadyH.cons (o := { dst := some 126, op := Op.call { callee := Callee.value (Operand.func 18), args := #[Operand.tmp 125], argTypes := #[9] }, type := 31, pos := "law.go:100", after := #[{ on := 22, ground := Ground.data }, { on := 19, ground := Ground.chain }, { on := 19, ground := Ground.guard }], guard := some (19, false) }) rfl (fun K hK => ?_) ?_
            · (go_simp; go_at_call 18; refine (told_any _ _).mono ?_; rintro u wz ⟨rfl, dz⟩; have bz := bnext HWD.out dz; clear dz; dsimp only)
              refine hK.out _ _ ?_ (fun hHeld => ?_)
              · exact HCL.out _ bz
              clear hK K
              (try simp only [Act.put, List.setIfInBounds_toArray, List.set_cons_zero, List.set_cons_succ])
              refine wpAnyH_take (i := 24) (oi := { dst := some 127, op := Op.binOp BinOp.neq 31 (Operand.tmp 123) (Operand.tmp 126) 31, type := 4, pos := "law.go:100", after := #[{ on := 20, ground := Ground.data }, { on := 23, ground := Ground.data }, { on := 19, ground := Ground.guard }], guard := some (19, false) }) (v := ?_) rfl (by kernel_rfl) (by kernel_rfl) (by kernel_rfl) (fun _ _ _ h => h) (Or.inl ⟨by rfl, ?_⟩) (by assumption) ?_
              rotate_left
              · ((intro w hSw; (try dsimp only at hSw); go_simp; (try rw [if_neg (by omega)])); try with_reducible rfl)
              (try simp only [Act.put, List.setIfInBounds_toArray, List.set_cons_zero, List.set_cons_succ])
              refine wpAnyH_take (i := 25) (oi := { dst := some 128, op := Op.pick (Operand.tmp 122) (Operand.const (Value.bool true)) (Operand.tmp 127), type := 4, pos := "law.go:100", after := #[{ on := 19, ground := Ground.data }, { on := 24, ground := Ground.data }], guard := none }) (v := ?_) rfl (by kernel_rfl) (by kernel_rfl) (by kernel_rfl) (fun _ _ _ h => h) (Or.inl ⟨by rfl, ?_⟩) (by assumption) ?_
              rotate_left
              · ((intro w hSw; (try dsimp only at hSw); go_simp; (try rw [if_neg (by omega)])); try with_reducible rfl)
              (try simp only [Act.put, List.setIfInBounds_toArray, List.set_cons_zero, List.set_cons_succ])
              refine wpAnyH_done (by kernel_rfl) ?_ _
              have HC2 : Hid (wz.drew.cell? ⟨X, 2, none⟩ = some (.string (LN.txt pn))) := Lib.hid (HCL.out _ (Below.drew bz)).2.2.2
              have hcap := HD8.out.cap pn _ _ _ HFP.out
              obtain ⟨hcap1, hcap2⟩ := hcap
              unfold maxLen at hcap2
              obtain ⟨ad, had⟩ : ∃ ad : Option Addr, (if c = 1 then some (⟨g, o, none⟩ : Addr) else some ⟨g, o + 1, none⟩) = ad := ⟨_, rfl⟩
              have hob : (Value.slice ad q (c - 1)).ownBlock = some g := by rw [← had]; split <;> rfl
              have hdu : Du (.slice ad q (c - 1)) := .inr (by
                by_cases h1 : c = 1
                · exact ⟨g, o, q, c - 1, by rw [← had, if_pos h1]⟩
                · exact ⟨g, o + 1, q, c - 1, by rw [← had, if_neg h1]⟩)
              have hd9 := (HD8.out.below bz).below (Below.drew (Below.refl wz.heap.size wz))
              have hrow := (hd9.row pn).1
              rw [HFP.out, HDUE.out, HREST.out] at hrow
              have hia := hrow.drop1 HQ.out hcap1 had
              obtain ⟨w9, hput, hd10⟩ := hd9.put pn (by omega) (by omega) (.slice ad q (c - 1)) rest hdu hia (fun a n cc e => by injection e with _ e1 e2; subst e1 e2; unfold maxLen; omega) (fun b e => (hd9.row pn).2 b (by rw [HFP.out]; exact (show (Value.slice (some ⟨g, o, none⟩) (q + 1) c).ownBlock = some g from rfl).trans (hob.symm.trans e)))
              have hL : (fun y => if y = pn then rest else LN.due R y) = LN.due R' := by
                funext y
                by_cases hy : y = pn
                · rw [if_pos hy, hy]
                  exact HREST.out.symm
                · rw [if_neg hy]
                  exact (HOT.out y hy).symm
              rw [hL] at hd10
              have HD10 := Lib.hid hd10
              have HPUT := Lib.hid hput
              clear hob hdu hd9 hrow hia hd10 hL hput hHeld hlt hqz hqz2 hne
              go_upto_region 27 with fail
              refine wp_region_last #[{ dst := some 129, op := Op.move (Operand.tmp 7), type := 38, pos := "law.go:103", after := #[], guard := none }, { dst := some 130, op := Op.fieldAddr 31 (Operand.tmp 15) 2, type := 0, pos := "law.go:103", after := #[], guard := none }, { dst := some 131, op := Op.load 9 (Operand.tmp 130), type := 9, pos := "law.go:103", after := #[{ on := 1, ground := Ground.data }], guard := none }, { dst := some 132, op := Op.move (Operand.tmp 18), type := 37, pos := "law.go:103", after := #[], guard := none }, { dst := some 133, op := Op.slice 37 (Operand.tmp 132) (some (Operand.const (Value.int IntKind.i64 1))) none none, type := 37, pos := "law.go:103", after := #[{ on := 3, ground := Ground.data }], guard := none }] { dst := none, op := Op.mapUpdate 38 (Operand.tmp 129) (Operand.tmp 131) (Operand.tmp 133), type := 0, pos := "law.go:103", after := #[{ on := 0, ground := Ground.data }, { on := 2, ground := Ground.data }, { on := 4, ground := Ground.data }, { on := 0, ground := Ground.phase }, { on := 1, ground := Ground.phase }, { on := 2, ground := Ground.phase }, { on := 3, ground := Ground.phase }, { on := 4, ground := Ground.phase }], guard := none } rfl (by kernel_rfl) (by kernel_rfl) (fun w' => w'.cell? ⟨X, 2, none⟩ = some (.string (LN.txt pn))) ?_ (fun hHeld => ?_)
              · exact HC2.out
              refine wpAnyH_take (i := 0) (oi := { dst := some 129, op := Op.move (Operand.tmp 7), type := 38, pos := "law.go:103", after := #[], guard := none }) (v := ?_) rfl (by kernel_rfl) (by kernel_rfl) (by kernel_rfl) (fun _ _ _ h => h) (Or.inl ⟨by rfl, ?_⟩) (by assumption) ?_
              rotate_left
              · ((intro w hSw; (try dsimp only at hSw); go_simp; (try rw [if_neg (by omega)])); try with_reducible rfl)
              (try simp only [Act.put, List.setIfInBounds_toArray, List.set_cons_zero, List.set_cons_succ])
              refine wpAnyH_take (i := 1) (oi := { dst := some 130, op := Op.fieldAddr 31 (Operand.tmp 15) 2, type := 0, pos := "law.go:103", after := #[], guard := none }) (v := ?_) rfl (by kernel_rfl) (by kernel_rfl) (by kernel_rfl) (fun _ _ _ h => h) (Or.inl ⟨by rfl, ?_⟩) (by assumption) ?_
              rotate_left
              · ((intro w hSw; (try dsimp only at hSw); go_simp; (try rw [if_neg (by omega)])); try with_reducible rfl)
              (try simp only [Act.put, List.setIfInBounds_toArray, List.set_cons_zero, List.set_cons_succ])
              refine wpAnyH_take (i := 2) (oi := { dst := some 131, op := Op.load 9 (Operand.tmp 130), type := 9, pos := "law.go:103", after := #[{ on := 1, ground := Ground.data }], guard := none }) (v := ?_) rfl (by kernel_rfl) (by kernel_rfl) (by kernel_rfl) (fun _ _ _ h => h) (Or.inl ⟨by rfl, ?_⟩) (by assumption) ?_
              rotate_left
              · ((intro w hSw; (try dsimp only at hSw); go_simp; (try rw [if_neg (by omega)])); try with_reducible rfl)
              (try simp only [Act.put, List.setIfInBounds_toArray, List.set_cons_zero, List.set_cons_succ])
              refine wpAnyH_take (i := 3) (oi := { dst := some 132, op := Op.move (Operand.tmp 18), type := 37, pos := "law.go:103", after := #[], guard := none }) (v := ?_) rfl (by kernel_rfl) (by kernel_rfl) (by kernel_rfl) (fun _ _ _ h => h) (Or.inl ⟨by rfl, ?_⟩) (by assumption) ?_
              rotate_left
              · ((intro w hSw; (try dsimp only at hSw); go_simp; (try rw [if_neg (by omega)])); try with_reducible rfl)
              (try simp only [Act.put, List.setIfInBounds_toArray, List.set_cons_zero, List.set_cons_succ])
              refine wpAnyH_take (i := 4) (oi := { dst := some 133, op := Op.slice 37 (Operand.tmp 132) (some (Operand.const (Value.int IntKind.i64 1))) none none, type := 37, pos := "law.go:103", after := #[{ on := 3, ground := Ground.data }], guard := none }) (v := ?_) rfl (by kernel_rfl) (by kernel_rfl) (by kernel_rfl) (fun _ _ _ h => h) (Or.inl ⟨by rfl, ?_⟩) (by assumption) ?_
              rotate_left
              · ((intro w hSw; (try dsimp only at hSw); go_simp; (try rw [if_pos (by omega)])); try with_reducible rfl)
              (try simp only [Act.put, List.setIfInBounds_toArray, List.set_cons_zero, List.set_cons_succ])
              refine wpAnyH_done (by kernel_rfl) ?_ _
              show Oper.wp _ _ _ _ _ _
              have hput := HPUT.out
              clear hHeld
              go_wp2
              go_roundw
              case rel => exact ⟨m - 1, N + 1, pt, R', _, by rw [show ((m - 1 : Nat) : Int) = (m : Int) - 1 by omega], rfl, by omega, by omega, Lib.hid (by have := HML2.out; omega), HO2, HG2, HEN2, HLE2, HD10⟩
              case measure => simp [intOf]; omega
            exact AllReadyH.nil

set_option maxRecDepth 100000 in
theorem lifted (os : Os) (started : os.Started) (H : Type) (enc : TypeId × Value → H) :
    ReturnsInHanded {} Try.checked os 4 .any (Rows.linesDrainsSpec.pre6 enc Try.prog Try.f4 Rows.linesDrainsRow.domain false) (Rows.linesDrainsSpec.post enc Try.prog Try.f4 false true false false) := by
  refine returnsInHanded_of_change (C := Try.checked) own started (by kernel_rfl) Try.func4
    (ChangeSpec.witness6 (enc := enc) (C := Try.checked) false ⟨#[], #[.slice none 0 0, .slice none 0 0], []⟩ 8 (by kernel_rfl) (by kernel_rfl) (by kernel_rfl) (by kernel_rfl)) ?_
  intro W base args ds gs before hval0 hW hcnd _
  have hval : ∀ (j : Nat) t v, Try.f4.params[j]? = some t → args[j]? = some v → Value.okWide Try.prog W .any base t v := hval0
  have hW' := hW
  obtain ⟨p, q, hA0, hV, rfl, hfz, hnd⟩ := hW
  have hA : DataW.TrodAll enc Try.prog W 0 (fun _ => true) true Try.f4.params.toList args.toList ds p := hA0
  rw [Try.params4] at hA hval
  obtain ⟨v0, vs0, d0, ds0, p0, q0, hargs, rfl, rfl, h0, r0⟩ := trodAll_cons hA
  obtain ⟨v1, vs1, d1, ds1, p1, q1, rfl, rfl, rfl, h1, r1⟩ := trodAll_cons r0
  obtain ⟨rfl, rfl, rfl⟩ := trodAll_nil r1
  obtain rfl : args = #[v0, v1] := by cases args; simp_all
  obtain ⟨rfl, rfl⟩ := trodVars_none hV
  have k0 := h0
  have lt0 : ∀ x ∈ p0, x.block < W.heap.size := by obtain ⟨m, hm⟩ := k0; exact DataW.trod_lt m _ _ _ hm
  have k1 := h1
  have lt1 : ∀ x ∈ p1, x.block < W.heap.size := by obtain ⟨m, hm⟩ := k1; exact DataW.trod_lt m _ _ _ hm
  obtain ⟨a0, H0⟩ := open_trs (hval 0 22 v0 rfl rfl) h0
  obtain ⟨a1, H1, L1, E1⟩ := open_l (hval 1 37 v1 rfl rfl) h1
  clear hA0 hval0
  refine (walk v0 a0 v1 a1  W H0 H1 L1 E1).mono fun e W' ⟨he, bel⟩ => ?_
  subst he
  exact ⟨_, rfl, _, _, _, [], _, [], hW', trodAll_mk1 (shut_bool Try.underlying4 _), (trodAll_cons_mk (Below.trod laidOut (by kernel_rfl) (of_decide_eq_true (by kernel_rfl)) k0 bel lt0) (trodAll_cons_mk (Below.trod laidOut (by kernel_rfl) (of_decide_eq_true (by kernel_rfl)) k1 bel lt1) trodAll_mk0)), rfl, bel.frame _, fun h => by cases h⟩

theorem over : Rows.linesDrainsRow.holds Try.pinned (OpenSpec.ofChange Rows.linesDrainsSpec) :=
  OpenClaim.holds_of_wide 4 Try.f4 rfl rfl rfl rfl rfl rfl rfl ⟨rfl, rfl, rfl, rfl, rfl⟩ rfl rfl rfl rfl rfl (by kernel_rfl) Try.func4 (by kernel_rfl)
    (of_decide_eq_true (by kernel_rfl)) (by unfold Func.isWrapper; first | (rw [if_pos (by decide +kernel)]; kernel_rfl) | (rw [if_neg (by decide +kernel)]; exact ⟨rfl, rfl⟩))
    (fun os started H enc _ => lifted os started H enc)

end Go.Proofs.Ytgphdgalcbcamaa.linesDrains
namespace Go.Proofs.Ytgphdgalcbcamaa
theorem linesDrains_proved : Rows.LinesDrainsSaid := linesDrains.over
#print axioms linesDrains_proved
end Go.Proofs.Ytgphdgalcbcamaa
