/- The law's examples hold. No conditions. -/
import Derived.Test.YtinkhgmdeldniaaSgnEx
import Derived.Test.YtinkhgmdeldniaaSgnBack
import Derived.Test.YtinkhgmdeldniaaLater
namespace Go.Proofs.Ytinkhgmdeldniaa.SG
set_option maxRecDepth 100000
structure Ex (P Q : ByteArray) (i : Nat) (S : ByteArray) : Prop where
  sig : sign bs 4 (i : Int) bm = (S, 0)
  size : S.size = 183
  good : check P bm S = true
  other : check P bn S = false
  foreign : check Q bm S = false
  more : check P bm (S ++ ⟨#[0]⟩) = false
  less : check P bm (S.extract 1 S.size) = false
theorem ex_any : ∃ P Q S0 S3 : ByteArray, pub bs 4 = (P, 0) ∧ pub bt 4 = (Q, 0) ∧ P ≠ Q ∧ P.size ≤ 100 ∧ Q.size ≤ 100 ∧ Ex P Q 0 S0 ∧ Ex P Q 3 S3 :=
  ⟨ps, pt, s0, s3, pub_s, pub_t, by decide, by decide, by decide, ⟨sign_0, sizes.1, chk_0.1, chk_0.2.1, chk_0.2.2.1, chk_0.2.2.2.1, chk_0.2.2.2.2⟩, ⟨sign_3, sizes.2.1, chk_3.1, chk_3.2.1, chk_3.2.2.1, chk_3.2.2.2.1, chk_3.2.2.2.2⟩⟩
theorem ex_end : ∃ (s : List UInt8) (a b c : Nat), sign bs 1 0 ⟨#[]⟩ = (W.WP.S s, 0) ∧ s.length ≤ 1000 ∧ (⟨s, 0, false⟩ : W.WP.RS).int = (0, ⟨s, a, false⟩) ∧ (⟨s, a, false⟩ : W.WP.RS).texts = (le, ⟨s, b, false⟩) ∧ (⟨s, b, false⟩ : W.WP.RS).texts = ([], ⟨s, c, false⟩) :=
  ⟨se.data.toList, 1, 164, 165, by rw [W.WP.S_of]; exact sign_e, by decide, read_e, read_l, read_p⟩
theorem le_len : le.length = 18 := rfl
theorem link_at (c : Nat) (hc : c < 18) : (link bs 0 (c : Int) (dg c)) = W.WP.S (le.getD c []) := by
  rw [← link_e ⟨c, hc⟩, W.WP.S_of]
theorem dg_le (c : Nat) : dg c ≤ 15 := by
  unfold dg
  rcases Nat.lt_or_ge c 18 with h | h
  · have : ∀ c : Fin 18, [0, 0, 0, 0, 0, 0, 0, 7, 0, 0, 0, 0, 0, 0, 0, 11, 13, 14].getD c.val 0 ≤ 15 := by decide
    exact this ⟨c, h⟩
  · rw [List.getD_eq_getElem?_getD, List.getElem?_eq_none (by simpa using h)]
    exact Nat.zero_le _
end Go.Proofs.Ytinkhgmdeldniaa.SG
namespace Go.Proofs.Ytinkhgmdeldniaa
set_option maxRecDepth 100000
set_option linter.unusedVariables false
open Go.RowKit Go.Deep
theorem pub_c {s z : ByteArray} {n k : Int} (hz : SG.pub s n = (z, k)) (hs : s.size ≤ 1000000) (hn : -9223372036854775808 ≤ n ∧ n ≤ 9223372036854775807) (w : World) : Calls Try.prog 13 #[.string s, .int .i64 n] w fun e w' => e = .returned (.tuple #[.string z, .int .i64 k]) ∧ Below w.heap.size w w' := by
  have := public_any s n w hs hn
  rwa [hz] at this
theorem sign_c {s m z : ByteArray} {n i k : Int} (hz : SG.sign s n i m = (z, k)) (hs : s.size ≤ 1000000) (hm : m.size ≤ 1000000) (w : World) : Calls Try.prog 15 #[.string s, .int .i64 n, .int .i64 i, .string m] w fun e w' => e = .returned (.tuple #[.string z, .int .i64 k]) ∧ Below w.heap.size w w' := by
  have := sign_any s n i m w hs hm
  rwa [hz] at this
theorem check_c {p m s : ByteArray} {r : Bool} (hr : SG.check p m s = r) (hp : p.size ≤ 1000000) (hm : m.size ≤ 1000000) (hs : s.size ≤ 1000000) (w : World) : Calls Try.prog 18 #[.string p, .string m, .string s] w fun e w' => e = .returned (.bool r) ∧ Below w.heap.size w w' := by
  have := check_any p m s w hp hm hs
  rwa [hr] at this
set_option maxHeartbeats 4000000 in
theorem sane_any (w : World) : Calls Try.prog 10 #[] w fun e w' => e = .returned (.bool true) ∧ Below w.heap.size w w' := by
  obtain ⟨P, Q, S0, S3, hP, hQ, hne, sP, sQ, e0, e3⟩ := SG.ex_any
  obtain ⟨s, a, b, c, hS, hs, r1, r2, r3⟩ := SG.ex_end
  have CP := Lib.hid (fun V => pub_c hP (by decide) (by decide) V)
  have CQ := Lib.hid (fun V => pub_c hQ (by decide) (by decide) V)
  have CS := Lib.hid (fun V => sign_c hS (by decide) (by decide) V)
  have R1 := Lib.hid r1
  have R2 := Lib.hid r2
  have R3 := Lib.hid r3
  have C0 := Lib.hid (fun V => pub_c (SG.pub_bad (seed := SG.bs) (n := 0) (by omega)) (by decide) (by decide) V)
  have C17 := Lib.hid (fun V => pub_c (SG.pub_bad (seed := SG.bs) (n := 17) (by omega)) (by decide) (by decide) V)
  have CX := Lib.hid (fun V => sign_c (SG.sign_bad (seed := SG.bs) (msg := SG.bm) (n := 4) (i := 4) (by omega)) (by decide) (by decide) V)
  have E0 := Lib.hid e0
  have E3 := Lib.hid e3
  have hpq : (P.toList == Q.toList) = false := by rw [str_ok]; simpa using hne
  have hs2 : s.length ≤ 140737488355328 := by omega
  have hs3 : s.length ≤ 8796093022000 := by omega
  have acc : Below w.heap.size w w := Below.refl _ _
  clear hP hQ hne hS r1 r2 r3 e0 e3
  go_enter Try.func10, Try.ntmps10
  go_wp2_with fail
  refine (C0.out _).mono ?_
  rintro e w1 ⟨rfl, k1⟩
  replace acc := bnext acc k1
  clear k1
  go_wp2_with fail
  refine (C17.out _).mono ?_
  rintro e w2 ⟨rfl, k2⟩
  replace acc := bnext acc k2
  clear k2
  go_wp2_with fail
  refine (CX.out _).mono ?_
  rintro e w3 ⟨rfl, k3⟩
  replace acc := bnext acc k3
  clear k3
  go_wp2_with fail
  refine (CP.out _).mono ?_
  rintro e w4 ⟨rfl, k4⟩
  replace acc := bnext acc k4
  clear k4
  go_wp2_with fail
  refine (CQ.out _).mono ?_
  rintro e w5 ⟨rfl, k5⟩
  replace acc := bnext acc k5
  clear k5
  have ACC := Lib.hid acc
  clear acc
  go_wp2_with fail
  go_loopw [11] (fun v wr => ∃ i : Nat, v = .int .i64 (i : Int) ∧ (i = 0 ∨ i = 3 ∨ i = 6) ∧ Below w.heap.size w wr) (fun v _ => 6 - (intOf v).toNat)
  case atStart => exact ⟨0, rfl, Or.inl rfl, ACC.out⟩
  case round =>
    obtain ⟨i, rfl, hi, hb⟩ := hrel
    have HB := Lib.hid hb
    clear hb
    by_cases hi6 : i = 6
    · subst hi6
      go_wp2_with fail
      refine (CS.out _).mono ?_
      rintro e w6 ⟨rfl, k6⟩
      have acc := bnext HB.out k6
      clear k6
      go_wp2_with fail
      refine (W.new_any s _ hs2).mono ?_
      rintro e w7 ⟨rfl, q7, k7⟩
      have hB6 : w.heap.size ≤ w6.heap.size := acc.size
      obtain ⟨B, hB⟩ : ∃ B, w6.heap.size = B := ⟨_, rfl⟩
      replace acc := bnext acc k7
      rw [hB] at q7 hB6 ⊢
      clear k7 hB
      have q7 := Lib.hid q7
      go_wp2_with fail
      refine (W.read_c _ _ _ _ _ q7.out R1.out).mono ?_
      rintro e w8 ⟨rfl, q8, k8⟩
      replace acc := acc.trans (k8.below hB6 acc.size)
      have q8 := Lib.hid q8
      clear k8 q7
      go_wp2_with fail
      refine (W.texts_c _ _ _ _ _ q8.out hs3 R2.out).mono ?_
      rintro e w9 ⟨v9, rfl, o9, q9, k9⟩
      replace acc := acc.trans (k9.below hB6 acc.size)
      have hB8 := q8.out.lt
      have q9 := Lib.hid q9
      obtain ⟨la, lc, rfl⟩ := own_shape o9
      have O9 := Lib.hid o9
      have ACC9 := Lib.hid acc
      clear k9 q8 o9 acc
      go_wp2_with fail
      obtain ⟨D, hD⟩ : ∃ D, w9.heap.size = D := ⟨_, rfl⟩
      obtain ⟨W9, hW9⟩ : ∃ W9, w9.alloc (.cells #[.int .i64 0, .int .i64 0, .int .i64 0, .int .i64 0, .int .i64 0, .int .i64 0, .int .i64 0, .int .i64 7, .int .i64 0, .int .i64 0, .int .i64 0, .int .i64 0, .int .i64 0, .int .i64 0, .int .i64 0, .int .i64 11, .int .i64 13, .int .i64 14] 54) = W9 := ⟨_, rfl⟩
      have k9 : Below w9.heap.size w9 W9 := by rw [← hW9]; exact balloc (Below.refl _ _) _
      have hDD : W9.heap[D]? = some (.cells (SG.numA SG.dg) 54 (0, 0)) := by rw [← hW9, ← hD]; exact World.alloc_heap_new w9 _
      have hB9 : B < w9.heap.size := q9.out.lt
      have hBD : B < D := by rw [← hD]; exact hB9
      have hDs : D < W9.heap.size := by rw [← hW9, ← hD]; simp
      rw [hW9]
      rw [hD]
      have HDD := Lib.hid hDD
      have acc := bnext ACC9.out k9
      have q10 := Lib.hid (q9.out.keep k9)
      have O10 := Lib.hid (own_below O9.out k9)
      have hBW : B < W9.heap.size := q10.out.lt
      clear hD hW9 hDD k9 q9 O9 ACC9 hB9
      refine (W.texts_c _ _ _ _ _ q10.out hs3 R3.out).mono ?_
      rintro e w11 ⟨v11, rfl, o11, q11, k11⟩
      replace acc := acc.trans (k11.below hB6 acc.size)
      obtain ⟨la2, lc2, rfl⟩ := own_shape o11
      have q11 := Lib.hid q11
      have O11 := Lib.hid (W.own_kept O10.out hB8 k11)
      replace HDD := Lib.hid ((k11.block D hDs (fun e => by simp at e; omega)).trans HDD.out)
      clear k11 o11 q10 O10
      go_wp2_with fail
      refine (W.bad_c _ _ _ _ q11.out rfl).mono ?_
      rintro e w12 ⟨rfl, rfl⟩
      have HOR := Lib.hid (row_own O11.out (by rw [List.length_map]))
      have HDc : Hid (∀ V, Below w12.heap.size w12 V → ∀ c, c < 18 → V.cell? ⟨D, c, none⟩ = some (.int .i64 (SG.dg c : Int))) := Lib.hid fun V hV c hc => by
        have h1 := (hV.block D (Array.getElem?_eq_some_iff.1 HDD.out).1).trans HDD.out
        simp [World.cell?, h1, SG.numA_at SG.dg hc]
      obtain ⟨g, o, rfl, hg, _⟩ := HOR.out.cell (k := 0) (by decide)
      have HLc : Hid (∀ V, Below w12.heap.size w12 V → ∀ c, c < 18 → V.cell? ⟨g, o + c, none⟩ = some (.string (W.WP.S (SG.le.getD c [])))) := Lib.hid fun V hV c hc => by
        obtain ⟨g1, o1, e1, _, h1⟩ := (HOR.out.keep hV).cell (k := c) (by rw [List.length_map]; exact hc)
        injection e1 with e1
        injection e1 with e1 e2
        subst e1 e2
        rw [h1, List.getElem_map, List.getD_eq_getElem?_getD, List.getElem?_eq_getElem hc]
        rfl
      have HACC := Lib.hid acc
      rw [show SG.le.length = 18 from rfl]
      clear hg HOR O11 HDD q11 acc
      go_wp2
      go_loopw [20] (fun v wr => ∃ c : Nat, v = .int .i64 (c : Int) ∧ c ≤ 18 ∧ Below w12.heap.size w12 wr) (fun v _ => 18 - (intOf v).toNat)
      case atStart => exact ⟨0, rfl, by omega, Below.refl _ _⟩
      case round =>
        obtain ⟨c, rfl, hc, hb⟩ := hrel
        have HB := Lib.hid hb
        by_cases hc18 : c < 18
        · have hci : (c : Int) < 18 := by omega
          have hc0 : (0 : Int) ≤ (c : Int) := by omega
          have hd1 := HDc.out wr hb c hc18
          have hl1 := HLc.out wr hb c hc18
          have HLK := Lib.hid (fun V => rlink_any SG.bs 0 (c : Int) (SG.dg c) V (by decide) (by omega) (by omega) (by have := SG.dg_le c; omega))
          rw [SG.link_at c hc18] at HLK
          obtain ⟨x, hx⟩ : ∃ x, W.WP.S (SG.le.getD c []) = x := ⟨_, rfl⟩
          rw [hx] at hl1 HLK
          obtain ⟨d, hd⟩ : ∃ d, SG.dg c = d := ⟨_, rfl⟩
          rw [hd] at hd1 HLK
          have hxx : (x.toList == x.toList) = true := by rw [str_ok]; simp
          have ld := Later.cell hd1
          have ll := Later.cell hl1
          clear hb hx hd
          go_wp2_with fail
          refine wp_region_later (by kernel_rfl) (by kernel_rfl) ?_
          repeat (go_big_quiet_step ((go_at_call 25; exact calls_later _ (HLK.out _))))
          refine wpQuiet_nil ?_
          intro w13 hw'
          obtain ⟨s5, hs5⟩ := hw'
          have k8 : Below wr.heap.size wr w13 := by rw [hs5]; exact s5.le
          have HB8 := Lib.hid (bnext HB.out k8)
          clear hs5 s5 ld ll hd1 hl1 k8
          go_wp2
          go_roundw
          case rel => exact ⟨c + 1, by go_num, hc18, HB8.out⟩
          case measure => simp [intOf]; omega
        · obtain rfl : c = 18 := by omega
          go_wp2
          go_ret
          exact ⟨rfl, HACC.out.trans (hb.mono HACC.out.size)⟩
    · have hi4 : (i : Int) < 4 := by omega
      obtain ⟨S, hE⟩ : ∃ S, SG.Ex P Q i S := by
        rcases hi with rfl | rfl | rfl
        · exact ⟨S0, E0.out⟩
        · exact ⟨S3, E3.out⟩
        · exact absurd rfl hi6
      have hsz := hE.size
      have hS0 : ((S.size : Int) == 0) = false := by rw [hsz]; rfl
      have hS1 : (1 : Int) ≤ (S.size : Int) := by omega
      have hex : S.extract 1 S.size = S.extract 1 183 := by rw [hsz]
      have hle := hE.less
      obtain ⟨T, hT⟩ : ∃ T, S.extract 1 S.size = T := ⟨_, rfl⟩
      obtain ⟨U, hU⟩ : ∃ U, S ++ ⟨#[0]⟩ = U := ⟨_, rfl⟩
      have hmo := hE.more
      rw [hT] at hle
      rw [hU] at hmo
      have sT : T.size ≤ 1000000 := by rw [← hT, ByteArray.size_extract]; omega
      have sU : U.size ≤ 1000000 := by rw [← hU, ByteArray.size_append]; show S.size + 1 ≤ _; omega
      have D0 := Lib.hid (fun V => sign_c hE.sig (by decide) (by decide) V)
      have D1 := Lib.hid (fun V => check_c hE.good (by omega) (by decide) (by omega) V)
      have D2 := Lib.hid (fun V => check_c hE.other (by omega) (by decide) (by omega) V)
      have D3 := Lib.hid (fun V => check_c hE.foreign (by omega) (by decide) (by omega) V)
      have D4 := Lib.hid (fun V => check_c hmo (by omega) (by decide) sU V)
      have D5 := Lib.hid (fun V => check_c hle (by omega) (by decide) sT V)
      have HT := Lib.hid (show S.extract 1 183 = T by rw [← hex]; exact hT)
      have HU := Lib.hid hU
      have HI := Lib.hid hi
      have acc := HB.out
      clear hE hex hle hmo hT hU sT sU hi
      go_wp2_with fail
      refine (D0.out _).mono ?_
      rintro e w6 ⟨rfl, k6⟩
      replace acc := bnext acc k6
      clear k6
      go_wp2_with fail
      refine (D1.out _).mono ?_
      rintro e w7 ⟨rfl, k7⟩
      replace acc := bnext acc k7
      clear k7
      go_wp2_with fail
      refine (D2.out _).mono ?_
      rintro e w8 ⟨rfl, k8⟩
      replace acc := bnext acc k8
      clear k8
      go_wp2_with fail
      refine (D3.out _).mono ?_
      rintro e w9 ⟨rfl, k9⟩
      replace acc := bnext acc k9
      clear k9
      go_wp2_with fail
      rw [HU.out]
      refine (D4.out _).mono ?_
      rintro e w10 ⟨rfl, k10⟩
      replace acc := bnext acc k10
      clear k10
      go_wp2_with fail
      rw [HT.out]
      refine (D5.out _).mono ?_
      rintro e w11 ⟨rfl, k11⟩
      replace acc := bnext acc k11
      clear k11
      go_wp2
      go_roundw
      case rel => exact ⟨i + 3, by go_num, by have := HI.out; omega, acc⟩
      case measure => have := HI.out; simp [intOf]; omega
end Go.Proofs.Ytinkhgmdeldniaa
