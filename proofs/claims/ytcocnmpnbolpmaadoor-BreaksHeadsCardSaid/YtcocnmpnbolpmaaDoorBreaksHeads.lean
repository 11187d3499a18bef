/- For every list of numbers BreaksHeads returns true: there is a number for each cluster; 2 exactly for ends of lines; no line begins with a space, and after one that is not the last, a line may end, unless a space, punctuation or the end of a line follows. No conditions. -/
import Derived.Test.YtcocnmpnbolpmaaDoorBrkFacts
import Derived.Test.YtcocnmpnbolpmaaDoorClsLaid
namespace Go.Proofs.YtcocnmpnbolpmaaDoor.breaksHeads
open Go.ChangeShapes Go.WideShapes Go.ChangeAt Go.RowKit Go.Joins Go.Deep
set_option linter.unusedVariables false

theorem text_of {v : Value} {a : List Int} {w W : World} (n : Nat) (hn : n ≤ 1000) (hv : RowAt w v (a.map (Value.int .i64))) (hL : a.length ≤ maxLen) (hE : ∀ x, x ∈ a → -9223372036854775808 ≤ x ∧ x ≤ 9223372036854775807) (hb : Below w.heap.size w W) :
    Calls Tryd.prog 10 #[v, .int .i64 n] W fun e W' => ∃ t : ByteArray, e = .returned (.string t) ∧ t.size ≤ n ∧ Below W.heap.size W W' :=
  text_any v a n W (hv.keep hb) hE hL hn
theorem may1_spec (H E : List Int) (k : Nat) : (FC.cls (H.getD k 0) = 1 → BP.may1 H E k = 2) ∧ (FC.cls (H.getD k 0) ≠ 1 → BP.may1 H E k = 0 ∨ BP.may1 H E k = 1) ∧ (k + 1 < H.length → (BP.may1 H E k = 1 → ¬ (FC.cls (H.getD (k + 1) 0) = 1 ∨ FC.cls (H.getD (k + 1) 0) = 2 ∨ FC.cls (H.getD (k + 1) 0) = 4)) ∧ (FC.cls (H.getD k 0) = 2 → ¬ (FC.cls (H.getD (k + 1) 0) = 1 ∨ FC.cls (H.getD (k + 1) 0) = 2 ∨ FC.cls (H.getD (k + 1) 0) = 4) → BP.may1 H E k = 1)) := by
  have hins : ∀ h d n, BP.ins h d n = 0 ∨ BP.ins h d n = 1 := fun h d n => by
    unfold BP.ins; repeat' split
    all_goals simp
  refine ⟨fun h => if_pos h, fun h => ?_, fun hk => ⟨fun h1 hs => ?_, fun h2 hs => ?_⟩⟩
  · unfold BP.may1
    rw [if_neg h]
    split
    · exact hins _ _ _
    · exact .inl rfl
  · unfold BP.may1 at h1
    by_cases h : FC.cls (H.getD k 0) = 1
    · rw [if_pos h] at h1; cases h1
    · rw [if_neg h, if_pos hk] at h1
      unfold BP.ins at h1
      rw [if_pos hs] at h1; cases h1
  · unfold BP.may1
    rw [if_neg (by omega), if_pos hk]
    unfold BP.ins
    rw [if_neg hs, if_pos (.inl h2)]
set_option maxRecDepth 100000 in
set_option maxHeartbeats 4000000 in
theorem walk (v0 : Value) (a0 : List Int) (g : Nat × Nat)  (w : World) (hl : Laid w g) (H0 : RowAt w v0 (a0.map (Value.int .i64))) (L0 : a0.length ≤ maxLen ∧ ∀ a n c, v0 = .slice a n c → n ≤ c) (E0 : ∀ x, x ∈ a0 → -9223372036854775808 ≤ x ∧ x ≤ 9223372036854775807) :
    Calls Tryd.prog 4 #[v0] w fun e w' => e = .returned (.bool true) ∧ Below w.heap.size w w' := by
  have HL : Hid (∀ B, Below w.heap.size w B → Laid B g) := Lib.hid fun B hb => hl.mono hb
  have acc0 : Below w.heap.size w w := Below.refl _ _
  have HM0 := Lib.hid (fun W (hb : Below w.heap.size w W) => text_of 60 (by omega) H0 L0.1 E0 hb)
  clear H0 E0
  go_enter Tryd.func4, Tryd.ntmps4
  go_wp2_with fail
  refine (sane_any g _ hl).mono ?_
  rintro e w1 ⟨rfl, hb1⟩
  have acc1 := bnext acc0 hb1
  clear hb1 acc0
  go_wp2_with fail
  refine (HM0.out _ acc1).mono ?_
  rintro e w2 ⟨t, rfl, ht, hb2⟩
  have acc2 := bnext acc1 hb2
  have ht1 : t.size ≤ 1000000000 := by omega
  clear hb2 acc1 HM0
  go_wp2_with fail
  refine (split_any t g _ (HL.out _ acc2) ht1).mono ?_
  rintro e w3 ⟨vc, rfl, oc, hb3⟩
  have acc3 := bnext acc2 hb3
  obtain ⟨ao, ac, rfl, hrc⟩ := own_srcP oc
  go_wp2_with fail
  refine (may_any t g _ (HL.out _ acc3) ht1).mono ?_
  rintro e w4 ⟨vm, rfl, sm, hb4⟩
  have acc4 := bnext acc3 hb4
  obtain ⟨am, cm, rfl, hrm⟩ := sm
  have hmlen := BP.may_length t
  have hlen := CP.split_length t
  have hmem := CP.sp_mem (CP.sp_split t)
  have HMG : Hid (∀ k, k < (CP.split t).length → (BP.may t)[k]? = some (BP.may1 (BP.heads t (CP.split t)) (BP.ends t (CP.split t)) k)) := Lib.hid fun k hk => BP.mayL_get (by simpa [BP.heads] using hk)
  have HHG : Hid (∀ k x, (CP.split t)[k]? = some x → (BP.heads t (CP.split t)).getD k 0 = BP.hd t x) := Lib.hid fun k x hx => by simp [BP.heads, List.getD, hx]
  have hhl : (BP.heads t (CP.split t)).length = (CP.split t).length := by simp [BP.heads]
  have hrc' : CP.split t = [] ∨ ∃ q, ao = some ⟨q, 0, none⟩ ∧ q < w4.heap.size ∧ ∀ i x, (CP.split t)[i]? = some x → w4.cell? ⟨q, i * 2, none⟩ = some (.int .i64 (x.1 : Int)) ∧ w4.cell? ⟨q, i * 2 + 1, none⟩ = some (.int .i64 (x.2 : Int)) := by
    rcases hrc with h | ⟨q, h1, h2, h3⟩
    · exact .inl h
    · exact .inr ⟨q, h1, Nat.lt_of_lt_of_le h2 hb4.size, fun i x hx => ⟨(hb4.cell (p := ⟨q, i * 2, none⟩) h2).trans (h3 i x hx).1, (hb4.cell (p := ⟨q, i * 2 + 1, none⟩) h2).trans (h3 i x hx).2⟩⟩
  have e1 : ((BP.may t).map (Value.int .i64)).length = (CP.split t).length := by rw [List.length_map, hmlen]
  rw [e1] at hrm ⊢
  generalize BP.ends t (CP.split t) = E at HMG
  generalize BP.heads t (CP.split t) = H at HMG HHG hhl
  generalize BP.may t = M at HMG hrm hmlen
  generalize CP.split t = l at hrm hrc' hmlen hlen HMG HHG hmem hhl
  have HMM := Lib.hid hmem
  have HB := Lib.hid fun (f u : Int) (W : World) (hW : Below w.heap.size w W) => base_any t f u g W (HL.out _ hW) ht1
  have HK := Lib.hid fun (j : Nat) (hj : j < t.size) (W : World) (hW : Below w.heap.size w W) => (show Calls Tryd.prog 15 #[.int .i64 (t[j].toNat : Int)] W fun e w' => e = .returned (.int .i64 (CP.cl t j)) ∧ Below W.heap.size W w' from by
    have := class_any (t[j].toNat : Int) g W (HL.out _ hW)
    rwa [show FC.cls (t[j].toNat : Int) = CP.cl t j by unfold CP.cl; rw [CP.ch_at hj]] at this)
  have ACC := Lib.hid acc4
  clear hmem hrc oc hb3 hb4 acc2 acc3 acc4 e1 hl HL
  go_wp2_with fail
  go_loopw [7] (fun v7 wr => ∃ k : Nat, v7 = .int .i64 k ∧ k ≤ l.length ∧ Below w4.heap.size w4 wr) (fun v _ => l.length - (intOf v).toNat)
  case atStart => exact ⟨0, rfl, Nat.zero_le _, Below.refl _ _⟩
  case round =>
    obtain ⟨k, rfl, hk, hb⟩ := hrel
    rename World => w5
    by_cases h1 : k < l.length
    · have h1i : (k : Int) < (l.length : Int) := by omega
      have hkb : k < 1000 := by omega
      obtain ⟨x, hx⟩ : ∃ x, l[k]? = some x := ⟨l[k], List.getElem?_eq_getElem h1⟩
      have hxm := HMM.out x (List.mem_of_getElem? hx)
      have hMk := HMG.out k h1
      rcases hrc' with rfl | ⟨gc, rfl, hgc, hcc⟩
      · simp at h1
      · rcases hrm with hrm | ⟨gm, om, rfl, hgm, hcm⟩
        · have : M.length = 0 := by simpa using congrArg List.length hrm.1
          omega
        · obtain ⟨c0, c1⟩ := hcc k x hx
          have cm0 := hcm k h1
          rw [show (M.map (Value.int .i64)).getD k (.bool false) = .int .i64 (BP.may1 H E k) by simp [List.getD, hMk]] at cm0
          obtain ⟨b, hbase, hb0, hb1, _, _⟩ := CP.base_spec hxm.1 hxm.2
          have hcl : FC.cls (H.getD k 0) = CP.cl t b := by
            rw [HHG.out k x hx]; unfold BP.hd CP.cl; rw [hbase, Int.toNat_natCast]
          have hsp := may1_spec H E k
          rw [hcl] at hsp
          have hbt : b < t.size := by omega
          have hbti : (b : Int) < (t.size : Int) := by omega
          have hby : (t[b].toNat : Int) ≤ 255 := by have := t[b].toNat_lt; omega
          have K1 := Lib.hid (HK.out b hbt)
          have CM0 := Lib.hid ((hb.cell (p := ⟨gm, om + k, none⟩) hgm).trans cm0)
          have CMG : Hid (∀ V, Below w4.heap.size w4 V → V.cell? ⟨gm, om + k, none⟩ = some (.int .i64 (BP.may1 H E k))) := Lib.hid fun V hV => (hV.cell (p := ⟨gm, om + k, none⟩) hgm).trans cm0
          have hspN : Hid (∀ hk1 : k + 1 < l.length, ∃ f2 u2 b2 : Nat, (∀ V, Below w4.heap.size w4 V → V.cell? ⟨gc, (k + 1) * 2, none⟩ = some (.int .i64 (f2 : Int)) ∧ V.cell? ⟨gc, (k + 1) * 2 + 1, none⟩ = some (.int .i64 (u2 : Int))) ∧ CP.base t (f2 : Int) (u2 : Int) = (b2 : Int) ∧ b2 < t.size ∧ FC.cls (H.getD (k + 1) 0) = CP.cl t b2) := Lib.hid fun hk1 => by
            obtain ⟨y, hy⟩ : ∃ y, l[k + 1]? = some y := ⟨l[k + 1], List.getElem?_eq_getElem hk1⟩
            have hym := HMM.out y (List.mem_of_getElem? hy)
            obtain ⟨b2, hb2, h3, h4, _, _⟩ := CP.base_spec hym.1 hym.2
            obtain ⟨d0, d1⟩ := hcc (k + 1) y hy
            refine ⟨y.1, y.2, b2, fun V hV => ⟨(hV.cell (p := ⟨gc, (k + 1) * 2, none⟩) hgc).trans d0, (hV.cell (p := ⟨gc, (k + 1) * 2 + 1, none⟩) hgc).trans d1⟩, hb2, by omega, ?_⟩
            rw [HHG.out (k + 1) y hy]; unfold BP.hd CP.cl; rw [hb2, Int.toNat_natCast]
          obtain ⟨f, u⟩ := x
          simp only at c0 c1 hbase hxm
          have B1 := Lib.hid (HB.out (f : Int) (u : Int))
          rw [hbase] at B1
          replace c0 := (hb.cell (p := ⟨gc, k * 2, none⟩) hgc).trans c0
          replace c1 := (hb.cell (p := ⟨gc, k * 2 + 1, none⟩) hgc).trans c1
          generalize BP.may1 H E k = m at hsp CM0 CMG
          generalize CP.cl t b = a at hsp K1
          generalize hq : FC.cls (H.getD (k + 1) 0) = a2 at hsp hspN
          rw [hhl] at hsp
          have HSP := Lib.hid hsp
          have HBK := Lib.hid hb
          clear hx hMk cm0 hbase hcl hsp hcm hcc hq HMG HHG HMM hb hxm
          go_wp2_with fail
          refine (B1.out _ (bnext ACC.out HBK.out)).mono ?_
          rintro e w6 ⟨rfl, hb6⟩
          have HB6 := Lib.hid (bnext HBK.out hb6)
          clear hb6 B1 c0 c1
          go_wp2_with fail
          refine (K1.out _ (bnext ACC.out HB6.out)).mono ?_
          rintro e w7 ⟨rfl, hb7⟩
          have HB7 := Lib.hid (bnext HB6.out hb7)
          clear hb7 K1
          have cm7 := CMG.out w7 HB7.out
          by_cases hk1 : k + 1 < l.length
          · have ql : ((k : Int) == (l.length : Int) - 1) = false := by simp; omega
            have hk1i : (k : Int) + 1 < (l.length : Int) := by omega
            obtain ⟨f2, u2, b2, hcd, hbase2, hb2t, hcl2⟩ := hspN.out hk1
            have K2 := Lib.hid (HK.out b2 hb2t)
            have B2 := Lib.hid (HB.out (f2 : Int) (u2 : Int))
            rw [hbase2] at B2
            rw [← hcl2] at K2
            have HCD := Lib.hid hcd
            have hb2i : (b2 : Int) < (t.size : Int) := by omega
            have hby2 : (t[b2].toNat : Int) ≤ 255 := by have := t[b2].toNat_lt; omega
            have hsp2 := HSP.out.2.2 hk1
            have hsp1 := HSP.out.1
            have hsp0 := HSP.out.2.1
            clear hcl2 hcd hbase2 hspN HK HB HSP
            by_cases a1 : a = 1
            · obtain rfl := hsp1 a1
              subst a1
              clear hsp1 hsp0
              by_cases n1 : a2 = 1
              · subst n1
                clear hsp2
                have d0 := (HCD.out w7 HB7.out).1
                have d1 := (HCD.out w7 HB7.out).2
                go_wp2_with fail
                (try (go_quiet (fail); go_wp2_with fail))
                refine (B2.out _ (bnext ACC.out (by first | exact HB7.out | exact below_drewN HB7.out _))).mono ?_
                rintro e w8 ⟨rfl, hb8⟩
                have HB8 := Lib.hid (bnext (by first | exact HB7.out | exact below_drewN HB7.out _) hb8)
                clear hb8 d0 d1
                go_wp2_with fail
                refine (K2.out _ (bnext ACC.out HB8.out)).mono ?_
                rintro e w9 ⟨rfl, hb9⟩
                have HB9 := Lib.hid (bnext HB8.out hb9)
                have cm9 := CMG.out w9 HB9.out
                clear hb9 cm7
                go_wp2_with fail
                (try (go_quiet (fail); go_wp2_with fail))
                go_roundw
                case rel => exact ⟨k + 1, by go_num, h1, (by first | exact HB9.out | exact below_drewN HB9.out _)⟩
                case measure => simp [intOf]; omega
              · have qn1 : (a2 == 1) = false := by simpa using n1
                by_cases n2 : a2 = 2
                · subst n2
                  clear hsp2
                  have d0 := (HCD.out w7 HB7.out).1
                  have d1 := (HCD.out w7 HB7.out).2
                  go_wp2_with fail
                  (try (go_quiet (fail); go_wp2_with fail))
                  refine (B2.out _ (bnext ACC.out (by first | exact HB7.out | exact below_drewN HB7.out _))).mono ?_
                  rintro e w8 ⟨rfl, hb8⟩
                  have HB8 := Lib.hid (bnext (by first | exact HB7.out | exact below_drewN HB7.out _) hb8)
                  clear hb8 d0 d1
                  go_wp2_with fail
                  refine (K2.out _ (bnext ACC.out HB8.out)).mono ?_
                  rintro e w9 ⟨rfl, hb9⟩
                  have HB9 := Lib.hid (bnext HB8.out hb9)
                  have cm9 := CMG.out w9 HB9.out
                  clear hb9 cm7
                  go_wp2_with fail
                  (try (go_quiet (fail); go_wp2_with fail))
                  go_roundw
                  case rel => exact ⟨k + 1, by go_num, h1, (by first | exact HB9.out | exact below_drewN HB9.out _)⟩
                  case measure => simp [intOf]; omega
                · have qn2 : (a2 == 2) = false := by simpa using n2
                  by_cases n4 : a2 = 4
                  · subst n4
                    clear hsp2
                    have d0 := (HCD.out w7 HB7.out).1
                    have d1 := (HCD.out w7 HB7.out).2
                    go_wp2_with fail
                    (try (go_quiet (fail); go_wp2_with fail))
                    refine (B2.out _ (bnext ACC.out (by first | exact HB7.out | exact below_drewN HB7.out _))).mono ?_
                    rintro e w8 ⟨rfl, hb8⟩
                    have HB8 := Lib.hid (bnext (by first | exact HB7.out | exact below_drewN HB7.out _) hb8)
                    clear hb8 d0 d1
                    go_wp2_with fail
                    refine (K2.out _ (bnext ACC.out HB8.out)).mono ?_
                    rintro e w9 ⟨rfl, hb9⟩
                    have HB9 := Lib.hid (bnext HB8.out hb9)
                    have cm9 := CMG.out w9 HB9.out
                    clear hb9 cm7
                    go_wp2_with fail
                    (try (go_quiet (fail); go_wp2_with fail))
                    go_roundw
                    case rel => exact ⟨k + 1, by go_num, h1, (by first | exact HB9.out | exact below_drewN HB9.out _)⟩
                    case measure => simp [intOf]; omega
                  · have qn4 : (a2 == 4) = false := by simpa using n4
                    clear hsp2
                    have d0 := (HCD.out w7 HB7.out).1
                    have d1 := (HCD.out w7 HB7.out).2
                    go_wp2_with fail
                    (try (go_quiet (fail); go_wp2_with fail))
                    refine (B2.out _ (bnext ACC.out (by first | exact HB7.out | exact below_drewN HB7.out _))).mono ?_
                    rintro e w8 ⟨rfl, hb8⟩
                    have HB8 := Lib.hid (bnext (by first | exact HB7.out | exact below_drewN HB7.out _) hb8)
                    clear hb8 d0 d1
                    go_wp2_with fail
                    refine (K2.out _ (bnext ACC.out HB8.out)).mono ?_
                    rintro e w9 ⟨rfl, hb9⟩
                    have HB9 := Lib.hid (bnext HB8.out hb9)
                    have cm9 := CMG.out w9 HB9.out
                    clear hb9 cm7
                    go_wp2_with fail
                    (try (go_quiet (fail); go_wp2_with fail))
                    go_roundw
                    case rel => exact ⟨k + 1, by go_num, h1, (by first | exact HB9.out | exact below_drewN HB9.out _)⟩
                    case measure => simp [intOf]; omega
            · have qa1 : (a == 1) = false := by simpa using a1
              rcases hsp0 a1 with rfl | rfl
              · clear hsp1 hsp0 a1
                by_cases z2 : a = 2
                · have hst : a2 = 1 ∨ a2 = 2 ∨ a2 = 4 := by
                    rcases Decidable.em (a2 = 1 ∨ a2 = 2 ∨ a2 = 4) with h | h
                    · exact h
                    · have := hsp2.2 z2 h; omega
                  subst z2
                  clear hsp2
                  rcases hst with rfl | rfl | rfl
                  · skip
                    have d0 := (HCD.out w7 HB7.out).1
                    have d1 := (HCD.out w7 HB7.out).2
                    go_wp2_with fail
                    (try (go_quiet (fail); go_wp2_with fail))
                    refine (B2.out _ (bnext ACC.out (by first | exact HB7.out | exact below_drewN HB7.out _))).mono ?_
                    rintro e w8 ⟨rfl, hb8⟩
                    have HB8 := Lib.hid (bnext (by first | exact HB7.out | exact below_drewN HB7.out _) hb8)
                    clear hb8 d0 d1
                    go_wp2_with fail
                    refine (K2.out _ (bnext ACC.out HB8.out)).mono ?_
                    rintro e w9 ⟨rfl, hb9⟩
                    have HB9 := Lib.hid (bnext HB8.out hb9)
                    have cm9 := CMG.out w9 HB9.out
                    clear hb9 cm7
                    go_wp2_with fail
                    (try (go_quiet (fail); go_wp2_with fail))
                    go_roundw
                    case rel => exact ⟨k + 1, by go_num, h1, (by first | exact HB9.out | exact below_drewN HB9.out _)⟩
                    case measure => simp [intOf]; omega
                  · skip
                    have d0 := (HCD.out w7 HB7.out).1
                    have d1 := (HCD.out w7 HB7.out).2
                    go_wp2_with fail
                    (try (go_quiet (fail); go_wp2_with fail))
                    refine (B2.out _ (bnext ACC.out (by first | exact HB7.out | exact below_drewN HB7.out _))).mono ?_
                    rintro e w8 ⟨rfl, hb8⟩
                    have HB8 := Lib.hid (bnext (by first | exact HB7.out | exact below_drewN HB7.out _) hb8)
                    clear hb8 d0 d1
                    go_wp2_with fail
                    refine (K2.out _ (bnext ACC.out HB8.out)).mono ?_
                    rintro e w9 ⟨rfl, hb9⟩
                    have HB9 := Lib.hid (bnext HB8.out hb9)
                    have cm9 := CMG.out w9 HB9.out
                    clear hb9 cm7
                    go_wp2_with fail
                    (try (go_quiet (fail); go_wp2_with fail))
                    go_roundw
                    case rel => exact ⟨k + 1, by go_num, h1, (by first | exact HB9.out | exact below_drewN HB9.out _)⟩
                    case measure => simp [intOf]; omega
                  · skip
                    have d0 := (HCD.out w7 HB7.out).1
                    have d1 := (HCD.out w7 HB7.out).2
                    go_wp2_with fail
                    (try (go_quiet (fail); go_wp2_with fail))
                    refine (B2.out _ (bnext ACC.out (by first | exact HB7.out | exact below_drewN HB7.out _))).mono ?_
                    rintro e w8 ⟨rfl, hb8⟩
                    have HB8 := Lib.hid (bnext (by first | exact HB7.out | exact below_drewN HB7.out _) hb8)
                    clear hb8 d0 d1
                    go_wp2_with fail
                    refine (K2.out _ (bnext ACC.out HB8.out)).mono ?_
                    rintro e w9 ⟨rfl, hb9⟩
                    have HB9 := Lib.hid (bnext HB8.out hb9)
                    have cm9 := CMG.out w9 HB9.out
                    clear hb9 cm7
                    go_wp2_with fail
                    (try (go_quiet (fail); go_wp2_with fail))
                    go_roundw
                    case rel => exact ⟨k + 1, by go_num, h1, (by first | exact HB9.out | exact below_drewN HB9.out _)⟩
                    case measure => simp [intOf]; omega
                · have qa2 : (a == 2) = false := by simpa using z2
                  clear z2
                  by_cases n1 : a2 = 1
                  · subst n1
                    clear hsp2
                    have d0 := (HCD.out w7 HB7.out).1
                    have d1 := (HCD.out w7 HB7.out).2
                    go_wp2_with fail
                    (try (go_quiet (fail); go_wp2_with fail))
                    refine (B2.out _ (bnext ACC.out (by first | exact HB7.out | exact below_drewN HB7.out _))).mono ?_
                    rintro e w8 ⟨rfl, hb8⟩
                    have HB8 := Lib.hid (bnext (by first | exact HB7.out | exact below_drewN HB7.out _) hb8)
                    clear hb8 d0 d1
                    go_wp2_with fail
                    refine (K2.out _ (bnext ACC.out HB8.out)).mono ?_
                    rintro e w9 ⟨rfl, hb9⟩
                    have HB9 := Lib.hid (bnext HB8.out hb9)
                    have cm9 := CMG.out w9 HB9.out
                    clear hb9 cm7
                    go_wp2_with fail
                    (try (go_quiet (fail); go_wp2_with fail))
                    go_roundw
                    case rel => exact ⟨k + 1, by go_num, h1, (by first | exact HB9.out | exact below_drewN HB9.out _)⟩
                    case measure => simp [intOf]; omega
                  · have qn1 : (a2 == 1) = false := by simpa using n1
                    by_cases n2 : a2 = 2
                    · subst n2
                      clear hsp2
                      have d0 := (HCD.out w7 HB7.out).1
                      have d1 := (HCD.out w7 HB7.out).2
                      go_wp2_with fail
                      (try (go_quiet (fail); go_wp2_with fail))
                      refine (B2.out _ (bnext ACC.out (by first | exact HB7.out | exact below_drewN HB7.out _))).mono ?_
                      rintro e w8 ⟨rfl, hb8⟩
                      have HB8 := Lib.hid (bnext (by first | exact HB7.out | exact below_drewN HB7.out _) hb8)
                      clear hb8 d0 d1
                      go_wp2_with fail
                      refine (K2.out _ (bnext ACC.out HB8.out)).mono ?_
                      rintro e w9 ⟨rfl, hb9⟩
                      have HB9 := Lib.hid (bnext HB8.out hb9)
                      have cm9 := CMG.out w9 HB9.out
                      clear hb9 cm7
                      go_wp2_with fail
                      (try (go_quiet (fail); go_wp2_with fail))
                      go_roundw
                      case rel => exact ⟨k + 1, by go_num, h1, (by first | exact HB9.out | exact below_drewN HB9.out _)⟩
                      case measure => simp [intOf]; omega
                    · have qn2 : (a2 == 2) = false := by simpa using n2
                      by_cases n4 : a2 = 4
                      · subst n4
                        clear hsp2
                        have d0 := (HCD.out w7 HB7.out).1
                        have d1 := (HCD.out w7 HB7.out).2
                        go_wp2_with fail
                        (try (go_quiet (fail); go_wp2_with fail))
                        refine (B2.out _ (bnext ACC.out (by first | exact HB7.out | exact below_drewN HB7.out _))).mono ?_
                        rintro e w8 ⟨rfl, hb8⟩
                        have HB8 := Lib.hid (bnext (by first | exact HB7.out | exact below_drewN HB7.out _) hb8)
                        clear hb8 d0 d1
                        go_wp2_with fail
                        refine (K2.out _ (bnext ACC.out HB8.out)).mono ?_
                        rintro e w9 ⟨rfl, hb9⟩
                        have HB9 := Lib.hid (bnext HB8.out hb9)
                        have cm9 := CMG.out w9 HB9.out
                        clear hb9 cm7
                        go_wp2_with fail
                        (try (go_quiet (fail); go_wp2_with fail))
                        go_roundw
                        case rel => exact ⟨k + 1, by go_num, h1, (by first | exact HB9.out | exact below_drewN HB9.out _)⟩
                        case measure => simp [intOf]; omega
                      · have qn4 : (a2 == 4) = false := by simpa using n4
                        clear hsp2
                        have d0 := (HCD.out w7 HB7.out).1
                        have d1 := (HCD.out w7 HB7.out).2
                        go_wp2_with fail
                        (try (go_quiet (fail); go_wp2_with fail))
                        refine (B2.out _ (bnext ACC.out (by first | exact HB7.out | exact below_drewN HB7.out _))).mono ?_
                        rintro e w8 ⟨rfl, hb8⟩
                        have HB8 := Lib.hid (bnext (by first | exact HB7.out | exact below_drewN HB7.out _) hb8)
                        clear hb8 d0 d1
                        go_wp2_with fail
                        refine (K2.out _ (bnext ACC.out HB8.out)).mono ?_
                        rintro e w9 ⟨rfl, hb9⟩
                        have HB9 := Lib.hid (bnext HB8.out hb9)
                        have cm9 := CMG.out w9 HB9.out
                        clear hb9 cm7
                        go_wp2_with fail
                        (try (go_quiet (fail); go_wp2_with fail))
                        go_roundw
                        case rel => exact ⟨k + 1, by go_num, h1, (by first | exact HB9.out | exact below_drewN HB9.out _)⟩
                        case measure => simp [intOf]; omega
              · clear hsp1 hsp0 a1
                have hns := hsp2.1 rfl
                have qn1 : (a2 == 1) = false := by simp; omega
                have qn2 : (a2 == 2) = false := by simp; omega
                have qn4 : (a2 == 4) = false := by simp; omega
                clear hns hsp2
                by_cases z2 : a = 2
                · subst z2
                  have d0 := (HCD.out w7 HB7.out).1
                  have d1 := (HCD.out w7 HB7.out).2
                  go_wp2_with fail
                  (try (go_quiet (fail); go_wp2_with fail))
                  refine (B2.out _ (bnext ACC.out (by first | exact HB7.out | exact below_drewN HB7.out _))).mono ?_
                  rintro e w8 ⟨rfl, hb8⟩
                  have HB8 := Lib.hid (bnext (by first | exact HB7.out | exact below_drewN HB7.out _) hb8)
                  clear hb8 d0 d1
                  go_wp2_with fail
                  refine (K2.out _ (bnext ACC.out HB8.out)).mono ?_
                  rintro e w9 ⟨rfl, hb9⟩
                  have HB9 := Lib.hid (bnext HB8.out hb9)
                  have cm9 := CMG.out w9 HB9.out
                  clear hb9 cm7
                  go_wp2_with fail
                  (try (go_quiet (fail); go_wp2_with fail))
                  go_roundw
                  case rel => exact ⟨k + 1, by go_num, h1, (by first | exact HB9.out | exact below_drewN HB9.out _)⟩
                  case measure => simp [intOf]; omega
                · have qa2 : (a == 2) = false := by simpa using z2
                  clear z2
                  have d0 := (HCD.out w7 HB7.out).1
                  have d1 := (HCD.out w7 HB7.out).2
                  go_wp2_with fail
                  (try (go_quiet (fail); go_wp2_with fail))
                  refine (B2.out _ (bnext ACC.out (by first | exact HB7.out | exact below_drewN HB7.out _))).mono ?_
                  rintro e w8 ⟨rfl, hb8⟩
                  have HB8 := Lib.hid (bnext (by first | exact HB7.out | exact below_drewN HB7.out _) hb8)
                  clear hb8 d0 d1
                  go_wp2_with fail
                  refine (K2.out _ (bnext ACC.out HB8.out)).mono ?_
                  rintro e w9 ⟨rfl, hb9⟩
                  have HB9 := Lib.hid (bnext HB8.out hb9)
                  have cm9 := CMG.out w9 HB9.out
                  clear hb9 cm7
                  go_wp2_with fail
                  (try (go_quiet (fail); go_wp2_with fail))
                  go_roundw
                  case rel => exact ⟨k + 1, by go_num, h1, (by first | exact HB9.out | exact below_drewN HB9.out _)⟩
                  case measure => simp [intOf]; omega
          · have ql : ((k : Int) == (l.length : Int) - 1) = true := by simp; omega
            have hsp1 := HSP.out.1
            have hsp0 := HSP.out.2.1
            clear hspN HSP HK HB
            by_cases a1 : a = 1
            · obtain rfl := hsp1 a1
              subst a1
              clear hsp1 hsp0
              go_wp2_with fail
              (try (go_quiet (fail); go_wp2_with fail))
              go_roundw
              case rel => exact ⟨k + 1, by go_num, h1, (by first | exact HB7.out | exact below_drewN HB7.out _)⟩
              case measure => simp [intOf]; omega
            · have qa1 : (a == 1) = false := by simpa using a1
              rcases hsp0 a1 with rfl | rfl
              · clear hsp1 hsp0 a1
                go_wp2_with fail
                (try (go_quiet (fail); go_wp2_with fail))
                go_roundw
                case rel => exact ⟨k + 1, by go_num, h1, (by first | exact HB7.out | exact below_drewN HB7.out _)⟩
                case measure => simp [intOf]; omega
              · clear hsp1 hsp0 a1
                go_wp2_with fail
                (try (go_quiet (fail); go_wp2_with fail))
                go_roundw
                case rel => exact ⟨k + 1, by go_num, h1, (by first | exact HB7.out | exact below_drewN HB7.out _)⟩
                case measure => simp [intOf]; omega
    · obtain rfl : k = l.length := by omega
      go_wp2_with fail
      go_ret
      exact ⟨rfl, bnext ACC.out hb⟩

set_option maxRecDepth 100000 in
theorem lifted (os : Os) (started : os.Started) (H : Type) (enc : TypeId × Value → H) :
    ReturnsInHanded {} Tryd.checked os 4 .any (fun w args => (Rows.breaksHeadsSpec.pre enc Tryd.prog Tryd.f4 [] false w args ∧ laidMetH Tryd.prog laidL w) ∧ sizedMet enc Tryd.prog Tryd.f4 (OpenSpec.ofChange Rows.breaksHeadsSpec) false w args)
      (Rows.breaksHeadsSpec.post enc Tryd.prog Tryd.f4 false true false false) := by
  refine returnsInHanded_of_change_and (C := Tryd.checked) (X := fun w _ => laidMetH Tryd.prog laidL w) (fun _ _ _ hh h => h.of_heap hh) own started (by kernel_rfl) Tryd.func4
    (ChangeSpec.witness_shaped (enc := enc) (C := Tryd.checked) (os := os) (X := fun w _ => laidMetH Tryd.prog laidL w) false (World.doorLaid Tryd.prog 46 os) #[.slice none 0 0] 8 rfl (World.shaped_of_RefB (by kernel_rfl) (by kernel_rfl)) (by kernel_rfl) (by kernel_rfl) (by kernel_rfl) (door_met os _)) ?_
  intro W base args ds gs before hval0 hW _ _ hL _
  have hval : ∀ (j : Nat) t v, Tryd.f4.params[j]? = some t → args[j]? = some v → Value.okWide Tryd.prog W .any base t v := hval0
  have hW' := hW
  obtain ⟨p, q, hA0, hV, rfl, hfz, hnd⟩ := hW
  have hA : DataW.TrodAll enc Tryd.prog W 0 (fun _ => true) true Tryd.f4.params.toList args.toList ds p := hA0
  rw [Tryd.params4] at hA hval
  obtain ⟨v0, vs0, d0, ds0, p0, q0, hargs, rfl, rfl, h0, r0⟩ := trodAll_cons hA
  obtain ⟨rfl, rfl, rfl⟩ := trodAll_nil r0
  obtain rfl : args = #[v0] := by cases args; simp_all
  obtain ⟨rfl, rfl⟩ := trodVars_none hV
  obtain ⟨g, hlaid⟩ := of_laid hL
  have k0 := h0
  have lt0 : ∀ x ∈ p0, x.block < W.heap.size := by obtain ⟨m, hm⟩ := k0; exact DataW.trod_lt m _ _ _ hm
  obtain ⟨a0, H0, L0, E0⟩ := open_l (hval 0 22 v0 rfl rfl) h0
  clear hA0 hval0
  refine (walk v0 a0 g  W hlaid H0 L0 E0).mono fun e W' ⟨he, bel⟩ => ?_
  subst he
  exact ⟨_, rfl, _, _, _, [], _, [], hW', trodAll_mk1 (shut_bool Tryd.underlying4 _), (trodAll_cons_mk (Below.trod laidOut (by kernel_rfl) (of_decide_eq_true (by kernel_rfl)) k0 bel lt0) trodAll_mk0), rfl, bel.frame _, fun h => by cases h⟩

theorem over : Rows.breaksHeadsRow.holds Tryd.pinned (OpenSpec.ofChange Rows.breaksHeadsSpec) :=
  OpenClaim.holds_of_wide 4 Tryd.f4 rfl rfl rfl rfl rfl rfl rfl ⟨rfl, rfl, rfl, rfl, rfl⟩ rfl rfl rfl rfl rfl (by kernel_rfl) Tryd.func4 (by kernel_rfl)
    (of_decide_eq_true (by kernel_rfl)) (by unfold Func.isWrapper; first | (rw [if_pos (by decide +kernel)]; kernel_rfl) | (rw [if_neg (by decide +kernel)]; exact ⟨rfl, rfl⟩))
    (fun os started H enc _ => lifted os started H enc)

/-- The row's card, tied to the program's text. -/
theorem card : Rows.BreaksHeadsCardSaid :=
  Claim7.holds_tied_plain_at .later [] [.data] true Rows.breaksHeadsCard.stood.harness false
    over (fun _ h => by cases h) (by kernel_rfl) (fun _ h => by cases h) breaksHeads_row_tie rfl ⟨rfl, rfl⟩ (by kernel_rfl) rfl
    (fun f fn hf hfn => by
      obtain rfl : f = 4 := Option.some.inj ((show Tryd.prog.funcNamed "abugida/abugidalaw08.BreaksHeads" = some 4 by kernel_rfl).symm.trans hf) |>.symm
      obtain rfl : fn = Tryd.f4 := (Option.some.inj (Tryd.func4.symm.trans hfn)).symm
      exact ⟨by kernel_rfl, fun j t ht => by
        rw [Tryd.params4] at ht
        have hm : t ∈ [22] := by simpa using Array.mem_of_getElem? ht
        have hall : ([22].all fun u => !Tryd.prog.wantsStandIn u) = true := by kernel_rfl
        exact (show Tryd.prog.wantsStandIn t = false by simpa using List.all_eq_true.1 hall t hm)⟩)
    (by kernel_rfl)

end Go.Proofs.YtcocnmpnbolpmaaDoor.breaksHeads
namespace Go.Proofs.YtcocnmpnbolpmaaDoor
theorem breaksHeads_proved : Rows.BreaksHeadsCardSaid := breaksHeads.card
#print axioms breaksHeads_proved
end Go.Proofs.YtcocnmpnbolpmaaDoor
