/- Places of the program, walked. No conditions. -/
import Derived.Test.YtpmmincophaaiaaAttCarP
namespace Go.Proofs.Ytpmmincophaaiaa.AT
set_option maxRecDepth 100000
theorem step_zero {l : List Dr} {P : List (Int × Int)} {pen : Int} {k : Nat} {d : Dr} (h : d.hang.1 = 0) : step l P pen k d = (pen, 0) := by
  unfold step
  rw [if_pos h]
theorem step_car {l : List Dr} {P : List (Int × Int)} {pen : Int} {k : Nat} {d : Dr} {q : Int × Int} {ok : Bool} (h : ¬ d.hang.1 = 0) (hc : carA P l d k = (q, ok)) : step l P pen k d = if ok then q else (pen, 0) := by
  unfold step
  rw [if_neg h]
  unfold carA at hc
  cases hcar : carrier l d.hang.1 k with
  | none =>
    rw [hcar] at hc
    simp only [Prod.mk.injEq] at hc
    rw [← hc.2]
    rfl
  | some x =>
    rw [hcar] at hc
    simp only [Prod.mk.injEq] at hc
    rw [← hc.2, ← hc.1]
    rfl
end Go.Proofs.Ytpmmincophaaiaa.AT
namespace Go.Proofs.Ytpmmincophaaiaa
set_option maxRecDepth 100000
set_option linter.unusedVariables false
open Go.RowKit Go.Deep
theorem two_new (wr : World) (ca : Option Addr) (cn cc : Nat) (v1 : Value) (d : AT.Dr) (pen : Int) : ∃ W2, (wr.alloc (.cells #[.slice ca cn cc, v1, .int .i64 d.hang.1, .int .i64 d.hang.2.1, .int .i64 d.hang.2.2, .int .i64 d.adv] 35)).alloc (.cells #[.int .i64 pen, .int .i64 0] 37) = W2 ∧ DrB W2 wr.heap.size (.slice ca cn cc) v1 d ∧ PtB W2 (wr.heap.size + 1) (pen, 0) ∧ Below wr.heap.size wr W2 := by
  refine ⟨_, rfl, DrB.keep (heap_alloc_new wr _) (balloc (Below.refl _ _) _), ?_, balloc (balloc (Below.refl _ _) _) _⟩
  have := heap_alloc_new (wr.alloc (.cells #[.slice ca cn cc, v1, .int .i64 d.hang.1, .int .i64 d.hang.2.1, .int .i64 d.hang.2.2, .int .i64 d.adv] 35)) (.cells #[.int .i64 pen, .int .i64 0] 37)
  rw [World.size_alloc] at this
  exact this
set_option maxHeartbeats 8000000 in
theorem places_any (l : List AT.Dr) (v : Value) (w : World) (hl : l.length ≤ 1000000000000) (hk : ∀ d ∈ l, d.anchors.length ≤ 1000000000000) (hv : DsAt w v l) :
    Calls Try.prog 13 #[v] w fun e w' => ∃ u, e = .returned u ∧ w'.ownsRow w.heap.size 37 2 u (AT.places l).length (AT.ptc (AT.places l)) ∧ Below w.heap.size w w' := by
  have HDS : Hid (∀ V, Below w.heap.size w V → DsAt V v l) := Lib.hid fun V hV => hv.keep hV
  obtain ⟨r, hr⟩ : ∃ r, l.all AT.right = r := ⟨_, rfl⟩
  have HAS : Hid (Calls Try.prog 18 #[v] w fun e w' => e = .returned (.bool r) ∧ Below w.heap.size w w') := Lib.hid (by
    have := areSmall_any l v w hl hk hv
    rwa [hr] at this)
  obtain ⟨a, cap, rfl, hc⟩ := hv
  obtain ⟨n, hn⟩ : ∃ n, l.length = n := ⟨_, rfl⟩
  have HN := Lib.hid hn
  rw [hn] at hl HDS HAS ⊢
  have HK := Lib.hid hk
  have HR := Lib.hid hr
  have nil_ok : ∀ V : World, V.ownsRow w.heap.size 37 2 (.slice none 0 0) ([] : List (Int × Int)).length (AT.ptc []) := fun V => ⟨by rfl, .inl ⟨rfl, rfl⟩⟩
  have NIL := Lib.hid nil_ok
  obtain ⟨i0, hi, hz0, hz1, hz2⟩ := info_parts info_pair
  by_cases h200 : 200 < n
  · have hq : (200 : Int) < (n : Int) := by omega
    have HP := Lib.hid (AT.places_bad (l := l) (.inl (by omega)))
    clear hc hn hk nil_ok hr
    go_enter Try.func13, Try.ntmps13
    go_wp2
    go_ret
    exact ⟨_, rfl, by rw [HP.out]; exact NIL.out _, Below.refl _ _⟩
  have hq : ¬ (200 : Int) < (n : Int) := by omega
  have hn200 : n ≤ 200 := by omega
  clear hc hn hk nil_ok h200 hr
  go_enter Try.func13, Try.ntmps13
  go_wp2_with fail
  refine HAS.out.mono ?_
  rintro e W1 ⟨rfl, hb1⟩
  have HB1 := Lib.hid hb1
  clear hb1
  cases r with
  | false =>
    have HP := Lib.hid (AT.places_bad (l := l) (.inr HR.out))
    go_wp2
    go_ret
    exact ⟨_, rfl, by rw [HP.out]; exact NIL.out _, HB1.out⟩
  | true =>
    have HRT : Hid (∀ d ∈ l, AT.right d = true) := Lib.hid (by simpa using HR.out)
    go_wp2_with fail
    go_loopw [3, 4, 20] (fun v3 v4 v20 wr => ∃ k : Nat, v20 = .int .i64 (k : Int) ∧ v4 = .int .i64 (AT.go l k).2 ∧ k ≤ n ∧ wr.ownsRow w.heap.size 37 2 v3 k (AT.ptc (AT.go l k).1) ∧ Below w.heap.size w wr) (fun _ _ v _ => n - (intOf v).toNat)
    case atStart => exact ⟨0, rfl, rfl, Nat.zero_le _, ⟨rfl, .inl ⟨rfl, rfl⟩⟩, HB1.out⟩
    case round =>
      obtain ⟨k, rfl, rfl, hkn, hrow, hb⟩ := hrel
      have HB := Lib.hid hb
      obtain ⟨ra, rc, rfl⟩ := own_shape hrow
      have HROW := Lib.hid hrow
      by_cases hin : k < n
      · have hii : (k : Int) < (n : Int) := by omega
        have hi0 : (0 : Int) ≤ (k : Int) := by omega
        obtain ⟨d, hd⟩ : ∃ d, l[k]? = some d := ⟨l[k]'(by rw [HN.out]; exact hin), List.getElem?_eq_getElem _⟩
        obtain ⟨aw, capw, e1, hcw⟩ := HDS.out wr hb
        rw [HN.out] at e1
        injection e1 with e1 e2 e3
        subst e1 e3
        rcases hcw with h | ⟨g, o, rfl, hg, hcl⟩
        · rw [h] at hd
          simp at hd
        obtain ⟨ca, cn, cc, va, ha, c0, c1, c2, c3, c4, c5⟩ := hcl k d hd
        have HD := Lib.hid hd
        obtain ⟨aa, ac, rfl, hal⟩ := ha
        obtain ⟨m, hm⟩ : ∃ m, d.anchors.length = m := ⟨_, rfl⟩
        rw [hm] at c1
        have HGO := Lib.hid (AT.go_succ hd)
        have HLEN := Lib.hid (AT.go_len l k (by rw [HN.out]; omega))
        have HBD := Lib.hid (AT.go_bd (l := l) k (by rw [HN.out]; omega) (fun j e _ he => HRT.out e (List.mem_of_getElem? he)))
        obtain ⟨P, hP⟩ : ∃ P, (AT.go l k).1 = P := ⟨_, rfl⟩
        obtain ⟨pen, hpen⟩ : ∃ pen, (AT.go l k).2 = pen := ⟨_, rfl⟩
        rw [hP] at HROW HLEN HBD
        rw [hpen] at HBD
        rw [hP, hpen] at HGO
        have HPEN := Lib.hid hpen
        rw [hpen]
        obtain ⟨p1, p2, hst⟩ : ∃ p1 p2, AT.step l P pen k d = (p1, p2) := ⟨_, _, rfl⟩
        have HST := Lib.hid hst
        rw [hst] at HGO
        clear hcl hb hd hal hpen hP hrow hm hst
        go_upto_region 9 with fail
        obtain ⟨W2, hW2, hdb, hp6, hb2⟩ : ∃ W2, (wr.alloc (.cells #[.slice ca cn cc, .slice aa m ac, .int .i64 d.hang.1, .int .i64 d.hang.2.1, .int .i64 d.hang.2.2, .int .i64 d.adv] 35)).alloc (.cells #[.int .i64 pen, .int .i64 0] 37) = W2 ∧ DrB W2 wr.heap.size (.slice ca cn cc) (.slice aa m ac) d ∧ PtB W2 (wr.heap.size + 1) (pen, 0) ∧ Below wr.heap.size wr W2 := two_new wr ca cn cc _ d pen
        obtain ⟨G, hG⟩ : ∃ G, wr.heap.size = G := ⟨_, rfl⟩
        rw [hW2]
        rw [hG] at hdb hp6 ⊢
        have HG := Lib.hid hG
        have HDB := Lib.hid hdb
        have HP6 := Lib.hid hp6
        have HB2 := Lib.hid hb2
        have HBW2 := Lib.hid (bnext HB.out hb2)
        obtain ⟨-, -, d2, -, -, d5⟩ := hdb.cells
        clear hW2 hG hdb hp6 hb2 c0 c1 c2 c3 c4 c5
        obtain ⟨hpb, -⟩ := HBD.out
        unfold AT.In at hpb
        obtain ⟨hav, -⟩ := AT.right_parts (HRT.out d (List.mem_of_getElem? HD.out))
        have hGO2 := congrArg Prod.snd HGO.out
        simp only at hGO2
        have HGO2 := Lib.hid hGO2
        clear hGO2
        go_upto_if 30 with (fail)
        go_cut [4] (fun s4 wx => s4 = .int .i64 (AT.go l (k + 1)).2 ∧ PtB wx (G + 1) (p1, p2) ∧ Below wr.heap.size wr wx)
        case first =>
          by_cases hc0 : d.hang.1 = 0
          · have hq0 : (d.hang.1 == 0) = true := by simpa using hc0
            have hpp : PtB W2 (G + 1) (p1, p2) := by
              have := HP6.out
              rw [← AT.step_zero (l := l) (P := P) (pen := pen) (k := k) hc0, HST.out] at this
              exact this
            have HPP := Lib.hid hpp
            have HPN : Hid ((AT.go l (k + 1)).2 = pen + d.adv) := Lib.hid (by rw [HGO2.out]; exact if_pos hc0)
            clear hpp hc0
            go_wp2_with fail
            go_meet
            exact ⟨by rw [HPN.out], HPP.out, HB2.out⟩
          · have hq0 : (d.hang.1 == 0) = false := by simpa using hc0
            have HPN : Hid ((AT.go l (k + 1)).2 = pen) := Lib.hid (by rw [HGO2.out]; exact if_neg hc0)
            obtain ⟨ca2, hca2⟩ : ∃ x, AT.carA P l d k = x := ⟨_, rfl⟩
            obtain ⟨⟨q1, q2⟩, ok⟩ := ca2
            have hstep := AT.step_car (pen := pen) hc0 hca2
            rw [HST.out] at hstep
            have CC : Hid (Calls Try.prog 19 #[.slice (some ⟨g, o, none⟩) n cap, .int .i64 (k : Int), .slice ra k rc] W2 fun e w' => e = .returned (.tuple #[.agg #[.int .i64 q1, .int .i64 q2], .bool ok]) ∧ Below W2.heap.size W2 w') := Lib.hid (by
              have hpt : PtAt W2 (.slice ra k rc) P := by
                have := own_pt (l := P) HLEN.out.symm HROW.out
                exact this.keep HB2.out
              have := callsIn_wide.1 (carried_in 4 (Nat.le_refl _) l (.slice (some ⟨g, o, none⟩) n cap) (.slice ra k rc) k d P W2 (by rw [HN.out]; exact hl) HK.out HD.out (HDS.out W2 HBW2.out) HLEN.out hpt (fun p hp => by
                have := HBD.out.2 p hp
                unfold AT.In at this ⊢
                omega) HRT.out)
              rw [hca2] at this
              exact this)
            have HSTEP := Lib.hid hstep
            clear hc0 hca2 hstep
            go_wp2_with fail
            refine CC.out.mono ?_
            rintro e W3 ⟨rfl, k3⟩
            have HP3 := Lib.hid (HP6.out.keep k3)
            have HB3 := Lib.hid (bnext HB2.out k3)
            clear k3
            go_upto_region 12 with fail
            have hn8 : PtB (W3.alloc (.cells #[.int .i64 q1, .int .i64 q2] 37)) W3.heap.size (q1, q2) := heap_alloc_new W3 _
            have hp4 := HP3.out.keep (balloc (Below.refl _ W3) (.cells #[.int .i64 q1, .int .i64 q2] 37))
            have hb4 := balloc HB3.out (.cells #[.int .i64 q1, .int .i64 q2] 37)
            have h78 : G + 1 < W3.heap.size := HP3.out.lt
            obtain ⟨W4, hW4⟩ : ∃ W4, W3.alloc (.cells #[.int .i64 q1, .int .i64 q2] 37) = W4 := ⟨_, rfl⟩
            obtain ⟨G8, hG8⟩ : ∃ G8, W3.heap.size = G8 := ⟨_, rfl⟩
            rw [hW4] at hn8 hp4 hb4 ⊢
            rw [hG8] at hn8 h78 ⊢
            have HP4 := Lib.hid hp4
            have HN8 := Lib.hid hn8
            have HB4 := Lib.hid hb4
            clear hW4 hG8 HP3 HB3 hp4 hn8 hb4
            cases ok with
            | false =>
              have hpp : PtB W4 (G + 1) (p1, p2) := by
                have := HP4.out
                have h2 := HSTEP.out
                rw [if_neg (by simp)] at h2
                rw [← h2] at this
                exact this
              have HPP := Lib.hid hpp
              clear hpp
              go_wp2_with fail
              go_meet
              exact ⟨by rw [HPN.out], HPP.out, HB4.out⟩
            | true =>
              obtain ⟨y1, y2⟩ := HN8.out.cells
              obtain ⟨y8, y9⟩ := HP4.out.cells
              have f0 := HP4.out.frozen 0
              have f1 := HP4.out.frozen 1
              have hne : G + 1 ≠ G8 := by omega
              have hg1 : wr.heap.size ≤ G + 1 := by have := HG.out; omega
              have h2 := HSTEP.out
              rw [if_pos rfl] at h2
              injection h2 with h3 h4
              subst h3 h4
              have hpp := HP4.out.put (p1, p2)
              have hbp : Below wr.heap.size wr ((W4.setCell ⟨G + 1, 0, none⟩ (.int .i64 p1)).setCell ⟨G + 1, 1, none⟩ (.int .i64 p2)) := bset (bset HB4.out hg1 _) hg1 _
              have HPP := Lib.hid hpp
              have HBP := Lib.hid hbp
              clear hpp hbp
              go_wp2_with fail
              go_meet
              exact ⟨by rw [HPN.out], HPP.out, HBP.out⟩
        case rest =>
          obtain ⟨rfl, hp, hbc⟩ := hcut
          obtain ⟨y1, y2⟩ := hp.cells
          have HBC := Lib.hid (bnext HB.out hbc)
          have hrowc := own_below HROW.out hbc
          have HRC := Lib.hid hrowc
          have hsz := HBC.out.size
          clear hp hbc hrowc
          go_upto_region 15 with (at_builtin; refine wpList_append_own _ rfl _ _ 27 rfl w.heap.size 37 i0 (.agg #[.int .i64 0, .int .i64 0]) 2 16 Try.underlying27 hi hz0 hz1 hz2 rfl (by decide) _ _ _ rfl (HRC.out.alloc _) ⟨wc.heap.size, 0, none⟩ 1 1 [.int .i64 p1, .int .i64 p2] rfl rfl (pt_src (heap_alloc_new wc _)) (by simp [Value.oneCell']) (by unfold maxLen; omega) (by omega) (by simp; omega) ?_; intro v' w1 hown' hgrow _; obtain ⟨g', cap', rfl⟩ := ownsRow_succ hown')
          have hbw1 : Below w.heap.size w w1 := pt_app HRC.out HBC.out hgrow
          have hout := congrArg Prod.fst HGO.out
          simp only at hout
          have hrow1 : w1.ownsRow w.heap.size 37 2 (.slice (some ⟨g', 0, none⟩) (k + 1) cap') (k + 1) (AT.ptc (AT.go l (k + 1)).1) := by
            rw [hout, AT.ptc_snoc]
            exact hown'
          have HROW1 := Lib.hid hrow1
          have HBW1 := Lib.hid hbw1
          clear hown' hgrow hrow1 hbw1 hout
          go_wp2_with fail
          go_roundw
          case rel => exact ⟨k + 1, by go_num, rfl, hin, HROW1.out, HBW1.out⟩
          case measure => simp [intOf]; omega
      · obtain rfl : k = n := by omega
        have HP : Hid (AT.places l = (AT.go l k).1) := Lib.hid (by
          have h2 := AT.places_good (l := l) (by rw [HN.out]; exact hn200) HR.out
          rw [HN.out] at h2
          exact h2)
        have HLEN := Lib.hid (AT.go_len l k (by rw [HN.out]; exact Nat.le_refl _))
        clear hb hrow
        go_wp2
        go_ret
        exact ⟨_, rfl, by rw [HP.out, HLEN.out]; exact HROW.out, HB.out⟩
end Go.Proofs.Ytpmmincophaaiaa
