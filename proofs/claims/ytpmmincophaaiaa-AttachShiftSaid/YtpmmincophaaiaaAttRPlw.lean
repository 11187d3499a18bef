/- Places of the reference, walked. No conditions. -/
import Derived.Test.YtpmmincophaaiaaAttRPl
import Derived.RangeFuncBox
import Derived.Deep.DeepCutAuto
namespace Go.Proofs.Ytpmmincophaaiaa.AT
set_option maxRecDepth 100000
theorem carV_step {l : List Dr} {out : List (Int × Int)} {pen : Int} {k : Nat} {d : Dr} {j' : Int} {b : An} (h : carV l d.hang.1 k = (j', b)) : (j' = -1 ∧ step l out pen k d = (pen, 0)) ∨ ∃ j : Nat, j' = (j : Int) ∧ j < k ∧ (∃ e, l[j]? = some e ∧ b ∈ e.anchors) ∧ step l out pen k d = ((out.getD j (0, 0)).1 + b.2.1 - d.hang.2.1, (out.getD j (0, 0)).2 + b.2.2 - d.hang.2.2) := by
  unfold carV at h
  unfold step
  by_cases hc : d.hang.1 = 0
  · rw [if_pos hc] at h ⊢
    exact .inl ⟨by rw [Prod.mk.injEq] at h; exact h.1.symm, rfl⟩
  · rw [if_neg hc] at h ⊢
    cases hcar : carrier l d.hang.1 k with
    | none =>
      rw [hcar] at h
      exact .inl ⟨by simp at h; exact h.1.symm, rfl⟩
    | some x =>
      obtain ⟨j, a⟩ := x
      rw [hcar] at h
      simp at h
      obtain ⟨rfl, rfl⟩ := h
      obtain ⟨h1, h2⟩ := carrier_lt hcar
      exact .inr ⟨j, rfl, h1, h2, rfl⟩
end Go.Proofs.Ytpmmincophaaiaa.AT
namespace Go.Proofs.Ytpmmincophaaiaa
set_option maxRecDepth 100000
set_option linter.unusedVariables false
open Go.RowKit Go.Deep
theorem rright_c {d : AT.Dr} {r : Bool} (h : AT.right d = r) (ca : Option Addr) (cn cc : Nat) (va : Value) (w : World) (hl : d.anchors.length ≤ 1000000000000) (ha : AnAt w va d.anchors) :
    Calls Try.prog 20 #[.agg #[.slice ca cn cc, va, .int .i64 d.hang.1, .int .i64 d.hang.2.1, .int .i64 d.hang.2.2, .int .i64 d.adv]] w fun e w' => e = .returned (.bool r) ∧ Below w.heap.size w w' := by
  have := rright_any d ca cn cc va w hl ha
  rwa [h] at this
theorem pt_app {w wr w1 : World} {v : Value} {e k : Nat} {size : Nat} {xs : List Value} {tmp : Obj} (hrow : wr.ownsRow w.heap.size e size v k xs) (hb : Below w.heap.size w wr) (hgrow : (wr.alloc tmp).grownBy w1 v.ownBlock) : Below w.heap.size w w1 :=
  (hb.alloc hb.size tmp).grown hgrow (by have := hb.size; simp; omega) fun j ej => by
    rcases hrow.2 with ⟨rfl, _⟩ | ⟨g, cap, cur, rfl, hgb, _, _⟩
    · simp [Value.ownBlock] at ej
    · obtain rfl : g = j := by simpa [Value.ownBlock] using ej
      exact hgb
set_option maxHeartbeats 8000000 in
theorem rplaces_any (l : List AT.Dr) (v : Value) (w : World) (hl : l.length ≤ 1000000000000) (hk : ∀ d ∈ l, d.anchors.length ≤ 1000000000000) (hv : DsAt w v l) :
    Calls Try.prog 14 #[v] w fun e w' => ∃ u, e = .returned u ∧ w'.ownsRow w.heap.size 37 2 u (AT.places l).length (AT.ptc (AT.places l)) ∧ Below w.heap.size w w' := by
  have HDS : Hid (∀ V, Below w.heap.size w V → DsAt V v l) := Lib.hid fun V hV => hv.keep hV
  obtain ⟨a, cap, rfl, hc⟩ := hv
  obtain ⟨n, hn⟩ : ∃ n, l.length = n := ⟨_, rfl⟩
  have HN := Lib.hid hn
  rw [hn] at hl HDS ⊢
  have HK := Lib.hid hk
  have nil_ok : ∀ V : World, V.ownsRow w.heap.size 37 2 (.slice none 0 0) ([] : List (Int × Int)).length (AT.ptc []) := fun V => ⟨by rfl, .inl ⟨rfl, rfl⟩⟩
  have NIL := Lib.hid nil_ok
  obtain ⟨i0, hi, hz0, hz1, hz2⟩ := info_parts info_pair
  by_cases h200 : 200 < n
  · have hq : (200 : Int) < (n : Int) := by omega
    have HP := Lib.hid (AT.places_bad (l := l) (.inl (by omega)))
    clear hc hn hk nil_ok
    go_enter Try.func14, Try.ntmps14
    go_wp2
    go_ret
    exact ⟨_, rfl, by rw [HP.out]; exact NIL.out _, Below.refl _ _⟩
  have hq : ¬ (200 : Int) < (n : Int) := by omega
  have hn200 : n ≤ 200 := by omega
  have HC := Lib.hid hc
  clear hc hn hk nil_ok h200
  go_enter Try.func14, Try.ntmps14
  go_wp2_with fail
  go_loopw [3, 4, 5] (fun v3 v4 v5 wr => ∃ k : Nat, v5 = .int .i64 (k : Int) ∧ v4 = .int .i64 (AT.go l k).2 ∧ k ≤ n ∧ (∀ (j : Nat) (d : AT.Dr), j < k → l[j]? = some d → AT.right d = true) ∧ wr.ownsRow w.heap.size 37 2 v3 k (AT.ptc (AT.go l k).1) ∧ Below w.heap.size w wr) (fun _ _ v _ => n - (intOf v).toNat)
  case atStart => exact ⟨0, rfl, rfl, Nat.zero_le _, fun j d hj => absurd hj (Nat.not_lt_zero _), ⟨rfl, .inl ⟨rfl, rfl⟩⟩, Below.refl _ _⟩
  case round =>
    obtain ⟨k, rfl, rfl, hkn, hyes, hrow, hb⟩ := hrel
    have HY := Lib.hid hyes
    have HB := Lib.hid hb
    obtain ⟨ra, rc, rfl⟩ := own_shape hrow
    have HROW := Lib.hid hrow
    by_cases hin : k < n
    · have hii : (k : Int) < (n : Int) := by omega
      have hi0 : (0 : Int) ≤ (k : Int) := by omega
      obtain ⟨d, hd⟩ : ∃ d, l[k]? = some d := ⟨l[k]'(by rw [HN.out]; exact hin), List.getElem?_eq_getElem _⟩
      obtain ⟨aw, capw, e1, hcw⟩ := HDS.out wr hb
      rw [HN.out] at e1
      injection e1 with e1 e2 e3
      subst e1 e3
      rcases hcw with h | ⟨g, o, rfl, hg, hcl⟩
      · rw [h] at hd
        simp at hd
      obtain ⟨ca, cn, cc, va, ha, c0, c1, c2, c3, c4, c5⟩ := hcl k d hd
      have HLC : Hid (∀ V, Below wr.heap.size wr V → V.cell? ⟨g, o + k * 6 + 2, none⟩ = some (.int .i64 d.hang.1) ∧ V.cell? ⟨g, o + k * 6 + 3, none⟩ = some (.int .i64 d.hang.2.1) ∧ V.cell? ⟨g, o + k * 6 + 4, none⟩ = some (.int .i64 d.hang.2.2) ∧ V.cell? ⟨g, o + k * 6 + 5, none⟩ = some (.int .i64 d.adv)) := Lib.hid fun V hV => ⟨(hV.cell (p := ⟨g, o + k * 6 + 2, none⟩) hg).trans c2, (hV.cell (p := ⟨g, o + k * 6 + 3, none⟩) hg).trans c3, (hV.cell (p := ⟨g, o + k * 6 + 4, none⟩) hg).trans c4, (hV.cell (p := ⟨g, o + k * 6 + 5, none⟩) hg).trans c5⟩
      have HLW : Hid (∀ V, Below w.heap.size w V → V.cell? ⟨g, o + k * 6 + 2, none⟩ = some (.int .i64 d.hang.1) ∧ V.cell? ⟨g, o + k * 6 + 5, none⟩ = some (.int .i64 d.adv)) := Lib.hid fun V hV => by
        obtain ⟨aw, capw, e1, hcw⟩ := HDS.out V hV
        rw [HN.out] at e1
        injection e1 with e1 e2 e3
        rcases hcw with h | ⟨g', o', e4, hg', hcl'⟩
        · rw [h] at hd
          simp at hd
        · rw [e4] at e1
          injection e1 with e1
          injection e1 with e1 e5
          subst e1 e5
          obtain ⟨_, _, _, _, _, _, _, x2, _, _, x5⟩ := hcl' k d hd
          exact ⟨x2, x5⟩
      obtain ⟨r, hr⟩ : ∃ r, AT.right d = r := ⟨_, rfl⟩
      have CR := Lib.hid (rright_c hr ca cn cc va wr (HK.out d (List.mem_of_getElem? hd)) ha)
      have HR := Lib.hid hr
      have HD := Lib.hid hd
      obtain ⟨aa, ac, rfl, hal⟩ := ha
      obtain ⟨m, hm⟩ : ∃ m, d.anchors.length = m := ⟨_, rfl⟩
      rw [hm] at CR c1
      have HGO := Lib.hid (AT.go_succ hd)
      obtain ⟨pen, hpen⟩ : ∃ pen, (AT.go l k).2 = pen := ⟨_, rfl⟩
      have HPEN := Lib.hid hpen
      rw [hpen]
      clear hcl hyes hb hd hal hr hpen hrow hm
      go_wp2_with fail
      refine CR.out.mono ?_
      rintro e W1 ⟨rfl, k1⟩
      have HK1 := Lib.hid k1
      have HB1 := Lib.hid (bnext HB.out k1)
      clear k1 c0 c1 c2 c3 c4 c5
      cases r with
      | false =>
        have HP := Lib.hid (AT.places_bad (l := l) (.inr (AT.all_false HD.out HR.out)))
        go_wp2
        go_ret
        exact ⟨_, rfl, by rw [HP.out]; exact NIL.out _, HB1.out⟩
      | true =>
        obtain ⟨cv, hcv⟩ : ∃ cv, AT.carV l d.hang.1 k = cv := ⟨_, rfl⟩
        obtain ⟨j', b1, b2, b3⟩ := cv
        have CC : Hid (∀ V, Below w.heap.size w V → Calls Try.prog 21 #[.slice (some ⟨g, o, none⟩) n cap, .int .i64 (k : Int)] V fun e w' => e = .returned (.tuple #[.int .i64 j', .agg #[.int .i64 b1, .int .i64 b2, .int .i64 b3]]) ∧ Below V.heap.size V w') := Lib.hid fun V hV => by
          have := rcarrier_any l (.slice (some ⟨g, o, none⟩) n cap) k d V (by rw [HN.out]; exact hl) HK.out HD.out (HDS.out V hV)
          rw [hcv] at this
          exact this
        have HCV := Lib.hid hcv
        obtain ⟨p1, p2, hst⟩ : ∃ p1 p2, AT.step l (AT.go l k).1 pen k d = (p1, p2) := ⟨_, _, rfl⟩
        have HST := Lib.hid hst
        clear hcv hst
        go_wp2_with fail
        have hp6 : PtB (W1.alloc (.cells #[.int .i64 pen, .int .i64 0] 37)) W1.heap.size (pen, 0) := heap_alloc_new W1 _
        have hb2 := balloc (Below.refl _ W1) (.cells #[.int .i64 pen, .int .i64 0] 37)
        obtain ⟨W2, hW2⟩ : ∃ W2, W1.alloc (.cells #[.int .i64 pen, .int .i64 0] 37) = W2 := ⟨_, rfl⟩
        obtain ⟨G6, hG6⟩ : ∃ G6, W1.heap.size = G6 := ⟨_, rfl⟩
        rw [hW2] at hp6 hb2 ⊢
        have HB2 := Lib.hid hb2
        rw [hG6] at hp6 ⊢
        have HG6 := Lib.hid hG6
        have HP6 := Lib.hid hp6
        clear hW2 hG6 hb2 hp6
        refine (CC.out W2 (bnext HB1.out HB2.out)).mono ?_
        rintro e W3 ⟨rfl, k3⟩
        have HP3 := Lib.hid (HP6.out.keep k3)
        have HB3 := Lib.hid (bnext HB2.out k3)
        clear k3 HP6 HB2
        go_upto_if 33 with (fail)
        have hn8 : AnB (W3.alloc (.cells #[.int .i64 b1, .int .i64 b2, .int .i64 b3] 33)) W3.heap.size (b1, b2, b3) := heap_alloc_new W3 _
        have hp4 := HP3.out.keep (balloc (Below.refl _ W3) (.cells #[.int .i64 b1, .int .i64 b2, .int .i64 b3] 33))
        have hb4 := balloc HB3.out (.cells #[.int .i64 b1, .int .i64 b2, .int .i64 b3] 33)
        have h68 : G6 < W3.heap.size := HP3.out.lt
        obtain ⟨W4, hW4⟩ : ∃ W4, W3.alloc (.cells #[.int .i64 b1, .int .i64 b2, .int .i64 b3] 33) = W4 := ⟨_, rfl⟩
        obtain ⟨G8, hG8⟩ : ∃ G8, W3.heap.size = G8 := ⟨_, rfl⟩
        rw [hW4] at hn8 hp4 hb4 ⊢
        rw [hG8] at hn8 h68 ⊢
        have HP4 := Lib.hid hp4
        have HN8 := Lib.hid hn8
        have HB4 := Lib.hid hb4
        clear hW4 hG8 HP3 HB3 hp4 hn8 hb4
        go_cut [] (fun wx => PtB wx G6 (p1, p2) ∧ Below W1.heap.size W1 wx)
        case first =>
          rcases AT.carV_step (out := (AT.go l k).1) (pen := pen) HCV.out with ⟨hj, hs⟩ | ⟨j, hj, hjk, ⟨f, hf, hbf⟩, hs⟩
          · subst hj
            have hpp : PtB W4 G6 (p1, p2) := by
              have := HP4.out
              rw [← hs, HST.out] at this
              exact this
            have HPP := Lib.hid hpp
            clear hs hpp
            go_wp2_with fail
            go_meet
            exact ⟨HPP.out, HB4.out⟩
          · subst hj
            have hlen := AT.go_len l k (by rw [HN.out]; omega)
            have hbd := AT.go_bd (l := l) k (by rw [HN.out]; omega) HY.out
            have hjl : j < (AT.go l k).1.length := by omega
            obtain ⟨x, hx⟩ : ∃ x, (AT.go l k).1.getD j (0, 0) = x := ⟨_, rfl⟩
            have hxe : (AT.go l k).1[j]? = some x := by
              rw [List.getD_eq_getElem?_getD, List.getElem?_eq_getElem hjl] at hx
              rw [List.getElem?_eq_getElem hjl]
              exact congrArg some hx
            obtain ⟨q1, q2⟩ := hbd.2 x (List.mem_of_getElem? hxe)
            obtain ⟨-, r2, r3, -⟩ := AT.right_parts HR.out
            obtain ⟨-, -, -, r5⟩ := AT.right_parts (HY.out j f hjk hf)
            obtain ⟨r6, r7⟩ := r5 _ hbf
            simp only at r6 r7
            unfold AT.In at q1 q2
            rw [hx] at hs
            simp only at hs
            rw [HST.out] at hs
            injection hs with hs1 hs2
            have hrow4 := own_pt hlen.symm HROW.out
            obtain ⟨aw, cw, e1, hcw⟩ := hrow4
            rw [hlen] at e1
            injection e1 with e1 e2 e3
            subst e1 e3
            rcases hcw with h | ⟨g3, o3, rfl, hg3, hc3⟩
            · rw [h] at hxe
              simp at hxe
            obtain ⟨y1, y2⟩ := hc3 j x hxe
            replace y1 := ((bnext HK1.out HB4.out).cell (p := ⟨g3, o3 + j * 2, none⟩) hg3).trans y1
            replace y2 := ((bnext HK1.out HB4.out).cell (p := ⟨g3, o3 + j * 2 + 1, none⟩) hg3).trans y2
            obtain ⟨y3, y4, y5⟩ := HN8.out.cells
            obtain ⟨-, y6, y7, -⟩ := HLC.out W4 (bnext HK1.out HB4.out)
            obtain ⟨y8, y9⟩ := HP4.out.cells
            have f0 := HP4.out.frozen 0
            have f1 := HP4.out.frozen 1
            have hji : (j : Int) < (k : Int) := by omega
            have hj0 : (0 : Int) ≤ (j : Int) := by omega
            have hw1 : IntKind.i64.wrap (x.1 + b2) = x.1 + b2 := by rw [IntKind.wrap_i64]; omega
            have hw2 : IntKind.i64.wrap (x.1 + b2 - d.hang.2.1) = x.1 + b2 - d.hang.2.1 := by rw [IntKind.wrap_i64]; omega
            have hw3 : IntKind.i64.wrap (x.2 + b3) = x.2 + b3 := by rw [IntKind.wrap_i64]; omega
            have hw4 : IntKind.i64.wrap (x.2 + b3 - d.hang.2.2) = x.2 + b3 - d.hang.2.2 := by rw [IntKind.wrap_i64]; omega
            have hg1 : W1.heap.size ≤ G6 := by have := HG6.out; omega
            have hne1 : G6 ≠ g := by have := HK1.out.size; omega
            have hne2 : G6 ≠ g3 := by have := HK1.out.size; omega
            have hne3 : G6 ≠ G8 := by omega
            have hpp := HP4.out.put (p1, p2)
            have hbp : Below W1.heap.size W1 ((W4.setCell ⟨G6, 0, none⟩ (.int .i64 p1)).setCell ⟨G6, 1, none⟩ (.int .i64 p2)) := bset (bset HB4.out hg1 _) hg1 _
            have HPP := Lib.hid hpp
            have HBP := Lib.hid hbp
            subst hs1 hs2
            clear hpp hbp hlen hbd hjl hx hxe hc3 hf hbf
            go_upto_region 13 with fail
            go_region_held3 (fun w' => w'.cell? ⟨g3, o3 + j * 2, none⟩ = some (.int .i64 x.1) ∧ w'.cell? ⟨g3, o3 + j * 2 + 1, none⟩ = some (.int .i64 x.2) ∧ w'.cell? ⟨G8, 1, none⟩ = some (.int .i64 b2) ∧ w'.cell? ⟨G8, 2, none⟩ = some (.int .i64 b3) ∧ w'.cell? ⟨g, o + k * 6 + 3, none⟩ = some (.int .i64 d.hang.2.1) ∧ w'.cell? ⟨g, o + k * 6 + 4, none⟩ = some (.int .i64 d.hang.2.2)) (go_keep) (fail)
            go_wp2_with fail
            go_meet
            exact ⟨HPP.out, HBP.out.drew⟩
        case rest =>
          obtain ⟨hp, hbc⟩ := hcut
          obtain ⟨y1, y2⟩ := hp.cells
          have HBC := Lib.hid (bnext HB1.out hbc)
          have hrowc := own_below HROW.out (bnext HK1.out hbc)
          have HRC := Lib.hid hrowc
          have hsz := HBC.out.size
          have hlen := AT.go_len l k (by rw [HN.out]; omega)
          have HBD := Lib.hid (AT.go_bd (l := l) k (by rw [HN.out]; omega) HY.out)
          have HLEN := Lib.hid hlen
          clear hp hbc hrowc hlen
          go_upto_region 15 with (at_builtin; refine wpList_append_own _ rfl _ _ 27 rfl w.heap.size 37 i0 (.agg #[.int .i64 0, .int .i64 0]) 2 16 Try.underlying27 hi hz0 hz1 hz2 rfl (by decide) _ _ _ rfl (HRC.out.alloc _) ⟨wc.heap.size, 0, none⟩ 1 1 [.int .i64 p1, .int .i64 p2] rfl rfl (pt_src (heap_alloc_new wc _)) (by simp [Value.oneCell']) (by unfold maxLen; omega) (by omega) (by simp; omega) ?_; intro v' w1 hown' hgrow _; obtain ⟨g', cap', rfl⟩ := ownsRow_succ hown')
          have hbw1 : Below w.heap.size w w1 := pt_app HRC.out HBC.out hgrow
          obtain ⟨z1, z2⟩ := HLW.out w1 hbw1
          have hout : AT.go l (k + 1) = ((AT.go l k).1 ++ [(p1, p2)], if d.hang.1 = 0 then (AT.go l k).2 + d.adv else (AT.go l k).2) := by
            rw [HGO.out, HPEN.out, HST.out]
          have hrow1 : w1.ownsRow w.heap.size 37 2 (.slice (some ⟨g', 0, none⟩) (k + 1) cap') (k + 1) (AT.ptc (AT.go l (k + 1)).1) := by
            rw [hout]
            show w1.ownsRow _ _ _ _ _ (AT.ptc ((AT.go l k).1 ++ [(p1, p2)]))
            rw [AT.ptc_snoc]
            exact hown'
          have HROW1 := Lib.hid hrow1
          have HBW1 := Lib.hid hbw1
          have HOUT := Lib.hid hout
          have HYES : Hid (∀ (j : Nat) (e : AT.Dr), j < k + 1 → l[j]? = some e → AT.right e = true) := Lib.hid fun j e hj he => by
            by_cases hjk : j = k
            · subst hjk
              rw [HD.out] at he
              obtain rfl := Option.some.inj he
              exact HR.out
            · exact HY.out j e (by omega) he
          obtain ⟨hpb, -⟩ := HBD.out
          rw [HPEN.out] at hpb
          unfold AT.In at hpb
          obtain ⟨hav, -⟩ := AT.right_parts HR.out
          clear hown' hgrow hrow1 hbw1 hout
          by_cases hc0 : d.hang.1 = 0
          · have hq0 : (d.hang.1 == 0) = true := by simpa using hc0
            have HPN : Hid ((AT.go l (k + 1)).2 = pen + d.adv) := Lib.hid (by rw [HOUT.out, HPEN.out]; exact if_pos hc0)
            clear hc0
            go_wp2_with fail
            go_roundw
            case rel => exact ⟨k + 1, by go_num, by rw [HPN.out], hin, HYES.out, HROW1.out, HBW1.out⟩
            case measure => simp [intOf]; omega
          · have hq0 : (d.hang.1 == 0) = false := by simpa using hc0
            have HPN : Hid ((AT.go l (k + 1)).2 = pen) := Lib.hid (by rw [HOUT.out, HPEN.out]; exact if_neg hc0)
            clear hc0
            go_wp2_with fail
            go_roundw
            case rel => exact ⟨k + 1, by go_num, by rw [HPN.out], hin, HYES.out, HROW1.out, HBW1.out⟩
            case measure => simp [intOf]; omega
    · obtain rfl : k = n := by omega
      have HP : Hid (AT.places l = (AT.go l k).1) := Lib.hid (by
        have h1 : l.all AT.right = true := AT.all_true fun j d hd => HY.out j d (by have := (List.getElem?_eq_some_iff.1 hd).1; rw [HN.out] at this; exact this) hd
        have h2 := AT.places_good (l := l) (by rw [HN.out]; exact hn200) h1
        rw [HN.out] at h2
        exact h2)
      have HLEN := Lib.hid (AT.go_len l k (by rw [HN.out]; exact Nat.le_refl _))
      clear hyes hb hrow
      go_wp2
      go_ret
      exact ⟨_, rfl, by rw [HP.out, HLEN.out]; exact HROW.out, HB.out⟩
end Go.Proofs.Ytpmmincophaaiaa
