/- Check of the program. No conditions. -/
import Derived.Test.YtinkhgmdeldniaaSgnTest
namespace Go.Proofs.Ytinkhgmdeldniaa
set_option maxRecDepth 100000
set_option linter.unusedVariables false
open Go.RowKit Go.Deep
theorem own_row' {w w' : World} {B : Nat} {t : TypeId} {n cap : Nat} {pa : Option Addr} {L : List Value} (h : w.ownsRow B t 1 (.slice pa n cap) n L) (hb : ∀ g o, pa = some ⟨g, o, none⟩ → w'.heap[g]? = w.heap[g]?) : w'.ownsRow B t 1 (.slice pa n cap) n L := by
  refine ⟨h.1, ?_⟩
  rcases h.2 with h' | ⟨g', cap', cur, h', h1, h2, h3⟩
  · exact .inl h'
  · have h4 := h'
    injection h4 with h4 _ _
    exact .inr ⟨g', cap', cur, h', h1, (hb g' 0 h4).trans h2, h3⟩
theorem own_lt {w : World} {B : Nat} {t : TypeId} {n cap : Nat} {pa : Option Addr} {L : List Value} (h : w.ownsRow B t 1 (.slice pa n cap) n L) : ∀ g o, pa = some ⟨g, o, none⟩ → g < w.heap.size := fun g o e => by
  rcases h.2 with ⟨h', _⟩ | ⟨g', cap', cur, h', h1, h2, h3⟩
  · injection h' with h' _ _
    rw [e] at h'
    cases h'
  · injection h' with h' _ _
    rw [e] at h'
    obtain rfl : g = g' := by injection h' with h'; injection h'
    exact (Array.getElem?_eq_some_iff.1 h2).1
set_option maxHeartbeats 4000000 in
theorem check_any (pub msg sig : ByteArray) (w : World) (hp : pub.size ≤ 1000000) (hm : msg.size ≤ 1000000) (hs : sig.size ≤ 1000000) :
    Calls Try.prog 18 #[.string pub, .string msg, .string sig] w fun e w' => e = .returned (.bool (SG.check pub msg sig)) ∧ Below w.heap.size w w' := by
  obtain ⟨sl, hsl⟩ : ∃ sl, sig.data.toList = sl := ⟨_, rfl⟩
  have hss : sig = W.WP.S sl := by rw [← hsl, W.WP.S_of]
  have hsn : sl.length ≤ 1000000 := by rw [← hsl, Array.length_toList]; exact hs
  have h0 : SG.rd0 sig = ⟨sl, 0, false⟩ := by unfold SG.rd0; rw [hsl]
  have HN := Lib.hid (fun V => W.new_any sl V (by omega))
  rw [← hss] at HN
  have hi1 : SG.num sig = (SG.rd0 sig).int.1 := rfl
  have hl1 : SG.lks sig = (SG.rd0 sig).int.2.texts.1.map W.WP.S := rfl
  have hp1 : SG.prs sig = (SG.rd0 sig).int.2.texts.2.texts.1.map W.WP.S := rfl
  have he1 : SG.rdE sig = (SG.rd0 sig).int.2.texts.2.texts.2 := rfl
  have hz1 := W.WP.int_s (SG.rd0 sig)
  have hz2 := (SG.texts_short (SG.rd0 sig).int.2).2
  have hib := SG.int_bd (SG.rd0 sig)
  obtain ⟨r0, hr0⟩ : ∃ r0, SG.rd0 sig = r0 := ⟨_, rfl⟩
  have hs0 : r0.s.length ≤ 1000000 := by rw [← hr0, h0]; exact hsn
  rw [← h0, hr0] at HN
  rw [hr0] at hi1 hl1 hp1 he1 hz1 hz2 hib
  have HI := Lib.hid (fun b V h => W.read_any b r0 V h)
  obtain ⟨R1, hR1⟩ : ∃ R1, r0.int = R1 := ⟨_, rfl⟩
  obtain ⟨i, r1⟩ := R1
  rw [hR1] at hi1 hl1 hp1 he1 hz1 hz2 HI hib
  simp only at hi1 hl1 hp1 he1 hz1 hz2 HI hib
  have HT1 := Lib.hid (fun b V h => W.texts_read b r1 V h (by rw [hz1]; omega))
  obtain ⟨R2, hR2⟩ : ∃ R2, r1.texts = R2 := ⟨_, rfl⟩
  obtain ⟨L, r2⟩ := R2
  rw [hR2] at hl1 hp1 he1 hz2 HT1
  simp only at hl1 hp1 he1 hz2 HT1
  have HT2 := Lib.hid (fun b V h => W.texts_read b r2 V h (by rw [hz2, hz1]; omega))
  obtain ⟨R3, hR3⟩ : ∃ R3, r2.texts = R3 := ⟨_, rfl⟩
  obtain ⟨Pl, r3⟩ := R3
  rw [hR3] at hp1 he1 HT2
  simp only at hp1 he1 HT2
  have hLL : (SG.lks sig).length = L.length := by rw [hl1, List.length_map]
  have hPL : (SG.prs sig).length = Pl.length := by rw [hp1, List.length_map]
  have hLV : L.map (fun s => Value.string (W.WP.S s)) = (SG.lks sig).map Value.string := by rw [hl1, List.map_map]; rfl
  have hPV : Pl.map (fun s => Value.string (W.WP.S s)) = (SG.prs sig).map Value.string := by rw [hp1, List.map_map]; rfl
  rw [hLV] at HT1
  rw [hPV] at HT2
  have HLS := Lib.hid (SG.lks_small hs)
  have HPS := Lib.hid (SG.prs_small hs)
  obtain ⟨n, hn⟩ : ∃ n, L.length = n := ⟨_, rfl⟩
  obtain ⟨m, hm2⟩ : ∃ m, Pl.length = m := ⟨_, rfl⟩
  rw [hn] at hLL HT1
  rw [hm2] at hPL HT2
  have HE := Lib.hid he1
  have HNU := Lib.hid hi1
  have HLL := Lib.hid hLL
  have HPL := Lib.hid hPL
  have HD := Lib.hid (fun V => digits_any msg V hm)
  have HIB := Lib.hid hib
  have HLM : Hid (n ≤ 1000000000) := Lib.hid (by
    have := texts_many r1
    rw [hR2] at this
    simp only at this
    rw [hn, hz1] at this
    omega)
  clear hsl hss hsn h0 hi1 hl1 hp1 he1 hz1 hz2 hr0 hs0 hR1 hR2 hR3 hLL hPL hLV hPV hn hm2 hm hs hib
  go_enter Try.func18, Try.ntmps18
  go_wp2_with fail
  refine (HN.out _).mono ?_
  rintro e w1 ⟨rfl, q1, k1⟩
  obtain ⟨B, hB⟩ : ∃ B, w.heap.size = B := ⟨_, rfl⟩
  have HB := Lib.hid hB
  rw [hB] at q1 k1 ⊢
  have q1 := Lib.hid q1
  go_wp2_with fail
  refine (HI.out B w1 q1.out).mono ?_
  rintro e w2 ⟨rfl, q2, k2⟩
  have q2 := Lib.hid q2
  have hk2 := Lib.hid (k1.trans (W.Kept.below k2 (Nat.le_refl _) (by have := k1.size; omega)))
  clear k1 k2
  go_wp2_with fail
  refine (HT1.out B w2 q2.out).mono ?_
  rintro e w3 ⟨v3, rfl, hv3, q3, k3⟩
  obtain ⟨la, lc, rfl⟩ := own_shape hv3
  have HV3 := Lib.hid hv3
  have q3 := Lib.hid q3
  have hk3 := Lib.hid (hk2.out.trans (W.Kept.below k3 (Nat.le_refl _) (by have := hk2.out.size; omega)))
  have hB2 : B < w2.heap.size := q2.out.lt
  clear hv3 k3
  go_wp2_with fail
  refine (HT2.out B w3 q3.out).mono ?_
  rintro e w4 ⟨v4, rfl, hv4, q4, k4⟩
  obtain ⟨pa, pc, rfl⟩ := own_shape hv4
  have q4 := Lib.hid q4
  have HV4 := Lib.hid (W.own_kept HV3.out hB2 k4)
  have HP4 := Lib.hid hv4
  have hg3 : ∀ g o, la = some ⟨g, o, none⟩ → g < w3.heap.size := fun g o e => by
    rcases HV3.out.2 with ⟨h, _⟩ | ⟨g', cap, cur, h, _, h2, _⟩
    · injection h with h _ _
      rw [e] at h
      cases h
    · injection h with h _ _
      rw [e] at h
      obtain rfl : g = g' := by injection h with h; injection h
      exact (Array.getElem?_eq_some_iff.1 h2).1
  have hk4 := Lib.hid (hk3.out.trans (W.Kept.below k4 (Nat.le_refl _) (by have := hk3.out.size; omega)))
  clear hv4 k4 HV3
  go_wp2_with fail
  refine (W.bad_any B r3 w4 q4.out).mono ?_
  rintro e w5 ⟨rfl, rfl⟩
  by_cases hbad : r3.bad = true
  · have HX := Lib.hid (SG.check_bad (pub := pub) (msg := msg) (by rw [HE.out]; exact hbad))
    rw [hbad]
    go_wp2
    go_ret
    exact ⟨by rw [HX.out]; rfl, by rw [HB.out]; exact hk4.out⟩
  · have hbad2 : r3.bad = false := by simpa using hbad
    have HBAD := Lib.hid hbad2
    rw [hbad2]
    clear hbad
    go_wp2_with fail
    refine (W.left_any B r3 w5 q4.out).mono ?_
    rintro e w6 ⟨rfl, k6⟩
    have hk6 := Lib.hid (hk4.out.trans (k6.mono (by have := hk4.out.size; have := HB.out; omega)))
    replace HV4 := Lib.hid (own_kept HV4.out k6)
    replace HP4 := Lib.hid (own_kept HP4.out k6)
    clear k6
    obtain ⟨lf, hlf⟩ : ∃ lf, r3.left = lf := ⟨_, rfl⟩
    have HLF := Lib.hid hlf
    rw [hlf]
    clear hlf
    by_cases hl0 : 0 < lf
    · have HX := Lib.hid (SG.check_left (pub := pub) (msg := msg) (by rw [HE.out, HLF.out]; omega))
      have hli : (0 : Int) < (lf : Int) := by omega
      go_wp2
      go_ret
      exact ⟨by rw [HX.out]; rfl, by rw [HB.out]; exact hk6.out⟩
    · have hli : ¬ (0 : Int) < (lf : Int) := by omega
      have HAR := Lib.hid (are_any (SG.lks sig) n la lc w6 HLL.out (row_own HV4.out (by rw [List.length_map, HLL.out])) (by have := HLM.out; omega))
      obtain ⟨ar, har⟩ : ∃ ar, SG.are (SG.lks sig) = ar := ⟨_, rfl⟩
      rw [har] at HAR
      go_wp2_with fail
      refine HAR.out.mono ?_
      rintro e w7 ⟨rfl, k7⟩
      have hk7 := Lib.hid (hk6.out.trans (k7.mono (by have := hk6.out.size; have := HB.out; omega)))
      replace HV4 := Lib.hid (own_kept HV4.out k7)
      replace HP4 := Lib.hid (own_kept HP4.out k7)
      clear k7
      cases ar with
      | false =>
        have HX := Lib.hid (SG.check_are (pub := pub) (msg := msg) (sig := sig) har)
        clear har
        go_wp2
        go_ret
        exact ⟨by rw [HX.out]; rfl, by rw [HB.out]; exact hk7.out⟩
      | true =>
        have HX := Lib.hid (SG.check_all (pub := pub) (msg := msg) (sig := sig) (by rw [HE.out]; exact HBAD.out) (by rw [HE.out, HLF.out]; omega) har)
        have hn18 : n = 18 := by
          have := har
          unfold SG.are at this
          rw [HLL.out] at this
          simp at this
          exact this.2
        subst hn18
        have HAR8 := Lib.hid har
        clear har hl0
        go_wp2_with fail
        refine (HD.out _).mono ?_
        rintro e w8 ⟨rfl, k8⟩
        have hk8 := Lib.hid (hk7.out.trans (k8.mono (by have := hk7.out.size; have := HB.out; omega)))
        replace HV4 := Lib.hid (own_kept HV4.out k8)
        replace HP4 := Lib.hid (own_kept HP4.out k8)
        clear k8
        obtain ⟨C, hC⟩ : ∃ C, SG.numA (SG.dig msg) = C := ⟨_, rfl⟩
        have hst := store_new w8 (SG.dig msg)
        have hcs := SG.numA_size (SG.dig msg)
        rw [hC] at hst hcs ⊢
        obtain ⟨g, rfl⟩ : ∃ g, la = some ⟨g, 0, none⟩ := by
          rcases HV4.out.2 with ⟨_, h⟩ | ⟨g, cap, cur, h, _⟩
          · omega
          · injection h with h _ _
            exact ⟨g, h⟩
        have hgw3 := hg3 g 0 rfl
        have hBg : B ≤ g := by
          rcases HV4.out.2 with ⟨h, _⟩ | ⟨g', cap', cur, h, h1, _⟩
          · cases h
          · injection h with h _ _
            obtain rfl : g = g' := by injection h with h; injection h
            omega
        have hgw8 : g < w8.heap.size := World.block_lt_of_cell? w8 ⟨g, 0, none⟩ ((HV4.out.cellAt 0 (by omega)).trans (by
          rw [List.getElem?_map, List.getElem?_eq_getElem (by rw [HLL.out]; omega)]
          rfl))
        have hn8 : NumAt (w8.alloc (.cells C 61)) w8.heap.size (SG.Dt (SG.dig msg) fun _ => 0) := by
          rw [← hC]
          refine NumAt.congr (D := SG.dig msg) (World.alloc_heap_new w8 _) (fun c hc => ?_)
          have := (SG.dig_at (msg := msg) hc).2
          show SG.dig msg c = min (SG.dig msg c + 0) 15
          omega
        have hr8 : (w8.alloc (.cells C 61)).ownsRow w2.heap.size 9 1 (.slice (some ⟨g, 0, none⟩) 18 lc) 18 ((SG.lt (SG.lks sig) (SG.dig msg) fun _ => 0).map Value.string) := by
          have h1 := own_row (w' := w8.alloc (.cells C 61)) HV4.out (Below.heap_alloc _ _ _ hgw8)
          have h2 : SG.lt (SG.lks sig) (SG.dig msg) (fun _ => 0) = SG.lks sig := by
            apply List.ext_getElem
            · rw [SG.lt_len, HLL.out]
            · intro k h1 h2
              simp only [SG.lt, List.getElem_map, List.getElem_range, Nat.zero_min]
              rw [List.getD_eq_getElem?_getD, List.getElem?_eq_getElem h2]
              rfl
          rw [h2]
          exact h1
        have hb8 := hk8.out.alloc (by have := hk8.out.size; have := HB.out; omega) (.cells C 61)
        have hp8 := own_kept HP4.out ((Below.refl _ w8).alloc (Nat.le_refl _) (.cells C 61))
        have hgA : g ≠ w8.heap.size := by omega
        have hBA0 : B ≤ w8.heap.size := by have := hk8.out.size; have := HB.out; omega
        have hpA0 := own_lt HP4.out
        go_wp2_with fail
        clear hst hcs
        obtain ⟨A0, hA0⟩ : ∃ A0, w8.heap.size = A0 := ⟨_, rfl⟩
        obtain ⟨W8, hW8⟩ : ∃ W8, w8.alloc (.cells C 61) = W8 := ⟨_, rfl⟩
        rw [hW8] at hn8 hr8 hb8 hp8 ⊢
        rw [hA0] at hn8 hgA hBA0 hpA0 ⊢
        have hsz8 : g < W8.heap.size := by rw [← hW8]; simp; omega
        clear hW8 hA0 hgw8
        go_loopg [11] 15 (fun gk v11 wr => ∃ A t : Nat, v11 = .pointer (some ⟨A, 0, none⟩) ∧ 15 ≤ gk + t ∧ g ≠ A ∧ B ≤ A ∧ (∀ x o, pa = some ⟨x, o, none⟩ → x < A) ∧ NumAt wr A (SG.Dt (SG.dig msg) fun _ => t) ∧ wr.ownsRow w2.heap.size 9 1 (.slice (some ⟨g, 0, none⟩) 18 lc) 18 ((SG.lt (SG.lks sig) (SG.dig msg) fun _ => t).map Value.string) ∧ wr.ownsRow w3.heap.size 9 1 (.slice pa m pc) m ((SG.prs sig).map Value.string) ∧ Below B w wr ∧ g < wr.heap.size)
        case atStart => exact ⟨A0, 0, rfl, by omega, hgA, hBA0, hpA0, hn8, hr8, hp8, hb8, hsz8⟩
        case round =>
          obtain ⟨A, t, rfl, hgk, hgA, hAB, hpA, hn, hr, hp, hb, hgw⟩ := hrel
          have HPA := Lib.hid hpA
          clear hpA
          obtain ⟨F, hF⟩ : ∃ F, (SG.Dt (SG.dig msg) fun _ => t) = F := ⟨_, rfl⟩
          rw [hF] at hn
          have HF := Lib.hid hF
          have HN := Lib.hid hn
          have HR := Lib.hid hr
          have HPP := Lib.hid hp
          have HBB := Lib.hid hb
          have HGA := Lib.hid hgA
          obtain ⟨E, hE⟩ : ∃ E, SG.numA (fun _ => 15) = E := ⟨_, rfl⟩
          obtain ⟨X, hX⟩ : ∃ X, SG.numA F = X := ⟨_, rfl⟩
          obtain ⟨s, hs⟩ : ∃ s, SG.sameN F (fun _ => 15) = s := ⟨_, rfl⟩
          have HS := Lib.hid hs
          have HXX := Lib.hid hX
          clear hn hr hp hb hF
          go_wp2_with fail
          refine chk_test HN.out ?_
          intro w9 k9
          rw [hE, hs, hX]
          replace HN := Lib.hid (HN.out.keep k9)
          replace HR := Lib.hid (own_kept HR.out k9)
          replace HPP := Lib.hid (own_kept HPP.out k9)
          replace HBB := Lib.hid (HBB.out.trans (k9.mono (by have := HBB.out.size; have := HB.out; omega)))
          replace hgw := Nat.lt_of_lt_of_le hgw k9.size
          clear k9 hE hs hX
          cases s with
          | true =>
            have hall := (SG.sameN_iff F _).1 HS.out
            have hlt : SG.lt (SG.lks sig) (SG.dig msg) (fun _ => t) = SG.lt (SG.lks sig) (SG.dig msg) (fun _ => 15) := SG.lt_congr (fun c hc => by
              have h1 := hall c hc
              rw [← HF.out] at h1
              unfold SG.Dt at h1
              have h2 := (SG.dig_at (msg := msg) hc).2
              show min t _ = min 15 _
              have h3 : min (SG.dig msg c + t) 15 = 15 := h1
              omega)
            rw [hlt] at HR
            have hlf := leaf_any _ 18 (some ⟨g, 0, none⟩) lc w9 (SG.lt_len (SG.lks sig) (SG.dig msg) (fun _ => 15)) (by omega) (by omega) (own_cap HR.out) (row_own HR.out (by rw [List.length_map, SG.lt_len])) (fun s hs => by
              unfold SG.lt at hs
              obtain ⟨c, hc, rfl⟩ := List.mem_map.1 hs
              have hc := List.mem_range.1 hc
              have := SG.are_all8 HAR8.out c hc
              rw [SG.lk_small this]
              omega)
            rw [SG.cat_lt msg _ HLL.out] at hlf
            obtain ⟨z, hz⟩ : ∃ z, DG.Of (SG.fin msg (SG.lks sig) 18) = z := ⟨_, rfl⟩
            have hz8 : z.size = 8 := by rw [← hz]; rfl
            rw [hz] at hlf HX
            have HLF2 := Lib.hid hlf
            clear hlt hall hlf hz
            go_wp2_with fail
            refine HLF2.out.mono ?_
            rintro e w10 ⟨rfl, k10⟩
            have hvf := verify_any pub z (SG.num sig) pa pc (SG.prs sig) w10 (by rw [HNU.out]; exact HIB.out) (by omega) (by rw [HPL.out]; exact row_own (own_kept HPP.out k10) (by rw [List.length_map, HPL.out])) (fun s h => by have := HPS.out s h; omega)
            rw [HPL.out, HNU.out] at hvf
            rw [HNU.out] at HX
            have HVF := Lib.hid hvf
            clear hvf
            go_wp2_with fail
            refine HVF.out.mono ?_
            rintro e w11 ⟨rfl, k11⟩
            go_wp2
            go_ret
            exact ⟨by rw [HX.out]; rfl, by rw [HB.out]; exact (HBB.out.trans (k10.mono (by have := HBB.out.size; have := HB.out; omega))).trans (k11.mono (by have := HBB.out.size; have := k10.size; have := HB.out; omega))⟩
          | false =>
            have ht15 : t < 15 := by
              rcases Nat.lt_or_ge t 15 with h | h
              · exact h
              · have : SG.sameN F (fun _ => 15) = true := (SG.sameN_iff F _).2 (fun c hc => by
                  rw [← HF.out]
                  show min (SG.dig msg c + t) 15 = 15
                  omega)
                rw [HS.out] at this
                cases this
            have HAD := Lib.hid (advance_any (SG.lks sig) (SG.dig msg) (fun _ => t) w2.heap.size g lc w9 HLS.out HR.out)
            rw [HF.out, HXX.out] at HAD
            have HN2 := HN.out
            go_upto_region 7 with fail
            refine wp_region_lit ?_
            refine wpList_mv rfl rfl ?_
            refine wpList_load_nums rfl rfl rfl HN2 ?_
            simp only [Act.put, List.setIfInBounds_toArray, List.set_cons_zero, List.set_cons_succ]
            rw [HXX.out]
            go_wp2_with fail
            refine HAD.out.mono ?_
            rintro e w10 ⟨rfl, hr10, k10⟩
            have hgA := HGA.out
            have hn10 : NumAt w10 A F := (k10.block A HN2.lt (fun e => hgA (Option.some.inj e).symm)).trans HN2
            have hp10 := W.own_kept HPP.out hgw3 k10
            have hB10 := HBB.out.trans (W.Kept.below (B := B) k10 (by omega) (by have := HBB.out.size; have := HB.out; omega))
            obtain ⟨F2, hF2⟩ : ∃ F2, (SG.Dt (SG.dig msg) fun k => t + 1) = F2 := ⟨_, rfl⟩
            have hst := hn10.storeAll F2
            have hcs := SG.numA_size F2
            have hn11 : NumAt (w10.setRow A (SG.numA F2)) A F2 := setRow_heap w10 A _ (SG.numA F2) _ _ hn10
            have hr11 : (w10.setRow A (SG.numA F2)).ownsRow w2.heap.size 9 1 (.slice (some ⟨g, 0, none⟩) 18 lc) 18 ((SG.lt (SG.lks sig) (SG.dig msg) fun _ => t + 1).map Value.string) := own_row hr10 (setRow_other _ _ _ _ hgA)
            have hB11 := below_setRow hB10 hAB (SG.numA F2)
            have hp11 : (w10.setRow A (SG.numA F2)).ownsRow w3.heap.size 9 1 (.slice pa m pc) m ((SG.prs sig).map Value.string) := own_row' hp10 (fun x o e => setRow_other _ _ _ _ (by have := HPA.out x o e; omega))
            have hgw11 : g < (w10.setRow A (SG.numA F2)).heap.size := by
              have := k10.size
              simp only [World.setRow, Array.size_modify]
              omega
            obtain ⟨Y, hY⟩ : ∃ Y, SG.numA F2 = Y := ⟨_, rfl⟩
            obtain ⟨w11, hw11⟩ : ∃ w11, w10.setRow A Y = w11 := ⟨_, rfl⟩
            have hst2 := store_new w11 F2
            rw [hY] at hst hcs hn11 hr11 hB11 hp11 hgw11 hst2
            rw [hw11] at hst hn11 hr11 hB11 hp11 hgw11
            rw [hF2, hY]
            have HY := Lib.hid hY
            have HF2 := Lib.hid hF2
            have HN11 := Lib.hid hn11
            have HR11 := Lib.hid hr11
            have HB11 := Lib.hid hB11
            have HP11 := Lib.hid hp11
            clear hn10 hr10 k10 hp10 hB10 hn11 hr11 hB11 hp11 hF2 hw11 hY hAB hgA HN2 hgw hBg
            go_upto_region 8 with fail
            refine wp_region_lit ?_
            refine wpList_load_nums rfl rfl rfl HN11.out ?_
            refine wpList_nil ?_
            simp only [Act.put, List.setIfInBounds_toArray, List.set_cons_zero, List.set_cons_succ]
            rw [HY.out]
            go_wp2
            go_roundg (gk - 1)
            case measure => omega
            case rel =>
              refine ⟨w11.heap.size, t + 1, rfl, by omega, by omega, by have := HB11.out.size; have := HB.out; omega, own_lt HP11.out, ?_, own_row HR11.out (Below.heap_alloc _ _ _ hgw11), own_kept HP11.out ((Below.refl _ w11).alloc (Nat.le_refl _) _), HB11.out.alloc (by have := HB11.out.size; have := HB.out; omega) _, by simp; omega⟩
              rw [HF2.out, ← HY.out]
              exact World.alloc_heap_new w11 _
end Go.Proofs.Ytinkhgmdeldniaa
