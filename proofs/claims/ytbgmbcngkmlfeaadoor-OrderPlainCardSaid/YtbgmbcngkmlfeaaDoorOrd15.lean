/- The directions of the reference. No conditions. -/
import Derived.Test.YtbgmbcngkmlfeaaDoorOrd10
import Derived.Test.YtbgmbcngkmlfeaaDoorOrd6
namespace Go.Proofs.YtbgmbcngkmlfeaaDoor.OP
theorem part_one {b : Int} {K : List Int} {i : Nat} {k : Int} (hb : b ≠ 0) (hk : K[i]? = some k) (h : k ≠ 0) : part b K (i + 1) = part b K i := by
  have hi := (List.getElem?_eq_some_iff.1 hk).1
  exact part_skip hb (by omega) (by omega) (fun j y h1 h2 hy => by
    obtain rfl : j = i := by omega
    rw [hk] at hy
    cases hy
    exact h)
/-- The lines' ends, up to a place. -/
def ov (s : ByteArray) (b : Int) (D : List Int) (i : Nat) : List Int := (List.range D.length).map fun x => if x < i ∧ CP.cl s x = 1 then b else D.getD x 0
theorem ov_len (s : ByteArray) (b : Int) (D : List Int) (i : Nat) : (ov s b D i).length = D.length := by simp [ov]
theorem ov_get {s : ByteArray} {b : Int} {D : List Int} {i x : Nat} (h : x < D.length) : (ov s b D i)[x]? = some (if x < i ∧ CP.cl s x = 1 then b else D.getD x 0) := by
  unfold ov
  rw [List.getElem?_map, List.getElem?_range h]
  rfl
theorem ov_zero (s : ByteArray) (b : Int) (D : List Int) : ov s b D 0 = D := by
  refine List.ext_getElem? fun x => ?_
  by_cases h : x < D.length
  · rw [ov_get h, if_neg (by omega), List.getElem?_eq_getElem h]
    simp [List.getD, h]
  · rw [List.getElem?_eq_none (by rw [ov_len]; omega), List.getElem?_eq_none (by omega)]
theorem ov_yes {s : ByteArray} {b : Int} {D : List Int} {i : Nat} (hi : i < D.length) (h : CP.cl s i = 1) : ov s b D (i + 1) = (ov s b D i).set i b := by
  refine List.ext_getElem? fun x => ?_
  by_cases hx : x < D.length
  · rw [ov_get hx]
    by_cases e : x = i
    · subst e
      rw [List.getElem?_set_self (by rw [ov_len]; exact hi), if_pos ⟨by omega, h⟩]
    · rw [List.getElem?_set_ne (by omega), ov_get hx]
      by_cases h2 : x < i ∧ CP.cl s x = 1
      · rw [if_pos h2, if_pos ⟨by omega, h2.2⟩]
      · rw [if_neg h2, if_neg (fun h3 => h2 ⟨by omega, h3.2⟩)]
  · rw [List.getElem?_eq_none (by rw [ov_len]; omega), List.getElem?_eq_none (by simp [ov_len]; omega)]
theorem ov_no {s : ByteArray} {b : Int} {D : List Int} {i : Nat} (h : CP.cl s i ≠ 1) : ov s b D (i + 1) = ov s b D i := by
  refine List.ext_getElem? fun x => ?_
  by_cases hx : x < D.length
  · rw [ov_get hx, ov_get hx]
    by_cases h2 : x < i ∧ CP.cl s x = 1
    · rw [if_pos h2, if_pos ⟨by omega, h2.2⟩]
    · rw [if_neg h2, if_neg (fun h3 => by
        by_cases e : x = i
        · subst e; exact h h3.2
        · exact h2 ⟨by omega, h3.2⟩)]
  · rw [List.getElem?_eq_none (by rw [ov_len]; omega), List.getElem?_eq_none (by rw [ov_len]; omega)]
def rdirs (s : ByteArray) (b : Int) (K : List Int) : List Int := ov s b (dirs b K) K.length
end Go.Proofs.YtbgmbcngkmlfeaaDoor.OP
namespace Go.Proofs.YtbgmbcngkmlfeaaDoor
set_option maxRecDepth 100000
set_option linter.unusedVariables false
open Go.RowKit Go.Shelf Go.Deep
theorem own_at? {w : World} {B e n g cap : Nat} {L : List Int} (h : w.ownsRow B e 1 (.slice (some ⟨g, 0, none⟩) n cap) n (L.map (Value.int .i64))) {k : Nat} {x : Int} (hk : k < n) (hx : L[k]? = some x) : w.cell? ⟨g, k, none⟩ = some (.int .i64 x) := by
  rw [h.cellAt k (by omega), List.getElem?_map, hx]
  rfl
/-- A store into a row of numbers. -/
theorem own_put {w : World} {B e n g cap : Nat} {L : List Int} (h : w.ownsRow B e 1 (.slice (some ⟨g, 0, none⟩) n cap) n (L.map (Value.int .i64))) (k : Nat) (x : Int) : (w.setCell ⟨g, k, none⟩ (.int .i64 x)).ownsRow B e 1 (.slice (some ⟨g, 0, none⟩) n cap) n ((L.set k x).map (Value.int .i64)) ∧ w.grownBy (w.setCell ⟨g, k, none⟩ (.int .i64 x)) (some g) := by
  obtain ⟨h1, h2⟩ := h.stored k (.int .i64 x)
  rw [← List.map_set] at h1
  exact ⟨h1, h2⟩
set_option maxHeartbeats 8000000 in
theorem rdirections_any (s : ByteArray) (w : World) (hs : s.size ≤ 1000000000) :
    Calls Tryd.prog 35 #[.string s] w fun e W' => ∃ v', e = .returned v' ∧ W'.ownsRow w.heap.size 3 1 v' s.size ((OP.rdirs s (OP.bse s) (OP.kinds s)).map (Value.int .i64)) ∧ Below w.heap.size w W' := by
  obtain ⟨b, hb⟩ : ∃ b, OP.bse s = b := ⟨_, rfl⟩
  have hb12 : b = 1 ∨ b = 2 := by rw [← hb]; exact OP.fb_bd _
  have HBS := Lib.hid fun V => rbase7_any s V hs
  rw [hb] at HBS
  rw [hb]
  have HKD := Lib.hid (rkinds_any s w hs)
  have HKN := Lib.hid (OP.kinds_len s)
  have hkb : ∀ k ∈ OP.kinds s, k = 0 ∨ k = 1 ∨ k = 2 ∨ k = 3 := fun k hk => OP.kinds_bd hk
  obtain ⟨K, hK⟩ : ∃ K, OP.kinds s = K := ⟨_, rfl⟩
  rw [hK] at HKD HKN hkb ⊢
  have HKB := Lib.hid hkb
  have hb0 : b ≠ 0 := by omega
  obtain ⟨n, hn⟩ : ∃ n, s.size = n := ⟨_, rfl⟩
  have HSN := Lib.hid hn
  rw [hn] at HKD HKN hs ⊢
  clear hb hK hkb hb12 hn
  go_enter Tryd.func35, Tryd.ntmps35
  go_wp2_with fail
  refine HKD.out.mono ?_
  rintro e w1 ⟨vk, rfl, hok, hb1⟩
  obtain ⟨ka, kc, rfl⟩ := own_shape hok
  have HOK := Lib.hid hok
  have HB1 := Lib.hid hb1
  clear hok hb1 HKD
  go_wp2_with fail
  refine (HBS.out _).mono ?_
  rintro e w2 ⟨rfl, hb2⟩
  have hok2 := own_below HOK.out hb2
  have hkl : ∀ q, (Value.slice ka n kc).ownBlock = some q → q < w2.heap.size := fun q e => (hok2.lt q e).2
  obtain ⟨w3, hmk, hown, hb3, hw3⟩ := make_ints w2 n w2.heap.size (Nat.le_refl _) hs
  have HB3 := Lib.hid (bnext (bnext HB1.out hb2) hb3)
  have hok3 := own_below hok2 hb3
  obtain ⟨G, hG⟩ : ∃ G, w2.heap.size = G := ⟨_, rfl⟩
  rw [hG] at hmk hown hkl hw3
  have HKR : Hid (∀ V, KpR (.slice (some ⟨G, 0, none⟩) n n) w3 V → V.ownsRow w.heap.size 3 1 (.slice ka n kc) n (K.map (Value.int .i64))) := Lib.hid fun V hV => hV.own hok3 (fun q e e2 => by have h1 : G = q := Option.some.inj e; have := hkl q e2; omega)
  have hwG : w.heap.size ≤ G := by rw [← hG]; exact (bnext HB1.out hb2).size
  have HO := Lib.hid hown
  clear hok2 hok3 hkl hb2 hb3 hown HOK HB1 HBS hG
  go_wp2_with fail
  clear hmk
  go_loopw [6, 7] (fun v6 v7 wr => ∃ i : Nat, v7 = .int .i64 (i : Int) ∧ i ≤ n ∧ v6 = .int .i64 (OP.lst b (K.take i)) ∧ wr.ownsRow G 3 1 (.slice (some ⟨G, 0, none⟩) n n) n ((OP.res b (K.take i) ++ List.replicate (n - i) 0).map (Value.int .i64)) ∧ KpR (.slice (some ⟨G, 0, none⟩) n n) w3 wr ∧ Below w.heap.size w wr) (fun _ v _ => n - (intOf v).toNat)
  case atStart => exact ⟨0, rfl, Nat.zero_le _, rfl, by simpa [OP.res] using HO.out, KpR.refl _ _, HB3.out⟩
  case round =>
    obtain ⟨i, rfl, hi, rfl, hrow, hkp, hbw⟩ := hrel
    by_cases hin : i < n
    · have hii : (i : Int) < (n : Int) := by omega
      have hi0 : (0 : Int) ≤ (i : Int) := by omega
      obtain ⟨k, hk⟩ : ∃ k, K[i]? = some k := ⟨K[i]'(by rw [HKN.out]; exact hin), List.getElem?_eq_getElem _⟩
      have hkk := HKB.out k (List.mem_of_getElem? hk)
      have hkr := HKR.out wr hkp
      obtain ⟨kg, kcap, e, -, -, -⟩ := own_at hkr (by omega)
      injection e with e _ e2
      subst e e2
      have c1 := own_at? hkr hin hk
      have htk : K.take (i + 1) = K.take i ++ [k] := by rw [List.take_add_one, hk]; rfl
      have hrs := OP.res_snoc b (K.take i) k
      have hls := OP.lst_snoc b (K.take i) k
      rw [← htk] at hrs hls
      have hrl : (OP.res b (K.take i)).length = i := by rw [OP.res_len, List.length_take, HKN.out]; omega
      have hrep : List.replicate (n - i) (0 : Int) = 0 :: List.replicate (n - (i + 1)) 0 := by rw [← List.replicate_succ]; congr 1; omega
      rw [hrep] at hrow
      have HRS := Lib.hid hrs
      have HLS := Lib.hid hls
      have HRL := Lib.hid hrl
      generalize OP.res b (K.take i) = A at hrow HRS HRL
      generalize hls0 : OP.lst b (K.take i) = la at HLS HRS
      generalize hR : List.replicate (n - (i + 1)) (0 : Int) = R at hrow
      have HR := Lib.hid hR
      have hat : (A ++ 0 :: R)[i]? = some 0 := by rw [← HRL.out]; simp
      have hst : ∀ y, (A ++ 0 :: R).set i y = (A ++ [y]) ++ R := fun y => by rw [← HRL.out]; simp
      have c2 := own_at? hrow hin hat
      have f2 := hrow.frozenAt i
      have HROW := Lib.hid hrow
      have HKP := Lib.hid hkp
      have HBW := Lib.hid hbw
      have HST := Lib.hid hst
      clear hk htk hrs hls hrl hrep hR hat hst hkr hrow hkp hbw hls0
      rcases hkk with rfl | rfl | rfl | rfl
      · have hr2 : Hid (OP.res b (K.take (i + 1)) = A ++ [0]) := Lib.hid (by rw [HRS.out]; simp)
        have hl2 : Hid (OP.lst b (K.take (i + 1)) = la) := Lib.hid (by rw [HLS.out]; simp)
        go_wp2
        go_roundw
        case rel => exact ⟨i + 1, by go_num, hin, by rw [hl2.out], by rw [hr2.out, HR.out, List.append_assoc]; exact HROW.out, HKP.out, HBW.out⟩
        case measure => simp [intOf]; omega
      · have hr2 : Hid (OP.res b (K.take (i + 1)) = A ++ [1]) := Lib.hid (by rw [HRS.out]; simp)
        have hl2 : Hid (OP.lst b (K.take (i + 1)) = 1) := Lib.hid (by rw [HLS.out]; simp)
        obtain ⟨hp, hg⟩ := own_put HROW.out i 1
        rw [HST.out 1] at hp
        have HP := Lib.hid hp
        have HK2 := Lib.hid (HKP.out.row hg)
        have HB2 := Lib.hid (bset HBW.out (p := ⟨G, i, none⟩) (by show w.heap.size ≤ G; exact hwG) (.int .i64 1))
        clear hp hg
        go_wp2
        go_roundw
        case rel => exact ⟨i + 1, by go_num, hin, by rw [hl2.out], by rw [hr2.out, HR.out]; exact HP.out, HK2.out, HB2.out⟩
        case measure => simp [intOf]; omega
      · have hr2 : Hid (OP.res b (K.take (i + 1)) = A ++ [2]) := Lib.hid (by rw [HRS.out]; simp)
        have hl2 : Hid (OP.lst b (K.take (i + 1)) = 2) := Lib.hid (by rw [HLS.out]; simp)
        obtain ⟨hp, hg⟩ := own_put HROW.out i 2
        rw [HST.out 2] at hp
        have HP := Lib.hid hp
        have HK2 := Lib.hid (HKP.out.row hg)
        have HB2 := Lib.hid (bset HBW.out (p := ⟨G, i, none⟩) (by show w.heap.size ≤ G; exact hwG) (.int .i64 2))
        clear hp hg
        go_wp2
        go_roundw
        case rel => exact ⟨i + 1, by go_num, hin, by rw [hl2.out], by rw [hr2.out, HR.out]; exact HP.out, HK2.out, HB2.out⟩
        case measure => simp [intOf]; omega
      · have hr2 : Hid (OP.res b (K.take (i + 1)) = A ++ [la]) := Lib.hid (by rw [HRS.out]; simp)
        have hl2 : Hid (OP.lst b (K.take (i + 1)) = la) := Lib.hid (by rw [HLS.out]; simp)
        obtain ⟨hp, hg⟩ := own_put HROW.out i la
        rw [HST.out la] at hp
        have HP := Lib.hid hp
        have HK2 := Lib.hid (HKP.out.row hg)
        have HB2 := Lib.hid (bset HBW.out (p := ⟨G, i, none⟩) (by show w.heap.size ≤ G; exact hwG) (.int .i64 la))
        clear hp hg
        go_wp2
        go_roundw
        case rel => exact ⟨i + 1, by go_num, hin, by rw [hl2.out], by rw [hr2.out, HR.out]; exact HP.out, HK2.out, HB2.out⟩
        case measure => simp [intOf]; omega
    · obtain rfl : n = i := by omega
      rw [Nat.sub_self, List.replicate_zero, List.append_nil, List.take_of_length_le (by rw [HKN.out]; exact Nat.le_refl _), ← OP.part_zero] at hrow
      have HROW := Lib.hid hrow
      have HKP := Lib.hid hkp
      have HBW := Lib.hid hbw
      clear hrow hkp hbw
      go_wp2_with fail
      go_loopw [8] (fun v8 wr => ∃ i : Nat, v8 = .int .i64 (i : Int) ∧ i ≤ n ∧ wr.ownsRow G 3 1 (.slice (some ⟨G, 0, none⟩) n n) n ((OP.part b K i).map (Value.int .i64)) ∧ KpR (.slice (some ⟨G, 0, none⟩) n n) w3 wr ∧ Below w.heap.size w wr ∧ Hid (0 < i → ∀ z, K[i]? = some 0 → K[i - 1]? = some z → z ≠ 0)) (fun v _ => n - (intOf v).toNat)
      case atStart => exact ⟨0, rfl, Nat.zero_le _, HROW.out, HKP.out, HBW.out, Lib.hid fun h => absurd h (by decide)⟩
      case round =>
        clear HROW HKP HBW
        obtain ⟨i, rfl, hi2, hrow, hkp, hbw, HBD⟩ := hrel
        obtain ⟨wq, hwq⟩ : ∃ wq, wq = wr := ⟨_, rfl⟩
        subst hwq
        by_cases hin : i < n
        · have hii : (i : Int) < (n : Int) := by omega
          have hi0 : (0 : Int) ≤ (i : Int) := by omega
          obtain ⟨k, hk⟩ : ∃ k, K[i]? = some k := ⟨K[i]'(by rw [HKN.out]; exact hin), List.getElem?_eq_getElem _⟩
          have hkr := HKR.out wq hkp
          obtain ⟨kg, kcap, e, -, -, -⟩ := own_at hkr (by omega)
          injection e with e _ e2
          subst e e2
          have HKC : Hid (∀ (x : Nat) (z : Int), x < n → K[x]? = some z → wq.cell? ⟨kg, x, none⟩ = some (.int .i64 z)) := Lib.hid fun x z h1 h2 => own_at? hkr h1 h2
          have c1 := HKC.out i k hin hk
          have HROW := Lib.hid hrow
          have HKP := Lib.hid hkp
          have HBW := Lib.hid hbw
          clear hkr hrow hkp hbw
          by_cases hkz : k = 0
          · subst hkz
            have hk0 := hk
            have HK0 := Lib.hid hk
            clear hk
            go_wp2_with fail
            go_loopw [9] (fun v9 wi => ∃ e : Nat, v9 = .int .i64 (e : Int) ∧ i ≤ e ∧ e ≤ n ∧ Hid (∀ x y, i ≤ x → x < e → K[x]? = some y → y = 0) ∧ wi = wq) (fun v _ => n - (intOf v).toNat)
            case atStart => exact ⟨i, rfl, Nat.le_refl _, hi2, Lib.hid fun x y h1 h2 => by omega, rfl⟩
            case round =>
              clear c1
              obtain ⟨e, rfl, hie', hen, HZ, hwi⟩ := hrel
              replace hwi := hwi.symm
              subst hwi
              by_cases hen2 : e < n
              · have heni : (e : Int) < (n : Int) := by omega
                have he0' : (0 : Int) ≤ (e : Int) := by omega
                obtain ⟨y, hy⟩ : ∃ y, K[e]? = some y := ⟨K[e]'(by rw [HKN.out]; exact hen2), List.getElem?_eq_getElem _⟩
                have c2 := HKC.out e y hen2 hy
                by_cases hy0 : y = 0
                · subst hy0
                  have HY := Lib.hid hy
                  clear hy
                  go_wp2
                  go_roundw
                  case rel =>
                    refine ⟨e + 1, by go_num, by omega, hen2, Lib.hid fun x z h1 h2 hz => ?_, by first | rfl | trivial⟩
                    by_cases hx : x < e
                    · exact HZ.out x z h1 hx hz
                    · obtain rfl : x = e := by omega
                      rw [HY.out] at hz
                      cases hz
                      rfl
                  case measure => simp [intOf]; omega
                · have hyb : (y == 0) = false := by simp [hy0]
                  have hie : i < e := by
                    rcases Nat.lt_or_ge i e with h | h
                    · exact h
                    · obtain rfl : i = e := by omega
                      rw [hk0] at hy
                      exact absurd (Option.some.inj hy).symm hy0
                  have HNZ : Hid (∀ z, K[e]? = some z → z ≠ 0) := Lib.hid fun z hz => by rw [hy] at hz; cases hz; exact hy0
                  clear hy hy0
                  have hpl := OP.part_len b K i (by rw [HKN.out]; omega)
                  rw [HKN.out] at hpl
                  have HPL := Lib.hid hpl
                  have hfp := OP.part_gap (b := b) (K := K) (f := i) (t := e) hb0 hie (by rw [HKN.out]; exact hen) HZ.out (fun h0 y hy => HBD.out h0 y hk0 hy) HNZ.out
                  have HFP := Lib.hid hfp
                  obtain ⟨d1, hd1⟩ : ∃ d1, OP.side b (OP.part b K i) ((i : Int) - 1) = d1 := ⟨_, rfl⟩
                  obtain ⟨d2, hd2⟩ : ∃ d2, OP.side b (OP.part b K i) (e : Int) = d2 := ⟨_, rfl⟩
                  have HFD : Hid (OP.fillD b (OP.part b K i) i e = if d1 = d2 then d1 else b) := Lib.hid (by unfold OP.fillD; rw [hd1, hd2])
                  have HD1 := Lib.hid hd1
                  have HD2 := Lib.hid hd2
                  clear hpl hfp hd1 hd2
                  have hni : (e : Int) < (n : Int) := by omega
                  have he0 : (0 : Int) ≤ (e : Int) := by omega
                  have cE : wq.cell? ⟨G, e, none⟩ = some (.int .i64 d2) := own_at? HROW.out (by omega) (by rw [← HD2.out]; unfold OP.side; rw [if_neg (by rw [HPL.out]; omega), Int.toNat_natCast]; simp [List.getD, List.getElem?_eq_getElem (show e < (OP.part b K i).length by rw [HPL.out]; omega)])
                  by_cases h0 : 0 < i
                  · have h0i : (0 : Int) < (i : Int) := by omega
                    have hwr1 : IntKind.i64.wrap ((i : Int) - 1) = (i : Int) - 1 := by rw [IntKind.wrap_i64]; omega
                    obtain ⟨i1, hi1⟩ : ∃ i1 : Nat, (i : Int) - 1 = (i1 : Int) := ⟨i - 1, by omega⟩
                    have hi1n : (i1 : Int) < (n : Int) := by omega
                    have hi10 : (0 : Int) ≤ (i1 : Int) := by omega
                    have cB : wq.cell? ⟨G, i1, none⟩ = some (.int .i64 d1) := own_at? HROW.out (by omega) (by rw [← HD1.out, hi1]; unfold OP.side; rw [if_neg (by rw [HPL.out]; omega), Int.toNat_natCast]; simp [List.getD, List.getElem?_eq_getElem (show i1 < (OP.part b K i).length by rw [HPL.out]; omega)])
                    by_cases hdd : d1 = d2
                    · have hbeq : (d1 == d2) = true := by simp [hdd]
                      have HFL : Hid (∀ x, i ≤ x → x < e → (OP.dirs b K)[x]? = some d1) := Lib.hid (fun x h1 h2 => by rw [HFP.out x h1 h2, HFD.out, if_pos hdd])
                      clear hdd
                      go_wp2_with fail
                      go_loopw [12] (fun v12 wi => ∃ j : Nat, v12 = .int .i64 (j : Int) ∧ i ≤ j ∧ j ≤ e ∧ wi.ownsRow G 3 1 (.slice (some ⟨G, 0, none⟩) n n) n ((OP.some' b K i j d1).map (Value.int .i64)) ∧ KpR (.slice (some ⟨G, 0, none⟩) n n) w3 wi ∧ Below w.heap.size w wi) (fun v _ => e - (intOf v).toNat)
                      case atStart => exact ⟨i, rfl, Nat.le_refl _, by omega, by rw [OP.some_start]; exact HROW.out, HKP.out, HBW.out⟩
                      case round =>
                        obtain ⟨j, rfl, hj1, hj2, hrow, hkp, hbw⟩ := hrel
                        by_cases hje : j < e
                        · have hjei : (j : Int) < (e : Int) := by omega
                          have hjni : (j : Int) < (n : Int) := by omega
                          have hj0 : (0 : Int) ≤ (j : Int) := by omega
                          have hsl := OP.some_len (b := b) (K := K) (d := d1) hj1 (by rw [HKN.out]; omega)
                          rw [HKN.out] at hsl
                          obtain ⟨z, hz⟩ : ∃ z, (OP.some' b K i j d1)[j]? = some z := ⟨_, List.getElem?_eq_getElem (by rw [hsl]; omega)⟩
                          have c2 := own_at? hrow (by omega) hz
                          have f2 := hrow.frozenAt j
                          obtain ⟨hp1, hg1⟩ := own_put hrow j b
                          obtain ⟨hp2, hg2⟩ := own_put hp1 j d1
                          rw [List.set_set, OP.some_step hj1 (by rw [HKN.out]; omega)] at hp2
                          have f2' := hp1.frozenAt j
                          have c2' := own_at? (k := j) (x := b) hp1 (by omega) (by rw [List.getElem?_set_self (by rw [hsl]; omega)])
                          have HP := Lib.hid hp2
                          have HK2 := Lib.hid ((hkp.row hg1).row hg2 : KpR (.slice (some ⟨G, 0, none⟩) n n) w3 ((wr.setCell ⟨G, j, none⟩ (.int .i64 b)).setCell ⟨G, j, none⟩ (.int .i64 d1)))
                          have HB2 := Lib.hid (bset (bset hbw (p := ⟨G, j, none⟩) (by show w.heap.size ≤ G; exact hwG) (.int .i64 b)) (p := ⟨G, j, none⟩) (by show w.heap.size ≤ G; exact hwG) (.int .i64 d1))
                          clear hp1 hg1 hp2 hg2
                          clear hrow hkp hbw hz
                          go_wp2
                          go_roundw
                          case rel => exact ⟨j + 1, by go_num, by omega, hje, HP.out, HK2.out, HB2.out⟩
                          case measure => simp [intOf]; omega
                        · obtain rfl : e = j := by omega
                          rw [OP.some_end (by omega) (by rw [HKN.out]; exact hen) HFL.out] at hrow
                          have HR2 := Lib.hid hrow
                          have HK2 := Lib.hid hkp
                          have HB2 := Lib.hid hbw
                          clear hrow hkp hbw
                          go_wp2
                          go_roundw
                          case rel => exact ⟨e, by go_num, hen, HR2.out, HK2.out, HB2.out, Lib.hid fun h0 z h1 h2 => absurd rfl (HNZ.out 0 h1)⟩
                          case measure => simp [intOf]; omega
                    · have hbeq : (d1 == d2) = false := by simp [hdd]
                      have HFL : Hid (∀ x, i ≤ x → x < e → (OP.dirs b K)[x]? = some b) := Lib.hid (fun x h1 h2 => by rw [HFP.out x h1 h2, HFD.out, if_neg hdd])
                      clear hdd
                      go_wp2_with fail
                      go_loopw [12] (fun v12 wi => ∃ j : Nat, v12 = .int .i64 (j : Int) ∧ i ≤ j ∧ j ≤ e ∧ wi.ownsRow G 3 1 (.slice (some ⟨G, 0, none⟩) n n) n ((OP.some' b K i j b).map (Value.int .i64)) ∧ KpR (.slice (some ⟨G, 0, none⟩) n n) w3 wi ∧ Below w.heap.size w wi) (fun v _ => e - (intOf v).toNat)
                      case atStart => exact ⟨i, rfl, Nat.le_refl _, by omega, by rw [OP.some_start]; exact HROW.out, HKP.out, HBW.out⟩
                      case round =>
                        obtain ⟨j, rfl, hj1, hj2, hrow, hkp, hbw⟩ := hrel
                        by_cases hje : j < e
                        · have hjei : (j : Int) < (e : Int) := by omega
                          have hjni : (j : Int) < (n : Int) := by omega
                          have hj0 : (0 : Int) ≤ (j : Int) := by omega
                          have hsl := OP.some_len (b := b) (K := K) (d := b) hj1 (by rw [HKN.out]; omega)
                          rw [HKN.out] at hsl
                          obtain ⟨z, hz⟩ : ∃ z, (OP.some' b K i j b)[j]? = some z := ⟨_, List.getElem?_eq_getElem (by rw [hsl]; omega)⟩
                          have c2 := own_at? hrow (by omega) hz
                          have f2 := hrow.frozenAt j
                          obtain ⟨hp1, hg1⟩ := own_put hrow j b
                          rw [OP.some_step hj1 (by rw [HKN.out]; omega)] at hp1
                          have HP := Lib.hid hp1
                          have HK2 := Lib.hid (hkp.row hg1 : KpR (.slice (some ⟨G, 0, none⟩) n n) w3 (wr.setCell ⟨G, j, none⟩ (.int .i64 b)))
                          have HB2 := Lib.hid (bset hbw (p := ⟨G, j, none⟩) (by show w.heap.size ≤ G; exact hwG) (.int .i64 b))
                          clear hp1 hg1
                          clear hrow hkp hbw hz
                          go_wp2
                          go_roundw
                          case rel => exact ⟨j + 1, by go_num, by omega, hje, HP.out, HK2.out, HB2.out⟩
                          case measure => simp [intOf]; omega
                        · obtain rfl : e = j := by omega
                          rw [OP.some_end (by omega) (by rw [HKN.out]; exact hen) HFL.out] at hrow
                          have HR2 := Lib.hid hrow
                          have HK2 := Lib.hid hkp
                          have HB2 := Lib.hid hbw
                          clear hrow hkp hbw
                          go_wp2
                          go_roundw
                          case rel => exact ⟨e, by go_num, hen, HR2.out, HK2.out, HB2.out, Lib.hid fun h0 z h1 h2 => absurd rfl (HNZ.out 0 h1)⟩
                          case measure => simp [intOf]; omega
                  · have h0i : ¬ (0 : Int) < (i : Int) := by omega
                    have HD1b : Hid (d1 = b) := Lib.hid (by rw [← HD1.out]; unfold OP.side; rw [if_pos (Or.inl (by omega))])
                    rw [HD1b.out] at HFD
                    by_cases hdd : b = d2
                    · have hbeq : (b == d2) = true := by simp [hdd]
                      have HFL : Hid (∀ x, i ≤ x → x < e → (OP.dirs b K)[x]? = some b) := Lib.hid (fun x h1 h2 => by rw [HFP.out x h1 h2, HFD.out, if_pos hdd])
                      clear hdd
                      go_wp2_with fail
                      go_loopw [12] (fun v12 wi => ∃ j : Nat, v12 = .int .i64 (j : Int) ∧ i ≤ j ∧ j ≤ e ∧ wi.ownsRow G 3 1 (.slice (some ⟨G, 0, none⟩) n n) n ((OP.some' b K i j b).map (Value.int .i64)) ∧ KpR (.slice (some ⟨G, 0, none⟩) n n) w3 wi ∧ Below w.heap.size w wi) (fun v _ => e - (intOf v).toNat)
                      case atStart => exact ⟨i, rfl, Nat.le_refl _, by omega, by rw [OP.some_start]; exact HROW.out, HKP.out, HBW.out⟩
                      case round =>
                        obtain ⟨j, rfl, hj1, hj2, hrow, hkp, hbw⟩ := hrel
                        by_cases hje : j < e
                        · have hjei : (j : Int) < (e : Int) := by omega
                          have hjni : (j : Int) < (n : Int) := by omega
                          have hj0 : (0 : Int) ≤ (j : Int) := by omega
                          have hsl := OP.some_len (b := b) (K := K) (d := b) hj1 (by rw [HKN.out]; omega)
                          rw [HKN.out] at hsl
                          obtain ⟨z, hz⟩ : ∃ z, (OP.some' b K i j b)[j]? = some z := ⟨_, List.getElem?_eq_getElem (by rw [hsl]; omega)⟩
                          have c2 := own_at? hrow (by omega) hz
                          have f2 := hrow.frozenAt j
                          obtain ⟨hp1, hg1⟩ := own_put hrow j b
                          obtain ⟨hp2, hg2⟩ := own_put hp1 j b
                          rw [List.set_set, OP.some_step hj1 (by rw [HKN.out]; omega)] at hp2
                          have f2' := hp1.frozenAt j
                          have c2' := own_at? (k := j) (x := b) hp1 (by omega) (by rw [List.getElem?_set_self (by rw [hsl]; omega)])
                          have HP := Lib.hid hp2
                          have HK2 := Lib.hid ((hkp.row hg1).row hg2 : KpR (.slice (some ⟨G, 0, none⟩) n n) w3 ((wr.setCell ⟨G, j, none⟩ (.int .i64 b)).setCell ⟨G, j, none⟩ (.int .i64 b)))
                          have HB2 := Lib.hid (bset (bset hbw (p := ⟨G, j, none⟩) (by show w.heap.size ≤ G; exact hwG) (.int .i64 b)) (p := ⟨G, j, none⟩) (by show w.heap.size ≤ G; exact hwG) (.int .i64 b))
                          clear hp1 hg1 hp2 hg2
                          clear hrow hkp hbw hz
                          go_wp2
                          go_roundw
                          case rel => exact ⟨j + 1, by go_num, by omega, hje, HP.out, HK2.out, HB2.out⟩
                          case measure => simp [intOf]; omega
                        · obtain rfl : e = j := by omega
                          rw [OP.some_end (by omega) (by rw [HKN.out]; exact hen) HFL.out] at hrow
                          have HR2 := Lib.hid hrow
                          have HK2 := Lib.hid hkp
                          have HB2 := Lib.hid hbw
                          clear hrow hkp hbw
                          go_wp2
                          go_roundw
                          case rel => exact ⟨e, by go_num, hen, HR2.out, HK2.out, HB2.out, Lib.hid fun h0 z h1 h2 => absurd rfl (HNZ.out 0 h1)⟩
                          case measure => simp [intOf]; omega
                    · have hbeq : (b == d2) = false := by simp [hdd]
                      have HFL : Hid (∀ x, i ≤ x → x < e → (OP.dirs b K)[x]? = some b) := Lib.hid (fun x h1 h2 => by rw [HFP.out x h1 h2, HFD.out, if_neg hdd])
                      clear hdd
                      go_wp2_with fail
                      go_loopw [12] (fun v12 wi => ∃ j : Nat, v12 = .int .i64 (j : Int) ∧ i ≤ j ∧ j ≤ e ∧ wi.ownsRow G 3 1 (.slice (some ⟨G, 0, none⟩) n n) n ((OP.some' b K i j b).map (Value.int .i64)) ∧ KpR (.slice (some ⟨G, 0, none⟩) n n) w3 wi ∧ Below w.heap.size w wi) (fun v _ => e - (intOf v).toNat)
                      case atStart => exact ⟨i, rfl, Nat.le_refl _, by omega, by rw [OP.some_start]; exact HROW.out, HKP.out, HBW.out⟩
                      case round =>
                        obtain ⟨j, rfl, hj1, hj2, hrow, hkp, hbw⟩ := hrel
                        by_cases hje : j < e
                        · have hjei : (j : Int) < (e : Int) := by omega
                          have hjni : (j : Int) < (n : Int) := by omega
                          have hj0 : (0 : Int) ≤ (j : Int) := by omega
                          have hsl := OP.some_len (b := b) (K := K) (d := b) hj1 (by rw [HKN.out]; omega)
                          rw [HKN.out] at hsl
                          obtain ⟨z, hz⟩ : ∃ z, (OP.some' b K i j b)[j]? = some z := ⟨_, List.getElem?_eq_getElem (by rw [hsl]; omega)⟩
                          have c2 := own_at? hrow (by omega) hz
                          have f2 := hrow.frozenAt j
                          obtain ⟨hp1, hg1⟩ := own_put hrow j b
                          rw [OP.some_step hj1 (by rw [HKN.out]; omega)] at hp1
                          have HP := Lib.hid hp1
                          have HK2 := Lib.hid (hkp.row hg1 : KpR (.slice (some ⟨G, 0, none⟩) n n) w3 (wr.setCell ⟨G, j, none⟩ (.int .i64 b)))
                          have HB2 := Lib.hid (bset hbw (p := ⟨G, j, none⟩) (by show w.heap.size ≤ G; exact hwG) (.int .i64 b))
                          clear hp1 hg1
                          clear hrow hkp hbw hz
                          go_wp2
                          go_roundw
                          case rel => exact ⟨j + 1, by go_num, by omega, hje, HP.out, HK2.out, HB2.out⟩
                          case measure => simp [intOf]; omega
                        · obtain rfl : e = j := by omega
                          rw [OP.some_end (by omega) (by rw [HKN.out]; exact hen) HFL.out] at hrow
                          have HR2 := Lib.hid hrow
                          have HK2 := Lib.hid hkp
                          have HB2 := Lib.hid hbw
                          clear hrow hkp hbw
                          go_wp2
                          go_roundw
                          case rel => exact ⟨e, by go_num, hen, HR2.out, HK2.out, HB2.out, Lib.hid fun h0 z h1 h2 => absurd rfl (HNZ.out 0 h1)⟩
                          case measure => simp [intOf]; omega
              · obtain rfl : n = e := by omega
                have hie : i < n := hin
                have HNZ : Hid (∀ z, K[n]? = some z → z ≠ 0) := Lib.hid fun z hz => by rw [List.getElem?_eq_none (by rw [HKN.out]; exact Nat.le_refl _)] at hz; cases hz
                have hpl := OP.part_len b K i (by rw [HKN.out]; omega)
                rw [HKN.out] at hpl
                have HPL := Lib.hid hpl
                have hfp := OP.part_gap (b := b) (K := K) (f := i) (t := n) hb0 hie (by rw [HKN.out]; exact hen) HZ.out (fun h0 y hy => HBD.out h0 y hk0 hy) HNZ.out
                have HFP := Lib.hid hfp
                obtain ⟨d1, hd1⟩ : ∃ d1, OP.side b (OP.part b K i) ((i : Int) - 1) = d1 := ⟨_, rfl⟩
                obtain ⟨d2, hd2⟩ : ∃ d2, OP.side b (OP.part b K i) (n : Int) = d2 := ⟨_, rfl⟩
                have HFD : Hid (OP.fillD b (OP.part b K i) i n = if d1 = d2 then d1 else b) := Lib.hid (by unfold OP.fillD; rw [hd1, hd2])
                have HD1 := Lib.hid hd1
                have HD2 := Lib.hid hd2
                clear hpl hfp hd1 hd2
                have hni : ¬ (n : Int) < (n : Int) := by omega
                have HD2b : Hid (d2 = b) := Lib.hid (by rw [← HD2.out]; unfold OP.side; rw [if_pos (Or.inr (by rw [HPL.out]; omega))])
                by_cases h0 : 0 < i
                · have h0i : (0 : Int) < (i : Int) := by omega
                  have hwr1 : IntKind.i64.wrap ((i : Int) - 1) = (i : Int) - 1 := by rw [IntKind.wrap_i64]; omega
                  obtain ⟨i1, hi1⟩ : ∃ i1 : Nat, (i : Int) - 1 = (i1 : Int) := ⟨i - 1, by omega⟩
                  have hi1n : (i1 : Int) < (n : Int) := by omega
                  have hi10 : (0 : Int) ≤ (i1 : Int) := by omega
                  have cB : wq.cell? ⟨G, i1, none⟩ = some (.int .i64 d1) := own_at? HROW.out (by omega) (by rw [← HD1.out, hi1]; unfold OP.side; rw [if_neg (by rw [HPL.out]; omega), Int.toNat_natCast]; simp [List.getD, List.getElem?_eq_getElem (show i1 < (OP.part b K i).length by rw [HPL.out]; omega)])
                  rw [HD2b.out] at HFD
                  by_cases hdd : d1 = b
                  · have hbeq : (d1 == b) = true := by simp [hdd]
                    have HFL : Hid (∀ x, i ≤ x → x < n → (OP.dirs b K)[x]? = some d1) := Lib.hid (fun x h1 h2 => by rw [HFP.out x h1 h2, HFD.out, if_pos hdd])
                    clear hdd
                    go_wp2_with fail
                    go_loopw [12] (fun v12 wi => ∃ j : Nat, v12 = .int .i64 (j : Int) ∧ i ≤ j ∧ j ≤ n ∧ wi.ownsRow G 3 1 (.slice (some ⟨G, 0, none⟩) n n) n ((OP.some' b K i j d1).map (Value.int .i64)) ∧ KpR (.slice (some ⟨G, 0, none⟩) n n) w3 wi ∧ Below w.heap.size w wi) (fun v _ => n - (intOf v).toNat)
                    case atStart => exact ⟨i, rfl, Nat.le_refl _, by omega, by rw [OP.some_start]; exact HROW.out, HKP.out, HBW.out⟩
                    case round =>
                      obtain ⟨j, rfl, hj1, hj2, hrow, hkp, hbw⟩ := hrel
                      by_cases hje : j < n
                      · have hjei : (j : Int) < (n : Int) := by omega
                        have hjni : (j : Int) < (n : Int) := by omega
                        have hj0 : (0 : Int) ≤ (j : Int) := by omega
                        have hsl := OP.some_len (b := b) (K := K) (d := d1) hj1 (by rw [HKN.out]; omega)
                        rw [HKN.out] at hsl
                        obtain ⟨z, hz⟩ : ∃ z, (OP.some' b K i j d1)[j]? = some z := ⟨_, List.getElem?_eq_getElem (by rw [hsl]; omega)⟩
                        have c2 := own_at? hrow (by omega) hz
                        have f2 := hrow.frozenAt j
                        obtain ⟨hp1, hg1⟩ := own_put hrow j b
                        obtain ⟨hp2, hg2⟩ := own_put hp1 j d1
                        rw [List.set_set, OP.some_step hj1 (by rw [HKN.out]; omega)] at hp2
                        have f2' := hp1.frozenAt j
                        have c2' := own_at? (k := j) (x := b) hp1 (by omega) (by rw [List.getElem?_set_self (by rw [hsl]; omega)])
                        have HP := Lib.hid hp2
                        have HK2 := Lib.hid ((hkp.row hg1).row hg2 : KpR (.slice (some ⟨G, 0, none⟩) n n) w3 ((wr.setCell ⟨G, j, none⟩ (.int .i64 b)).setCell ⟨G, j, none⟩ (.int .i64 d1)))
                        have HB2 := Lib.hid (bset (bset hbw (p := ⟨G, j, none⟩) (by show w.heap.size ≤ G; exact hwG) (.int .i64 b)) (p := ⟨G, j, none⟩) (by show w.heap.size ≤ G; exact hwG) (.int .i64 d1))
                        clear hp1 hg1 hp2 hg2
                        clear hrow hkp hbw hz
                        go_wp2
                        go_roundw
                        case rel => exact ⟨j + 1, by go_num, by omega, hje, HP.out, HK2.out, HB2.out⟩
                        case measure => simp [intOf]; omega
                      · obtain rfl : n = j := by omega
                        rw [OP.some_end (by omega) (by rw [HKN.out]; exact hen) HFL.out] at hrow
                        have HR2 := Lib.hid hrow
                        have HK2 := Lib.hid hkp
                        have HB2 := Lib.hid hbw
                        clear hrow hkp hbw
                        go_wp2
                        go_roundw
                        case rel => exact ⟨n, by go_num, hen, HR2.out, HK2.out, HB2.out, Lib.hid fun h0 z h1 h2 => absurd rfl (HNZ.out 0 h1)⟩
                        case measure => simp [intOf]; omega
                  · have hbeq : (d1 == b) = false := by simp [hdd]
                    have HFL : Hid (∀ x, i ≤ x → x < n → (OP.dirs b K)[x]? = some b) := Lib.hid (fun x h1 h2 => by rw [HFP.out x h1 h2, HFD.out, if_neg hdd])
                    clear hdd
                    go_wp2_with fail
                    go_loopw [12] (fun v12 wi => ∃ j : Nat, v12 = .int .i64 (j : Int) ∧ i ≤ j ∧ j ≤ n ∧ wi.ownsRow G 3 1 (.slice (some ⟨G, 0, none⟩) n n) n ((OP.some' b K i j b).map (Value.int .i64)) ∧ KpR (.slice (some ⟨G, 0, none⟩) n n) w3 wi ∧ Below w.heap.size w wi) (fun v _ => n - (intOf v).toNat)
                    case atStart => exact ⟨i, rfl, Nat.le_refl _, by omega, by rw [OP.some_start]; exact HROW.out, HKP.out, HBW.out⟩
                    case round =>
                      obtain ⟨j, rfl, hj1, hj2, hrow, hkp, hbw⟩ := hrel
                      by_cases hje : j < n
                      · have hjei : (j : Int) < (n : Int) := by omega
                        have hjni : (j : Int) < (n : Int) := by omega
                        have hj0 : (0 : Int) ≤ (j : Int) := by omega
                        have hsl := OP.some_len (b := b) (K := K) (d := b) hj1 (by rw [HKN.out]; omega)
                        rw [HKN.out] at hsl
                        obtain ⟨z, hz⟩ : ∃ z, (OP.some' b K i j b)[j]? = some z := ⟨_, List.getElem?_eq_getElem (by rw [hsl]; omega)⟩
                        have c2 := own_at? hrow (by omega) hz
                        have f2 := hrow.frozenAt j
                        obtain ⟨hp1, hg1⟩ := own_put hrow j b
                        rw [OP.some_step hj1 (by rw [HKN.out]; omega)] at hp1
                        have HP := Lib.hid hp1
                        have HK2 := Lib.hid (hkp.row hg1 : KpR (.slice (some ⟨G, 0, none⟩) n n) w3 (wr.setCell ⟨G, j, none⟩ (.int .i64 b)))
                        have HB2 := Lib.hid (bset hbw (p := ⟨G, j, none⟩) (by show w.heap.size ≤ G; exact hwG) (.int .i64 b))
                        clear hp1 hg1
                        clear hrow hkp hbw hz
                        go_wp2
                        go_roundw
                        case rel => exact ⟨j + 1, by go_num, by omega, hje, HP.out, HK2.out, HB2.out⟩
                        case measure => simp [intOf]; omega
                      · obtain rfl : n = j := by omega
                        rw [OP.some_end (by omega) (by rw [HKN.out]; exact hen) HFL.out] at hrow
                        have HR2 := Lib.hid hrow
                        have HK2 := Lib.hid hkp
                        have HB2 := Lib.hid hbw
                        clear hrow hkp hbw
                        go_wp2
                        go_roundw
                        case rel => exact ⟨n, by go_num, hen, HR2.out, HK2.out, HB2.out, Lib.hid fun h0 z h1 h2 => absurd rfl (HNZ.out 0 h1)⟩
                        case measure => simp [intOf]; omega
                · have h0i : ¬ (0 : Int) < (i : Int) := by omega
                  have HD1b : Hid (d1 = b) := Lib.hid (by rw [← HD1.out]; unfold OP.side; rw [if_pos (Or.inl (by omega))])
                  rw [HD1b.out] at HFD
                  rw [HD2b.out] at HFD
                  have hdd : b = b := rfl
                  have hbeq : (b == b) = true := by simp [hdd]
                  have HFL : Hid (∀ x, i ≤ x → x < n → (OP.dirs b K)[x]? = some b) := Lib.hid (fun x h1 h2 => by rw [HFP.out x h1 h2, HFD.out, if_pos hdd])
                  clear hdd
                  go_wp2_with fail
                  go_loopw [12] (fun v12 wi => ∃ j : Nat, v12 = .int .i64 (j : Int) ∧ i ≤ j ∧ j ≤ n ∧ wi.ownsRow G 3 1 (.slice (some ⟨G, 0, none⟩) n n) n ((OP.some' b K i j b).map (Value.int .i64)) ∧ KpR (.slice (some ⟨G, 0, none⟩) n n) w3 wi ∧ Below w.heap.size w wi) (fun v _ => n - (intOf v).toNat)
                  case atStart => exact ⟨i, rfl, Nat.le_refl _, by omega, by rw [OP.some_start]; exact HROW.out, HKP.out, HBW.out⟩
                  case round =>
                    obtain ⟨j, rfl, hj1, hj2, hrow, hkp, hbw⟩ := hrel
                    by_cases hje : j < n
                    · have hjei : (j : Int) < (n : Int) := by omega
                      have hjni : (j : Int) < (n : Int) := by omega
                      have hj0 : (0 : Int) ≤ (j : Int) := by omega
                      have hsl := OP.some_len (b := b) (K := K) (d := b) hj1 (by rw [HKN.out]; omega)
                      rw [HKN.out] at hsl
                      obtain ⟨z, hz⟩ : ∃ z, (OP.some' b K i j b)[j]? = some z := ⟨_, List.getElem?_eq_getElem (by rw [hsl]; omega)⟩
                      have c2 := own_at? hrow (by omega) hz
                      have f2 := hrow.frozenAt j
                      obtain ⟨hp1, hg1⟩ := own_put hrow j b
                      obtain ⟨hp2, hg2⟩ := own_put hp1 j b
                      rw [List.set_set, OP.some_step hj1 (by rw [HKN.out]; omega)] at hp2
                      have f2' := hp1.frozenAt j
                      have c2' := own_at? (k := j) (x := b) hp1 (by omega) (by rw [List.getElem?_set_self (by rw [hsl]; omega)])
                      have HP := Lib.hid hp2
                      have HK2 := Lib.hid ((hkp.row hg1).row hg2 : KpR (.slice (some ⟨G, 0, none⟩) n n) w3 ((wr.setCell ⟨G, j, none⟩ (.int .i64 b)).setCell ⟨G, j, none⟩ (.int .i64 b)))
                      have HB2 := Lib.hid (bset (bset hbw (p := ⟨G, j, none⟩) (by show w.heap.size ≤ G; exact hwG) (.int .i64 b)) (p := ⟨G, j, none⟩) (by show w.heap.size ≤ G; exact hwG) (.int .i64 b))
                      clear hp1 hg1 hp2 hg2
                      clear hrow hkp hbw hz
                      go_wp2
                      go_roundw
                      case rel => exact ⟨j + 1, by go_num, by omega, hje, HP.out, HK2.out, HB2.out⟩
                      case measure => simp [intOf]; omega
                    · obtain rfl : n = j := by omega
                      rw [OP.some_end (by omega) (by rw [HKN.out]; exact hen) HFL.out] at hrow
                      have HR2 := Lib.hid hrow
                      have HK2 := Lib.hid hkp
                      have HB2 := Lib.hid hbw
                      clear hrow hkp hbw
                      go_wp2
                      go_roundw
                      case rel => exact ⟨n, by go_num, hen, HR2.out, HK2.out, HB2.out, Lib.hid fun h0 z h1 h2 => absurd rfl (HNZ.out 0 h1)⟩
                      case measure => simp [intOf]; omega
          · have hkb : (k != 0) = true := by simp [hkz]
            have hpt : Hid (OP.part b K (i + 1) = OP.part b K i) := Lib.hid (OP.part_one hb0 hk hkz)
            have HB9 : Hid (∀ z, K[i]? = some z → z ≠ 0) := Lib.hid fun z hz => by rw [hk] at hz; cases hz; exact hkz
            clear hk hkz
            go_wp2
            go_roundw
            case rel => exact ⟨i + 1, by go_num, hin, by rw [hpt.out]; exact HROW.out, HKP.out, HBW.out, Lib.hid fun _ z _ h2 => HB9.out z h2⟩
            case measure => simp [intOf]; omega
        · obtain rfl : n = i := by omega
          rw [OP.part_end HKN.out] at hrow
          obtain ⟨D, hD⟩ : ∃ D, OP.dirs b K = D := ⟨_, rfl⟩
          have HDN : Hid (D.length = n) := Lib.hid (by rw [← hD, OP.dirs_len, HKN.out])
          have HRD : Hid (OP.rdirs s b K = OP.ov s b D n) := Lib.hid (by unfold OP.rdirs; rw [hD, HKN.out])
          rw [hD, ← OP.ov_zero s b D] at hrow
          have HROW := Lib.hid hrow
          have HKP := Lib.hid hkp
          have HBW := Lib.hid hbw
          clear hrow hkp hbw HBD hD
          go_wp2_with fail
          go_loopw [13] (fun v13 wr => ∃ i : Nat, v13 = .int .i64 (i : Int) ∧ i ≤ n ∧ wr.ownsRow G 3 1 (.slice (some ⟨G, 0, none⟩) n n) n ((OP.ov s b D i).map (Value.int .i64)) ∧ KpR (.slice (some ⟨G, 0, none⟩) n n) w3 wr ∧ Below w.heap.size w wr) (fun v _ => n - (intOf v).toNat)
          case atStart => exact ⟨0, rfl, Nat.zero_le _, HROW.out, HKP.out, HBW.out⟩
          case round =>
            clear HROW HKP HBW
            obtain ⟨i, rfl, hi2, hrow, hkp, hbw⟩ := hrel
            by_cases hin : i < n
            · have his : i < s.size := by rw [HSN.out]; exact hin
              have hisi : (i : Int) < (s.size : Int) := by omega
              have hii : (i : Int) < (n : Int) := by omega
              have hi0 : (0 : Int) ≤ (i : Int) := by omega
              have hby : (s[i].toNat : Int) ≤ 255 := by have := s[i].toNat_lt; omega
              have hcl : CP.cl s i = FC.cls ((s[i].toNat : Nat) : Int) := by unfold CP.cl; rw [CP.ch_at his]
              obtain ⟨c, hc⟩ : ∃ c, FC.cls ((s[i].toNat : Nat) : Int) = c := ⟨_, rfl⟩
              rw [hc] at hcl
              have HC : Hid (∀ V, Calls Tryd.prog 22 #[.int .i64 ((s[i].toNat : Nat) : Int)] V fun e w' => e = .returned (.int .i64 c) ∧ V = w') := Lib.hid fun V => by have := rclass_any ((s[i].toNat : Nat) : Int) V; rwa [hc] at this
              by_cases hc1 : c = 1
              · have hc1b : (c == 1) = true := by simp [hc1]
                have hov : Hid (OP.ov s b D (i + 1) = (OP.ov s b D i).set i b) := Lib.hid (OP.ov_yes (by rw [HDN.out]; exact hin) (by rw [hcl, hc1]))
                have hol := OP.ov_len s b D i
                rw [HDN.out] at hol
                obtain ⟨z, hz⟩ : ∃ z, (OP.ov s b D i)[i]? = some z := ⟨_, List.getElem?_eq_getElem (by rw [hol]; exact hin)⟩
                have c2 := own_at? hrow hin hz
                have f2 := hrow.frozenAt i
                obtain ⟨hp1, hg1⟩ := own_put hrow i b
                rw [← hov.out] at hp1
                have HP := Lib.hid hp1
                have HK2 := Lib.hid (hkp.row hg1 : KpR (.slice (some ⟨G, 0, none⟩) n n) w3 (wr.setCell ⟨G, i, none⟩ (.int .i64 b)))
                have HB2 := Lib.hid (bset hbw (p := ⟨G, i, none⟩) (by show w.heap.size ≤ G; exact hwG) (.int .i64 b))
                clear hp1 hg1 hrow hkp hbw hz hol hc1 hcl hc
                go_wp2_with fail
                refine (HC.out _).mono ?_
                rintro e w' ⟨rfl, rfl⟩
                go_wp2
                go_roundw
                case rel => exact ⟨i + 1, by go_num, hin, HP.out, HK2.out, HB2.out⟩
                case measure => simp [intOf]; omega
              · have hc1b : (c == 1) = false := by simp [hc1]
                have hov : Hid (OP.ov s b D (i + 1) = OP.ov s b D i) := Lib.hid (OP.ov_no (by rw [hcl]; exact hc1))
                have HROW := Lib.hid hrow
                have HKP := Lib.hid hkp
                have HBW := Lib.hid hbw
                clear hrow hkp hbw hc1 hcl hc
                go_wp2_with fail
                refine (HC.out _).mono ?_
                rintro e w' ⟨rfl, rfl⟩
                go_wp2
                go_roundw
                case rel => exact ⟨i + 1, by go_num, hin, by rw [hov.out]; exact HROW.out, HKP.out, HBW.out⟩
                case measure => simp [intOf]; omega
            · obtain rfl : n = i := by omega
              have hni : ¬ (n : Int) < (s.size : Int) := by rw [HSN.out]; omega
              have HROW := Lib.hid hrow
              have HKP := Lib.hid hkp
              have HBW := Lib.hid hbw
              clear hrow hkp hbw
              go_wp2
              go_ret
              exact ⟨_, rfl, by rw [HRD.out]; exact own_base HROW.out hwG, HBW.out⟩
end Go.Proofs.YtbgmbcngkmlfeaaDoor
