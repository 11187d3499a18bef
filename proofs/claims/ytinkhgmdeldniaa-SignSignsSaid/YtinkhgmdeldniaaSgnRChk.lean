/- Check as a function, and that of the reference. No conditions. -/
import Derived.Test.YtinkhgmdeldniaaSgnSignP
import Derived.Test.YtinkhgmdeldniaaLater
namespace Go.Proofs.Ytinkhgmdeldniaa.SG
set_option maxRecDepth 100000
open Go.RowKit
theorem int_bd (r : W.WP.RS) : -9223372036854775808 ≤ r.int.1 ∧ r.int.1 ≤ 9223372036854775807 := by
  unfold W.WP.RS.int
  split
  · simp
  · split
    · simp
    · rename_i c k h
      exact W.WP.uz_bd (W.WP.rd_some _ _ _ _ _ (by decide) h).1
theorem text_s (r : W.WP.RS) : r.text.2.s = r.s := by
  have := W.WP.count_s r
  unfold W.WP.RS.text
  split
  · exact this
  · exact this
theorem text_short (r : W.WP.RS) : r.text.1.length ≤ r.s.length := by
  have := W.WP.count_s r
  unfold W.WP.RS.text
  split
  · simp
  · simp only [List.length_take, List.length_drop, this]
    omega
theorem elems_short : ∀ (f : Nat) (l : List (List UInt8)) (r : W.WP.RS), (∀ x ∈ l, x.length ≤ r.s.length) → (∀ x ∈ (W.WP.elems W.WP.RS.text f l r).1, x.length ≤ r.s.length) ∧ (W.WP.elems W.WP.RS.text f l r).2.s = r.s
  | 0, l, r, h => ⟨h, rfl⟩
  | f + 1, l, r, h => by
    rw [W.WP.elems]
    split
    · exact ⟨h, rfl⟩
    · have h1 := text_s r
      have h2 := text_short r
      have := elems_short f (l ++ [r.text.1]) r.text.2 (fun x hx => by
        rw [h1]
        rcases List.mem_append.1 hx with hx | hx
        · exact h x hx
        · obtain rfl := List.mem_singleton.1 hx
          exact h2)
      rw [h1] at this
      exact this
theorem texts_short (r : W.WP.RS) : (∀ x ∈ r.texts.1, x.length ≤ r.s.length) ∧ r.texts.2.s = r.s := by
  have hc := W.WP.count_s r
  have := elems_short r.count.1.toNat [] r.count.2 (fun x hx => by cases hx)
  rw [hc] at this
  unfold W.WP.RS.texts W.WP.RS.elements
  split
  · exact ⟨fun x hx => (by cases hx), this.2⟩
  · exact this
/-- What a signature is read as: the number, the links, the proof, and the reader behind them. -/
def rd0 (sig : ByteArray) : W.WP.RS := ⟨sig.data.toList, 0, false⟩
def num (sig : ByteArray) : Int := (rd0 sig).int.1
def lks (sig : ByteArray) : List ByteArray := (rd0 sig).int.2.texts.1.map W.WP.S
def prs (sig : ByteArray) : List ByteArray := (rd0 sig).int.2.texts.2.texts.1.map W.WP.S
def rdE (sig : ByteArray) : W.WP.RS := (rd0 sig).int.2.texts.2.texts.2
theorem lks_small {sig : ByteArray} (h : sig.size ≤ 1000000) : ∀ s ∈ lks sig, s.size ≤ 1000000 := by
  intro s hs
  unfold lks at hs
  obtain ⟨x, hx, rfl⟩ := List.mem_map.1 hs
  have := (texts_short _).1 x hx
  rw [W.WP.int_s] at this
  have h2 : (rd0 sig).s.length = sig.size := Array.length_toList
  rw [W.WP.S_size]
  omega
theorem prs_small {sig : ByteArray} (h : sig.size ≤ 1000000) : ∀ s ∈ prs sig, s.size ≤ 1000000 := by
  intro s hs
  unfold prs at hs
  obtain ⟨x, hx, rfl⟩ := List.mem_map.1 hs
  have := (texts_short _).1 x hx
  rw [(texts_short _).2, W.WP.int_s] at this
  have h2 : (rd0 sig).s.length = sig.size := Array.length_toList
  rw [W.WP.S_size]
  omega
/-- The last links that the first k of these lead to. -/
def fin (msg : ByteArray) (l : List ByteArray) : Nat → ByteArray
  | 0 => ⟨#[]⟩
  | k + 1 => fin msg l k ++ lk (l.getD k ⟨#[]⟩) (15 - dig msg k)
theorem fin_size (msg : ByteArray) (l : List ByteArray) : ∀ k, (∀ i, i < k → (l.getD i ⟨#[]⟩).size = 8) → (fin msg l k).size = 8 * k
  | 0, _ => rfl
  | k + 1, h => by rw [fin, ByteArray.size_append, fin_size msg l k (fun i hi => h i (by omega)), lk_small (h k (by omega))]; omega
/-- Check. -/
def check (pub msg sig : ByteArray) : Bool := !(rdE sig).bad && (rdE sig).left == 0 && are (lks sig) && DG.verify pub (DG.Of (fin msg (lks sig) 18)) (num sig) (prs sig)
theorem check_bad {pub msg sig : ByteArray} (h : (rdE sig).bad = true) : check pub msg sig = false := by unfold check; rw [h]; rfl
theorem check_left {pub msg sig : ByteArray} (h : ¬ (rdE sig).left = 0) : check pub msg sig = false := by
  unfold check
  have : ((rdE sig).left == 0) = false := by simpa using h
  rw [this]
  simp
theorem check_are {pub msg sig : ByteArray} (h : are (lks sig) = false) : check pub msg sig = false := by
  unfold check
  rw [h]
  simp
theorem check_all {pub msg sig : ByteArray} (h1 : (rdE sig).bad = false) (h2 : (rdE sig).left = 0) (h3 : are (lks sig) = true) : check pub msg sig = DG.verify pub (DG.Of (fin msg (lks sig) 18)) (num sig) (prs sig) := by
  unfold check
  rw [h1, h2, h3]
  rfl
end Go.Proofs.Ytinkhgmdeldniaa.SG
namespace Go.Proofs.Ytinkhgmdeldniaa
set_option maxRecDepth 100000
set_option linter.unusedVariables false
open Go.RowKit Go.Deep
set_option maxHeartbeats 4000000 in
theorem rcheck_any (pub msg sig : ByteArray) (w : World) (hp : pub.size ≤ 1000000) (hm : msg.size ≤ 1000000) (hs : sig.size ≤ 1000000) :
    Calls Try.prog 33 #[.string pub, .string msg, .string sig] w fun e w' => e = .returned (.bool (SG.check pub msg sig)) ∧ Below w.heap.size w w' := by
  obtain ⟨sl, hsl⟩ : ∃ sl, sig.data.toList = sl := ⟨_, rfl⟩
  have hss : sig = W.WP.S sl := by rw [← hsl, W.WP.S_of]
  have hsn : sl.length ≤ 1000000 := by rw [← hsl, Array.length_toList]; exact hs
  have h0 : SG.rd0 sig = ⟨sl, 0, false⟩ := by unfold SG.rd0; rw [hsl]
  have HN := Lib.hid (fun V => W.qnew_any sl V (by omega))
  rw [← hss] at HN
  have hi1 : SG.num sig = (SG.rd0 sig).int.1 := rfl
  have hl1 : SG.lks sig = (SG.rd0 sig).int.2.texts.1.map W.WP.S := rfl
  have hp1 : SG.prs sig = (SG.rd0 sig).int.2.texts.2.texts.1.map W.WP.S := rfl
  have he1 : SG.rdE sig = (SG.rd0 sig).int.2.texts.2.texts.2 := rfl
  have hz1 := W.WP.int_s (SG.rd0 sig)
  have hz2 := (SG.texts_short (SG.rd0 sig).int.2).2
  have hib := SG.int_bd (SG.rd0 sig)
  obtain ⟨r0, hr0⟩ : ∃ r0, SG.rd0 sig = r0 := ⟨_, rfl⟩
  have hs0 : r0.s.length ≤ 1000000 := by rw [← hr0, h0]; exact hsn
  rw [← h0, hr0] at HN
  rw [hr0] at hi1 hl1 hp1 he1 hz1 hz2 hib
  have HI := Lib.hid (fun b V h => W.qread_any b r0 V h)
  obtain ⟨R1, hR1⟩ : ∃ R1, r0.int = R1 := ⟨_, rfl⟩
  obtain ⟨i, r1⟩ := R1
  rw [hR1] at hi1 hl1 hp1 he1 hz1 hz2 HI hib
  simp only at hi1 hl1 hp1 he1 hz1 hz2 HI hib
  have HT1 := Lib.hid (fun b V h => W.qtexts_any b r1 V h (by rw [hz1]; omega))
  obtain ⟨R2, hR2⟩ : ∃ R2, r1.texts = R2 := ⟨_, rfl⟩
  obtain ⟨L, r2⟩ := R2
  rw [hR2] at hl1 hp1 he1 hz2 HT1
  simp only at hl1 hp1 he1 hz2 HT1
  have HT2 := Lib.hid (fun b V h => W.qtexts_any b r2 V h (by rw [hz2, hz1]; omega))
  obtain ⟨R3, hR3⟩ : ∃ R3, r2.texts = R3 := ⟨_, rfl⟩
  obtain ⟨Pl, r3⟩ := R3
  rw [hR3] at hp1 he1 HT2
  simp only at hp1 he1 HT2
  have hLL : (SG.lks sig).length = L.length := by rw [hl1, List.length_map]
  have hPL : (SG.prs sig).length = Pl.length := by rw [hp1, List.length_map]
  have hLV : L.map (fun s => Value.string (W.WP.S s)) = (SG.lks sig).map Value.string := by rw [hl1, List.map_map]; rfl
  have hPV : Pl.map (fun s => Value.string (W.WP.S s)) = (SG.prs sig).map Value.string := by rw [hp1, List.map_map]; rfl
  rw [hLV] at HT1
  rw [hPV] at HT2
  have HLS := Lib.hid (SG.lks_small hs)
  have HPS := Lib.hid (SG.prs_small hs)
  obtain ⟨n, hn⟩ : ∃ n, L.length = n := ⟨_, rfl⟩
  obtain ⟨m, hm2⟩ : ∃ m, Pl.length = m := ⟨_, rfl⟩
  rw [hn] at hLL HT1
  rw [hm2] at hPL HT2
  have HE := Lib.hid he1
  have HNU := Lib.hid hi1
  have HLL := Lib.hid hLL
  have HPL := Lib.hid hPL
  have HD := Lib.hid (fun V => rdigits_any msg V hm)
  have HIB := Lib.hid hib
  clear hsl hss hsn h0 hi1 hl1 hp1 he1 hz1 hz2 hr0 hs0 hR1 hR2 hR3 hLL hPL hLV hPV hn hm2 hm hs hib
  go_enter Try.func33, Try.ntmps33
  go_wp2_with fail
  refine (HN.out _).mono ?_
  rintro e w1 ⟨rfl, q1, k1⟩
  obtain ⟨B, hB⟩ : ∃ B, w.heap.size = B := ⟨_, rfl⟩
  have HB := Lib.hid hB
  rw [hB] at q1 k1 ⊢
  have q1 := Lib.hid q1
  go_wp2_with fail
  refine (HI.out B w1 q1.out).mono ?_
  rintro e w2 ⟨rfl, q2, k2⟩
  have q2 := Lib.hid q2
  have hk2 := Lib.hid (k1.trans (W.Kept.below k2 (Nat.le_refl _) (by have := k1.size; omega)))
  clear k1 k2
  go_wp2_with fail
  refine (HT1.out B w2 q2.out).mono ?_
  rintro e w3 ⟨v3, rfl, hv3, q3, k3⟩
  obtain ⟨la, lc, rfl⟩ := own_shape hv3
  have HV3 := Lib.hid hv3
  have q3 := Lib.hid q3
  have hk3 := Lib.hid (hk2.out.trans (W.Kept.below k3 (Nat.le_refl _) (by have := hk2.out.size; omega)))
  have hB2 : B < w2.heap.size := q2.out.lt
  clear hv3 k3
  go_wp2_with fail
  refine (HT2.out B w3 q3.out).mono ?_
  rintro e w4 ⟨v4, rfl, hv4, q4, k4⟩
  obtain ⟨pa, pc, rfl⟩ := own_shape hv4
  have q4 := Lib.hid q4
  have HV4 := Lib.hid (row_own (W.own_kept HV3.out hB2 k4) (by rw [List.length_map, HLL.out]))
  have HP4 := Lib.hid (row_own hv4 (by rw [List.length_map, HPL.out]))
  have hk4 := Lib.hid (hk3.out.trans (W.Kept.below k4 (Nat.le_refl _) (by have := hk3.out.size; omega)))
  clear hv4 k4 HV3
  go_wp2_with fail
  refine (W.qbad_any B r3 w4 q4.out).mono ?_
  rintro e w5 ⟨rfl, rfl⟩
  by_cases hbad : r3.bad = true
  · have HX := Lib.hid (SG.check_bad (pub := pub) (msg := msg) (by rw [HE.out]; exact hbad))
    rw [hbad]
    go_wp2
    go_ret
    exact ⟨by rw [HX.out]; rfl, by rw [HB.out]; exact hk4.out⟩
  · have hbad2 : r3.bad = false := by simpa using hbad
    have HBAD := Lib.hid hbad2
    rw [hbad2]
    clear hbad
    go_wp2_with fail
    refine (W.qleft_any B r3 w5 q4.out).mono ?_
    rintro e w6 ⟨rfl, k6⟩
    have hk6 := Lib.hid (hk4.out.trans (k6.mono (by have := hk4.out.size; have := HB.out; omega)))
    replace HV4 := Lib.hid (HV4.out.keep k6)
    replace HP4 := Lib.hid (HP4.out.keep k6)
    clear k6
    obtain ⟨lf, hlf⟩ : ∃ lf, r3.left = lf := ⟨_, rfl⟩
    have HLF := Lib.hid hlf
    rw [hlf]
    clear hlf
    by_cases hl0 : 0 < lf
    · have HX := Lib.hid (SG.check_left (pub := pub) (msg := msg) (by rw [HE.out, HLF.out]; omega))
      have hli : (0 : Int) < (lf : Int) := by omega
      go_wp2
      go_ret
      exact ⟨by rw [HX.out]; rfl, by rw [HB.out]; exact hk6.out⟩
    · have hli : ¬ (0 : Int) < (lf : Int) := by omega
      by_cases h18 : n = 18
      · subst h18
        have hl0' : lf = 0 := by omega
        have HL0 := Lib.hid hl0'
        have HQ : Hid (SG.are (SG.lks sig) = true → SG.check pub msg sig = DG.verify pub (DG.Of (SG.fin msg (SG.lks sig) 18)) (SG.num sig) (SG.prs sig)) := Lib.hid fun h => SG.check_all (by rw [HE.out]; exact HBAD.out) (by rw [HE.out, HLF.out]; exact HL0.out) h
        clear hl0' hl0
        go_wp2_with fail
        refine (HD.out _).mono ?_
        rintro e w7 ⟨vd, rfl, hvd, k7⟩
        obtain ⟨da, dc, rfl⟩ := own_shape hvd
        have hrd := row_own hvd (by rw [List.length_map, SG.digits_len])
        obtain ⟨g, o, rfl, hg, hc0⟩ := hrd.cell (k := 0) (by rw [List.length_map, SG.digits_len]; omega)
        clear hc0
        have HCE : Hid (∀ V, Below w7.heap.size w7 V → ∀ c, c < 18 → V.cell? ⟨g, o + c, none⟩ = some (.int .i64 (SG.dig msg c : Int))) := Lib.hid fun V hV c hc => by
          have hk' : c < ((SG.digits msg).map (Value.int .i64)).length := by rw [List.length_map, SG.digits_len]; exact hc
          obtain ⟨g1, o1, e1, _, d1⟩ := (hrd.keep hV).cell hk'
          injection e1 with e1
          injection e1 with e1 e2
          subst e1 e2
          rw [d1]
          obtain ⟨_, hx⟩ := List.getElem?_eq_some_iff.1 (SG.dig_at (msg := msg) hc).1
          rw [List.getElem_map, hx]
        have hv7 := HV4.out.keep k7
        obtain ⟨g2, o2, rfl, hg2, hc2⟩ := hv7.cell (k := 0) (by rw [List.length_map, HLL.out]; omega)
        clear hc2
        have HLE : Hid (∀ V, Below w7.heap.size w7 V → ∀ c, c < 18 → V.cell? ⟨g2, o2 + c, none⟩ = some (.string ((SG.lks sig).getD c ⟨#[]⟩))) := Lib.hid fun V hV c hc => by
          have hk' : c < ((SG.lks sig).map Value.string).length := by rw [List.length_map, HLL.out]; exact hc
          obtain ⟨g1, o1, e1, _, d1⟩ := (hv7.keep hV).cell hk'
          injection e1 with e1
          injection e1 with e1 e2
          subst e1 e2
          rw [d1, List.getElem_map, List.getD_eq_getElem?_getD, List.getElem?_eq_getElem (by rw [HLL.out]; exact hc)]
          rfl
        have hk7 := Lib.hid (hk6.out.trans (k7.mono (by have := hk6.out.size; have := HB.out; omega)))
        have HP7 := Lib.hid (HP4.out.keep k7)
        have hB7 : B ≤ w7.heap.size := by have := hk7.out.size; have := HB.out; omega
        clear hvd hrd hg hv7 hg2 k7 HV4 HP4
        go_wp2
        go_loopw [12, 13] (fun v12 v13 wr => ∃ c : Nat, v12 = .string (SG.fin msg (SG.lks sig) c) ∧ v13 = .int .i64 (c : Int) ∧ c ≤ 18 ∧ (∀ i, i < c → ((SG.lks sig).getD i ⟨#[]⟩).size = 8) ∧ Below w7.heap.size w7 wr) (fun _ v _ => 18 - (intOf v).toNat)
        case atStart => exact ⟨0, rfl, rfl, Nat.zero_le _, fun i hi => absurd hi (Nat.not_lt_zero _), Below.refl _ _⟩
        case round =>
          obtain ⟨c, rfl, rfl, hc, hall, hb⟩ := hrel
          have hfs := SG.fin_size msg _ c hall
          have HALL := Lib.hid hall
          have HBW := Lib.hid hb
          by_cases hc18 : c < 18
          · have hci : (c : Int) < 18 := by omega
            have hc0 : (0 : Int) ≤ (c : Int) := by omega
            have hd1 := HCE.out wr hb c hc18
            have hl1 := HLE.out wr hb c hc18
            obtain ⟨x, hx⟩ : ∃ x, (SG.lks sig).getD c ⟨#[]⟩ = x := ⟨_, rfl⟩
            rw [hx] at hl1
            obtain ⟨dd, hdd⟩ : ∃ dd, SG.dig msg c = dd := ⟨_, rfl⟩
            rw [hdd] at hd1
            have hdd15 : dd ≤ 15 := by rw [← hdd]; exact (SG.dig_at hc18).2
            obtain ⟨y, hy⟩ : ∃ y, SG.fin msg (SG.lks sig) c = y := ⟨_, rfl⟩
            rw [hy] at hfs
            have hxs : x.size ≤ 1000000 := by
              rw [← hx, List.getD_eq_getElem?_getD]
              cases he : (SG.lks sig)[c]? with
              | none => simp [ByteArray.size]
              | some s => exact HLS.out s (List.mem_of_getElem? he)
            have HNX : Hid (SG.fin msg (SG.lks sig) (c + 1) = y ++ SG.lk x (15 - dd)) := Lib.hid (by rw [SG.fin, hx, hdd, hy])
            have HX := Lib.hid hx
            rw [hy]
            by_cases h8 : x.size = 8
            · obtain ⟨t, ht⟩ : ∃ t, t = 15 - dd := ⟨_, rfl⟩
              have et : (15 : Int) - (dd : Int) = (t : Int) := by omega
              have hlz := SG.lk_small h8 t
              obtain ⟨z, hz⟩ : ∃ z, SG.lk x t = z := ⟨_, rfl⟩
              rw [hz] at hlz
              rw [← ht, hz] at HNX
              have HLK : Hid (∀ V, Calls Try.prog 26 #[.string x, .int .i64 (t : Int)] V fun e w' => e = .returned (.string z) ∧ Below V.heap.size V w') := Lib.hid fun V => by rw [← hz]; exact rlinks_any x t V hxs (by omega)
              have hne : ((x.size : Int) != 8) = false := by simp; omega
              have HA2 : Hid (∀ i, i < c + 1 → ((SG.lks sig).getD i ⟨#[]⟩).size = 8) := Lib.hid fun i hi => by
                by_cases hic : i = c
                · subst hic; rw [HX.out]; exact h8
                · exact HALL.out i (by omega)
              clear hx hdd hy ht hz hall hb h8
              have ld := Later.cell hd1
              have ll := Later.cell hl1
              go_wp2_with fail
              refine wp_region_later (by kernel_rfl) (by kernel_rfl) ?_
              repeat (go_big_quiet_step ((go_at_call 26; exact calls_later _ (HLK.out _))))
              refine wpQuiet_nil ?_
              intro w8 hw'
              obtain ⟨s5, hs5⟩ := hw'
              have k8 : Below wr.heap.size wr w8 := by rw [hs5]; exact s5.le
              have HB8 := Lib.hid (bnext HBW.out k8)
              clear hs5 s5 ld ll hd1 hl1 k8
              go_wp2
              go_roundw
              case rel => exact ⟨c + 1, by rw [HNX.out], by go_num, hc18, HA2.out, HB8.out⟩
              case measure => simp [intOf]; omega
            · have hne : ((x.size : Int) != 8) = true := by simp; omega
              have HXX := Lib.hid (SG.check_are (pub := pub) (msg := msg) (sig := sig) (SG.are_bad (k := c) (by rw [HLL.out]; exact hc18) (by
                have := HX.out
                rw [List.getD_eq_getElem?_getD, List.getElem?_eq_getElem (by rw [HLL.out]; exact hc18)] at this
                rw [show (SG.lks sig)[c]'_ = x from this]
                exact h8)))
              clear hx hdd hy hall hb
              go_wp2
              go_ret
              exact ⟨by rw [HXX.out]; rfl, by rw [HB.out]; exact hk7.out.trans (HBW.out.mono hB7)⟩
          · have hci : ¬ (c : Int) < 18 := by omega
            obtain rfl : c = 18 := by omega
            have hare : SG.are (SG.lks sig) = true := by
              rw [SG.are_all (fun k hk => ?_), HLL.out]
              · rfl
              · have := HALL.out k (by rw [HLL.out] at hk; exact hk)
                rw [List.getD_eq_getElem?_getD, List.getElem?_eq_getElem hk] at this
                exact this
            have HXX := Lib.hid (HQ.out hare)
            obtain ⟨y, hy⟩ : ∃ y, SG.fin msg (SG.lks sig) 18 = y := ⟨_, rfl⟩
            rw [hy] at hfs HXX ⊢
            have HO := Lib.hid (fun V => rOf_any y V (by unfold maxLen; omega))
            obtain ⟨z, hz⟩ : ∃ z, DG.Of y = z := ⟨_, rfl⟩
            have hz8 : z.size = 8 := by rw [← hz]; rfl
            rw [hz] at HO HXX
            clear hare hy hz hall hb
            go_wp2_with fail
            refine (HO.out _).mono ?_
            rintro e w8 ⟨rfl, k8⟩
            have HB8 := Lib.hid (bnext HBW.out k8)
            clear k8
            have hvf := rverify_any pub z (SG.num sig) pa pc (SG.prs sig) w8 (by rw [HNU.out]; exact HIB.out) (by omega) (by rw [HPL.out]; exact HP7.out.keep HB8.out) (fun s h => by have := HPS.out s h; omega)
            rw [HPL.out, HNU.out] at hvf
            rw [HNU.out] at HXX
            have HVF := Lib.hid hvf
            clear hvf
            go_wp2_with fail
            refine HVF.out.mono ?_
            rintro e w9 ⟨rfl, k9⟩
            go_wp2
            go_ret
            exact ⟨by rw [HXX.out]; rfl, by rw [HB.out]; exact hk7.out.trans ((bnext HB8.out k9).mono hB7)⟩
      · have hne : ((n : Int) != 18) = true := by simp; omega
        have HX := Lib.hid (SG.check_are (pub := pub) (msg := msg) (sig := sig) (by unfold SG.are; rw [HLL.out]; simp [h18]))
        go_wp2
        go_ret
        exact ⟨by rw [HX.out]; rfl, by rw [HB.out]; exact hk6.out⟩
end Go.Proofs.Ytinkhgmdeldniaa
