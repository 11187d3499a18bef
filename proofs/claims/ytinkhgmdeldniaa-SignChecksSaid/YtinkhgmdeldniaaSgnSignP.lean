/- Sign of the program. No conditions. -/
import Derived.Test.YtinkhgmdeldniaaSgnProg
namespace Go.Proofs.Ytinkhgmdeldniaa
set_option maxRecDepth 100000
set_option linter.unusedVariables false
open Go.RowKit
theorem ptxs_any (v : Value) (l : List ByteArray) (w : World) (hv : RowAt w v (l.map Value.string)) (hs : ∀ s ∈ l, s.size ≤ 100000) (hl : l.length ≤ 1000) : Calls Try.prog 43 #[v] w fun e w' => e = .returned (.string (SG.txs l)) ∧ Below w.heap.size w w' := by
  obtain ⟨L, hL⟩ : ∃ L : List (List UInt8), l.map (·.data.toList) = L := ⟨_, rfl⟩
  have hrow : W.RowAt w v (L.map W.sv) := by
    rw [← hL, SG.sv_map]
    exact hv
  have hll : L.length ≤ 1000 := by rw [← hL, List.length_map]; exact hl
  have hx : ∀ x, x ∈ L → x.length ≤ 100000 := by
    intro x hx
    rw [← hL] at hx
    obtain ⟨s, h, rfl⟩ := List.mem_map.1 hx
    have h2 := hs s h
    have h3 : s.data.toList.length = s.size := Array.length_toList
    omega
  have hz : SG.txs l = W.WP.S (W.WP.texts L) := by unfold SG.txs; rw [hL]
  rw [hz]
  clear hL hz hs hv
  exact W.wtexts_any v L w hrow (fun x h => by have := hx x h; omega) (by omega)
theorem proof_k {L l : List ByteArray} {h n k : Nat} {a : Option Addr} {c : Nat} {w : World} (hn : L.length = n) (hl : DG.prf L k h = l) (hr : RowAt w (.slice a n c) (L.map Value.string)) (hL : L.length ≤ 1000000) (hs : ∀ s ∈ L, s.size < 2147483648) (hh : DG.IsH L.length h) (hk : k < n) :
    Calls Try.prog 41 #[.slice a n c, .int .i64 (k : Int)] w fun e W' => ∃ pa pc, e = .returned (.slice pa h pc) ∧ RowAt W' (.slice pa h pc) (l.map Value.string) ∧ h ≤ pc ∧ Below w.heap.size w W' := by
  subst hn
  have hp : DG.proof L h (k : Int) = l := by unfold DG.proof; rw [if_pos (by omega), ← hl]; rfl
  have hlen : l.length = h := by rw [← hl, DG.prf_len]
  refine (proof_any L a c h k w hr hL hs hh).mono fun e W' ⟨v, he, hv, hb⟩ => ?_
  rw [hp, hlen] at hv
  obtain ⟨pa, pc, rfl⟩ := own_shape hv
  exact ⟨pa, pc, he, row_own hv (by rw [List.length_map, hlen]), own_cap hv, hb⟩
set_option maxHeartbeats 4000000 in
theorem psign_bad (seed : ByteArray) (n i : Int) (msg : ByteArray) (w : World) (hb : n < 1 ∨ 16 < n ∨ i < 0 ∨ n ≤ i) : Calls Try.prog 15 #[.string seed, .int .i64 n, .int .i64 i, .string msg] w fun e w' => e = .returned (.tuple #[.string (SG.sign seed n i msg).1, .int .i64 (SG.sign seed n i msg).2]) ∧ Below w.heap.size w w' := by
  rw [SG.sign_bad hb]
  by_cases h1 : n < 1
  · go_enter Try.func15, Try.ntmps15
    go_wp2
    go_ret2
    exact ⟨rfl, Below.refl _ _⟩
  · by_cases h2 : 16 < n
    · go_enter Try.func15, Try.ntmps15
      go_wp2
      go_ret2
      exact ⟨rfl, Below.refl _ _⟩
    · by_cases h3 : i < 0
      · go_enter Try.func15, Try.ntmps15
        go_wp2
        go_ret2
        exact ⟨rfl, Below.refl _ _⟩
      · have h4 : n ≤ i := by omega
        go_enter Try.func15, Try.ntmps15
        go_wp2
        go_ret2
        exact ⟨rfl, Below.refl _ _⟩
set_option maxHeartbeats 4000000 in
theorem sign_any (seed : ByteArray) (n i : Int) (msg : ByteArray) (w : World) (hs : seed.size ≤ 1000000) (hm : msg.size ≤ 1000000) : Calls Try.prog 15 #[.string seed, .int .i64 n, .int .i64 i, .string msg] w fun e w' => e = .returned (.tuple #[.string (SG.sign seed n i msg).1, .int .i64 (SG.sign seed n i msg).2]) ∧ Below w.heap.size w w' := by
  by_cases hbad : n < 1 ∨ 16 < n ∨ i < 0 ∨ n ≤ i
  · exact psign_bad seed n i msg w hbad
  obtain ⟨m, rfl⟩ : ∃ m : Nat, n = (m : Int) := ⟨n.toNat, by omega⟩
  obtain ⟨j, rfl⟩ : ∃ j : Nat, i = (j : Int) := ⟨i.toNat, by omega⟩
  have hm16 : m ≤ 16 := by omega
  have hm1 : 1 ≤ m := by omega
  have hjm : j < m := by omega
  rw [SG.sign_good ⟨hm1, hm16⟩ hjm]
  have HD := Lib.hid (fun V => digits_any msg V hm)
  have HC := Lib.hid (fun V => choose_any seed (j : Int) (SG.dig msg) V hs (by omega) (fun c hc => (SG.dig_at (msg := msg) hc).2))
  have HLV := Lib.hid (fun V => leaves_any seed m V hs (by omega))
  have HH := Lib.hid (SG.hOf_is (n := m) (by omega))
  obtain ⟨p, hp⟩ : ∃ p, DG.prf (SG.leaves seed m) j (SG.hOf m) = p := ⟨_, rfl⟩
  obtain ⟨lk, hlk⟩ : ∃ lk, SG.lns seed (j : Int) msg 18 = lk := ⟨_, rfl⟩
  rw [hp, hlk]
  have hps : ∀ s ∈ p, s.size ≤ 100000 := by rw [← hp]; exact SG.nbr_small _ _
  have hpl : p.length = SG.hOf m := by rw [← hp, DG.prf_len]
  have hls : ∀ s ∈ lk, s.size ≤ 100000 := by rw [← hlk]; exact fun s h => by have := SG.lns_small _ _ _ _ s h; omega
  have hll : lk.length = 18 := by rw [← hlk, SG.lns_len]
  rw [← SG.lns_pick, hlk] at HC
  have hh4 : SG.hOf m ≤ 4 := by unfold SG.hOf; (repeat' split) <;> omega
  obtain ⟨h, hh⟩ : ∃ h, SG.hOf m = h := ⟨_, rfl⟩
  rw [hh] at hp hpl hh4 HH
  obtain ⟨a, ha⟩ : ∃ a, W.WP.S (W.WP.int (j : Int)) = a := ⟨_, rfl⟩
  obtain ⟨b, hb⟩ : ∃ b, SG.txs lk = b := ⟨_, rfl⟩
  obtain ⟨d, hd⟩ : ∃ d, SG.txs p = d := ⟨_, rfl⟩
  have sa : a.size ≤ 10 := by rw [← ha]; exact W.WP.int_size _
  have sb : b.size ≤ 200000000 := by rw [← hb]; exact SG.txs_size hls (by omega)
  have sd : d.size ≤ 200000000 := by rw [← hd]; exact SG.txs_size hps (by omega)
  have HZ : Hid (SG.parts (j : Int) lk p = a ++ b ++ d) := Lib.hid (by unfold SG.parts; rw [ha, hb, hd])
  have HI := Lib.hid (fun V => W.int_any (j : Int) V (by omega) (by omega))
  rw [ha] at HI
  have HB1 := Lib.hid hb
  have HD1 := Lib.hid hd
  have HPS := Lib.hid hps
  have HPL := Lib.hid hpl
  have HLS := Lib.hid hls
  have HLL := Lib.hid hll
  have HP := Lib.hid hp
  have HH4 := Lib.hid hh4
  clear hs hm hbad hp hlk hps hpl hls hll hh hh4 ha hb hd
  have hjn : (j : Int) < (m : Int) := by omega
  go_enter Try.func15, Try.ntmps15
  go_wp2_with fail
  refine (HD.out _).mono ?_
  rintro e w1 ⟨rfl, k1⟩
  go_wp2_with fail
  refine (HC.out _).mono ?_
  rintro e w2 ⟨v, rfl, hv, k2⟩
  obtain ⟨la, lc, rfl⟩ := own_shape hv
  have HRL := Lib.hid (row_own hv (by rw [List.length_map, HLL.out]))
  clear hv
  have HK := Lib.hid (bnext k1 k2)
  clear k1 k2
  go_wp2_with fail
  refine (HLV.out _).mono ?_
  rintro e w3 ⟨v3, rfl, hv3, k3⟩
  obtain ⟨va, vc, rfl⟩ := own_shape hv3
  have HPK := Lib.hid (proof_k (w := w3) (k := j) (SG.leaves_len seed m) HP.out (row_own hv3 (by rw [List.length_map, SG.leaves_len])) (by rw [SG.leaves_len]; omega) (SG.leaves_small seed m) (by rw [SG.leaves_len]; exact HH.out) hjm)
  clear hv3
  go_wp2_with fail
  refine HPK.out.mono ?_
  rintro e w4 ⟨pa, pc, rfl, hsp, hpc, k4⟩
  have HSP := Lib.hid hsp
  have HK4 := Lib.hid (bnext k3 k4)
  clear hsp k3 k4
  go_wp2_with fail
  refine (HI.out _).mono ?_
  rintro e w5 ⟨rfl, k5⟩
  have HT1 := Lib.hid (ptxs_any (.slice la 18 lc) lk w5 (HRL.out.keep (bnext HK4.out k5)) HLS.out (by rw [HLL.out]; omega))
  rw [HB1.out] at HT1
  go_wp2_with fail
  refine HT1.out.mono ?_
  rintro e w6 ⟨rfl, k6⟩
  have HT2 := Lib.hid (ptxs_any (.slice pa h pc) p w6 (HSP.out.keep (bnext k5 k6)) HPS.out (by rw [HPL.out]; have := HH4.out; omega))
  rw [HD1.out] at HT2
  go_wp2_with fail
  refine HT2.out.mono ?_
  rintro e w7 ⟨rfl, k7⟩
  go_wp2
  go_ret2
  exact ⟨by rw [HZ.out]; rfl, bnext (bnext (bnext (bnext HK.out HK4.out) k5) k6) k7⟩
end Go.Proofs.Ytinkhgmdeldniaa
