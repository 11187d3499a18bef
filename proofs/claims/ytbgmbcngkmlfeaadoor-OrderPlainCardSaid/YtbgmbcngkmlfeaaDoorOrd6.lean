/- The reference's base, direction and kinds. No conditions. -/
import Derived.Test.YtbgmbcngkmlfeaaDoorOrd5
namespace Go.Proofs.YtbgmbcngkmlfeaaDoor
set_option maxRecDepth 100000
set_option linter.unusedVariables false
open Go.RowKit Go.Shelf Go.Deep
set_option maxHeartbeats 1000000 in
theorem rstrong7_any (s : ByteArray) (i : Nat) (w : World) (hi : i < s.size) :
    Calls Tryd.prog 43 #[.string s, .int .i64 (i : Int)] w fun e w' => e = .returned (.int .i64 (FC.stg (CP.ch s i))) ∧ Below w.heap.size w w' := by
  have hii : (i : Int) < (s.size : Int) := by omega
  have hby : (s[i].toNat : Int) ≤ 255 := by have := s[i].toNat_lt; omega
  have HX := Lib.hid (rstrong_any ((s[i].toNat : Nat) : Int) w)
  have HE : Hid (CP.ch s i = ((s[i].toNat : Nat) : Int)) := Lib.hid (CP.ch_at hi)
  obtain ⟨v, hv⟩ : ∃ v, FC.stg ((s[i].toNat : Nat) : Int) = v := ⟨_, rfl⟩
  have HV := Lib.hid hv
  rw [hv] at HX
  clear hv
  go_enter Tryd.func43, Tryd.ntmps43
  go_wp2_with fail
  refine HX.out.mono ?_
  rintro e w2 ⟨rfl, hb2⟩
  go_wp2_with fail
  go_ret
  exact ⟨ret1 (by rw [HE.out, HV.out]), hb2⟩
set_option maxHeartbeats 4000000 in
theorem rbase7_any (s : ByteArray) (w : World) (hs : s.size ≤ 1000000000) :
    Calls Tryd.prog 29 #[.string s] w fun e w' => e = .returned (.int .i64 (OP.bse s)) ∧ Below w.heap.size w w' := by
  go_enter Tryd.func29, Tryd.ntmps29
  go_wp2_with fail
  go_loopw [3] (fun v wr => ∃ i : Nat, v = .int .i64 (i : Int) ∧ i ≤ s.size ∧ Hid (OP.fb ((OP.sts s).drop i) = OP.bse s) ∧ Below w.heap.size w wr) (fun v _ => s.size - (intOf v).toNat)
  case atStart => exact ⟨0, rfl, Nat.zero_le _, Lib.hid rfl, Below.refl _ _⟩
  case round =>
    obtain ⟨i, rfl, hi, HF, hb⟩ := hrel
    by_cases hil : i < s.size
    · have hii : (i : Int) < (s.size : Int) := by omega
      have HX := Lib.hid fun V => rstrong7_any s i V hil
      have hf := HF.out
      rw [OP.sts_drop hil, OP.fb] at hf
      obtain ⟨v, hv⟩ : ∃ v, FC.stg (CP.ch s i) = v := ⟨_, rfl⟩
      rw [hv] at HX hf
      have HF2 := Lib.hid hf
      clear hf hv HF
      by_cases h1 : v = 1
      · subst h1
        go_wp2_with fail
        refine (HX.out _).mono ?_
        rintro e w2 ⟨rfl, hb2⟩
        go_wp2_with fail
        refine (HX.out _).mono ?_
        rintro e w3 ⟨rfl, hb3⟩
        go_wp2_with fail
        go_ret
        exact ⟨ret1 (by have h := HF2.out; simp at h; exact h), bnext (bnext hb hb2) hb3⟩
      · by_cases h2 : v = 2
        · subst h2
          go_wp2_with fail
          refine (HX.out _).mono ?_
          rintro e w2 ⟨rfl, hb2⟩
          go_wp2_with fail
          refine (HX.out _).mono ?_
          rintro e w3 ⟨rfl, hb3⟩
          go_wp2_with fail
          refine (HX.out _).mono ?_
          rintro e w4 ⟨rfl, hb4⟩
          go_wp2_with fail
          go_ret
          exact ⟨ret1 (by have h := HF2.out; simp at h; exact h), bnext (bnext (bnext hb hb2) hb3) hb4⟩
        · have h1b : (v == 1) = false := by simp [h1]
          have h2b : (v == 2) = false := by simp [h2]
          have HN := Lib.hid (by have h := HF2.out; rw [if_neg (by omega)] at h; exact h)
          clear h1 h2 HF2
          go_wp2_with fail
          refine (HX.out _).mono ?_
          rintro e w2 ⟨rfl, hb2⟩
          go_wp2_with fail
          refine (HX.out _).mono ?_
          rintro e w3 ⟨rfl, hb3⟩
          go_wp2_with fail
          go_roundw
          case rel => exact ⟨i + 1, by go_num, hil, HN, bnext (bnext hb hb2) hb3⟩
          case measure => simp [intOf]; omega
    · obtain rfl : i = s.size := by omega
      have HN : Hid (OP.bse s = 1) := Lib.hid (by rw [← HF.out, OP.sts_end]; rfl)
      clear HF
      go_wp2
      go_ret
      exact ⟨by rw [HN.out]; rfl, hb⟩
set_option maxHeartbeats 1000000 in
theorem rright7_any (s : ByteArray) (w : World) (hs : s.size ≤ 1000000000) :
    Calls Tryd.prog 12 #[.string s] w fun e w' => e = .returned (.bool (oright s)) ∧ Below w.heap.size w w' := by
  have HX := Lib.hid (rbase7_any s w hs)
  have HR : Hid ((OP.bse s == 2) = oright s) := Lib.hid (by unfold oright; by_cases h : OP.bse s = 2 <;> simp [h])
  go_enter Tryd.func12, Tryd.ntmps12
  go_wp2_with fail
  refine HX.out.mono ?_
  rintro e w2 ⟨rfl, hb2⟩
  go_wp2
  go_ret
  exact ⟨retb HR.out, hb2⟩
set_option maxHeartbeats 4000000 in
theorem rkinds_any (s : ByteArray) (w : World) (hs : s.size ≤ 1000000000) :
    Calls Tryd.prog 34 #[.string s] w fun e W' => ∃ v, e = .returned v ∧ W'.ownsRow w.heap.size 3 1 v s.size ((OP.kinds s).map (Value.int .i64)) ∧ Below w.heap.size w W' := by
  obtain ⟨i0, hi0, hz0, hz1, hz2⟩ := info_parts info_int
  have HKL := Lib.hid (OP.kinds_len s)
  go_enter Tryd.func34, Tryd.ntmps34
  go_wp2_with fail
  refine (rsplit_any s w hs).mono ?_
  rintro e w2 ⟨vs, rfl, os, hb2⟩
  obtain ⟨ao, ac, rfl, hr⟩ := own_srcP os
  have hgw : ∀ g2, (Value.slice ao (CP.split s).length ac).ownBlock = some g2 → w.heap.size ≤ g2 := fun g2 e => (os.lt g2 e).1
  have HR := Lib.hid hr
  have HGW := Lib.hid hgw
  have HB2 := Lib.hid hb2
  obtain ⟨n, hn⟩ : ∃ n, (CP.split s).length = n := ⟨_, rfl⟩
  have HN := Lib.hid hn
  have hlen := CP.split_length s
  rw [hn] at hlen ⊢
  rw [hn] at HGW
  have hws := hb2.size
  clear os hb2 hr hgw hn
  go_wp2_with fail
  go_loopw [3, 5] (fun v3 v13 wr => ∃ k : Nat, v13 = .int .i64 (k : Int) ∧ k ≤ n ∧ wr.ownsRow w.heap.size 3 1 v3 (OP.knd s ((CP.split s).take k)).length ((OP.knd s ((CP.split s).take k)).map (Value.int .i64)) ∧ (∀ g2, ao = some ⟨g2, 0, none⟩ → v3.ownBlock ≠ some g2 ∧ wr.heap[g2]? = w2.heap[g2]?) ∧ w2.heap.size ≤ wr.heap.size ∧ Below w.heap.size w wr) (fun _ v _ => n - (intOf v).toNat)
  case atStart =>
    refine ⟨0, rfl, Nat.zero_le _, by simpa [OP.knd] using World.ownsRow_nil _ _ _ _, fun g2 e => ⟨fun e2 => (by simp [Value.ownBlock] at e2), rfl⟩, Nat.le_refl _, HB2.out⟩
  case round =>
    obtain ⟨k, rfl, hk, hrow, hge, hsz, hb⟩ := hrel
    have HGE := Lib.hid hge
    have HRW := Lib.hid hrow
    have HBR := Lib.hid hb
    obtain ⟨va, vc, rfl⟩ := own_shape hrow
    by_cases h1 : k < n
    · have h1i : (k : Int) < (n : Int) := by omega
      have h1n : k < (CP.split s).length := by rw [HN.out]; exact h1
      obtain ⟨x, hx⟩ : ∃ x, (CP.split s)[k]? = some x := ⟨_, List.getElem?_eq_getElem h1n⟩
      obtain ⟨g2, rfl, hg2, hcell⟩ := HR.out.resolve_left (by intro e; rw [e] at h1n; simp at h1n)
      obtain ⟨e0, e1⟩ := srcp_eq (n := n) (c := ac) hcell (hge g2 rfl).2 k x hx
      have hp := CP.sp_mem (CP.sp_split s) x (List.mem_of_getElem? hx)
      obtain ⟨b, hbe, hb1', hb2', -, -⟩ := CP.base_spec hp.1 hp.2
      have hts : (CP.split s).take (k + 1) = (CP.split s).take k ++ [x] := by rw [List.take_add_one, hx]; rfl
      have hks : OP.knd s ((CP.split s).take (k + 1)) = OP.knd s ((CP.split s).take k) ++ List.replicate (x.2 - x.1) (OP.kof s x) := by rw [hts, OP.knd_snoc]
      have hko : OP.kof s x = FC.stg (CP.ch s b) := by unfold OP.kof; rw [hbe]; rfl
      rw [hko] at hks
      have hbs : b < s.size := by omega
      have hbsi : (b : Int) < (s.size : Int) := by omega
      have hb0 : (0 : Int) ≤ (b : Int) := by omega
      have hby : (s[b].toNat : Int) ≤ 255 := by have := s[b].toNat_lt; omega
      have HBA := Lib.hid fun V => rbase_any s (x.1 : Int) (x.2 : Int) V hs
      rw [hbe] at HBA
      have HST := Lib.hid fun V => rstrong7_any s b V hbs
      obtain ⟨kd, hkd⟩ : ∃ kd, FC.stg (CP.ch s b) = kd := ⟨_, rfl⟩
      rw [hkd] at hks HST
      obtain ⟨m, hm⟩ : ∃ m, x.2 - x.1 = m := ⟨_, rfl⟩
      rw [hm] at hks
      have hmi : (x.2 : Int) - (x.1 : Int) = (m : Int) := by omega
      have hx2s : x.2 ≤ s.size := hp.2
      have HC : Hid (∀ V : World, V.heap[g2]? = w2.heap[g2]? → V.cell? ⟨g2, k * 2, none⟩ = some (.int .i64 (x.1 : Int)) ∧ V.cell? ⟨g2, k * 2 + 1, none⟩ = some (.int .i64 (x.2 : Int))) := Lib.hid fun V hV => srcp_eq (n := n) (c := ac) hcell hV k x hx
      have HKS := Lib.hid hks
      have HLE : Hid ((OP.knd s ((CP.split s).take k)).length + m ≤ s.size) := Lib.hid (by
        have h2 : (OP.knd s ((CP.split s).take (k + 1))).length ≤ (OP.knd s (CP.split s)).length := by
          conv => rhs; rw [← List.take_append_drop (k + 1) (CP.split s)]
          simp only [OP.knd, List.flatMap_append, List.length_append]
          omega
        have h3 := OP.kinds_len s
        unfold OP.kinds at h3
        rw [hks, List.length_append, List.length_replicate] at h2
        omega)
      generalize OP.knd s ((CP.split s).take k) = Q at hrow HRW HKS HLE HGE
      obtain ⟨x1, x2⟩ := x
      simp only at e0 e1 hmi HBA HC hx2s
      have hQ := HLE.out
      clear hx hcell hp hbe hts hks hko hkd hm hge hrow hb h1n HN
      have hg2r : g2 < wr.heap.size := by omega
      go_wp2_with fail
      refine (HBA.out _).mono ?_
      rintro e w4 ⟨rfl, hb4⟩
      have HB4 := Lib.hid hb4
      clear hb4 e0 e1
      go_wp2_with fail
      refine (HST.out _).mono ?_
      rintro e w5 ⟨rfl, hb5⟩
      have HB5 := Lib.hid (bnext HB4.out hb5)
      have hrow5 := own_below HRW.out HB5.out
      have hge5 := (HB5.out.block g2 hg2r).trans (HGE.out g2 rfl).2
      have hbb5 := bnext HBR.out HB5.out
      have hs5 := HB5.out.size
      have hoq := (HGE.out g2 rfl).1
      obtain ⟨d0, d1⟩ := HC.out w5 hge5
      clear hb5
      go_wp2_with fail
      go_loopw [3, 7] (fun v3 v29 wi => ∃ j : Nat, v29 = .int .i64 ((x1 + j : Nat) : Int) ∧ j ≤ m ∧ wi.ownsRow w.heap.size 3 1 v3 (Q.length + j) ((Q ++ List.replicate j kd).map (Value.int .i64)) ∧ v3.ownBlock ≠ some g2 ∧ wi.heap[g2]? = w2.heap[g2]? ∧ w5.heap.size ≤ wi.heap.size ∧ Below w.heap.size w wi) (fun _ v _ => x2 - (intOf v).toNat)
      case atStart => exact ⟨0, rfl, Nat.zero_le _, by simpa using hrow5, hoq, hge5, Nat.le_refl _, hbb5⟩
      case round =>
        clear hrow5 hge5 hbb5 hoq d0 d1
        obtain ⟨j, rfl, hj, hrow, hoq, hge, hsz2, hb⟩ := hrel
        obtain ⟨d0, d1⟩ := HC.out wr hge
        obtain ⟨q, hq⟩ : ∃ q, x1 + j = q := ⟨_, rfl⟩
        rw [hq]
        by_cases hjm : j < m
        · have hjmi : (q : Int) < (x2 : Int) := by omega
          have hbs := hb.size
          go_wp2_with (at_builtin; refine wpList_append_own_at _ rfl _ _ 26 rfl w.heap.size 3 i0 (.int .i64 0) 1 8 Tryd.underlying26 hi0 hz0 hz1 hz2 rfl (by decide) _ _ _ rfl (hrow.alloc _) ⟨wr.heap.size, 0, none⟩ 1 1 [.int .i64 kd] rfl rfl (cell_one_new wr _ _) (by simp [Value.oneCell']) (by unfold maxLen; omega) (by omega) (by simp; omega) ?_; intro v' w6 hown hgrow _ hat; obtain ⟨g5, cap5, rfl⟩ := ownsRow_succ hown)
          have h2 := two_keep hoq (by omega) hge hgrow hat
          have h3 := hgrow.size
          simp at h3
          go_roundw
          case rel =>
            refine ⟨j + 1, by rw [show x1 + (j + 1) = q + 1 by omega]; go_num, hjm, ?_, h2.1, h2.2, by omega, span_app hrow hb hgrow⟩
            have e : (Q ++ List.replicate (j + 1) kd).map (Value.int .i64) = (Q ++ List.replicate j kd).map (Value.int .i64) ++ [.int .i64 kd] := by rw [List.replicate_succ', ← List.append_assoc, List.map_append]; rfl
            rw [e]
            exact hown
          case measure => simp [intOf]; omega
        · obtain rfl : m = j := by omega
          have hjmi : ¬ (q : Int) < (x2 : Int) := by omega
          clear hq
          go_wp2_with fail
          go_roundw
          case rel => exact ⟨k + 1, by go_num, h1, by rw [HKS.out, List.length_append, List.length_replicate]; exact hrow, fun g3 e => by obtain rfl : g2 = g3 := (by injection e with e; injection e with e); exact ⟨hoq, hge⟩, by omega, hb⟩
          case measure => simp [intOf]; omega
    · obtain rfl : n = k := by omega
      have HF : Hid ((OP.knd s ((CP.split s).take n)) = OP.kinds s) := Lib.hid (by rw [← HN.out, List.take_length]; rfl)
      clear hrow hge hb
      go_wp2
      go_ret
      refine ⟨_, rfl, ?_, HBR.out⟩
      have h := HRW.out
      rw [HF.out, HKL.out] at h
      rw [HF.out, HKL.out]
      exact h
end Go.Proofs.YtbgmbcngkmlfeaaDoor
