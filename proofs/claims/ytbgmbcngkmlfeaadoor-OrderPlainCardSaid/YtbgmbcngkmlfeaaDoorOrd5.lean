/- Levels, the direction of a text, and the kinds of its characters. No conditions. -/
import Derived.Test.YtbgmbcngkmlfeaaDoorOrd4
namespace Go.Proofs.YtbgmbcngkmlfeaaDoor
set_option maxRecDepth 100000
set_option linter.unusedVariables false
open Go.RowKit Go.Shelf Go.Deep
set_option maxHeartbeats 1000000 in
theorem olevel_any (k d b : Int) (w : World) : Calls Tryd.prog 33 #[.int .i64 k, .int .i64 d, .int .i64 b] w fun e w' => e = .returned (.int .i64 (OP.lv b k d)) ∧ w' = w := by
  by_cases h2 : d = 2
  · have e2 : (d == 2) = true := by simp [h2]
    by_cases h3 : k = 3
    · have e3 : (k != 3) = false := by simp [h3]
      have HR : Hid (OP.lv b k d = 2) := Lib.hid (by simp [OP.lv, h2, h3])
      clear h2 h3
      go_enter Tryd.func33, Tryd.ntmps33
      go_wp2
      go_ret
      exact ⟨ret1 HR.out.symm, rfl⟩
    · have e3 : (k != 3) = true := by simp [h3]
      have HR : Hid (OP.lv b k d = 1) := Lib.hid (by simp [OP.lv, h2, h3])
      clear h2 h3
      go_enter Tryd.func33, Tryd.ntmps33
      go_wp2
      go_ret
      exact ⟨ret1 HR.out.symm, rfl⟩
  · have e2 : (d == 2) = false := by simp [h2]
    by_cases h3 : b = 2
    · have e3 : (b == 2) = true := by simp [h3]
      have HR : Hid (OP.lv b k d = 2) := Lib.hid (by simp [OP.lv, h2, h3])
      clear h2 h3
      go_enter Tryd.func33, Tryd.ntmps33
      go_wp2
      go_ret
      exact ⟨ret1 HR.out.symm, rfl⟩
    · have e3 : (b == 2) = false := by simp [h3]
      have HR : Hid (OP.lv b k d = 0) := Lib.hid (by simp [OP.lv, h2, h3])
      clear h2 h3
      go_enter Tryd.func33, Tryd.ntmps33
      go_wp2
      go_ret
      exact ⟨ret1 HR.out.symm, rfl⟩
def oright (s : ByteArray) : Bool := decide (OP.bse s = 2)
set_option maxHeartbeats 1000000 in
theorem oright_any (s : ByteArray) (g : Nat × Nat) (w : World) (hl : Laid w g) (hs : s.size ≤ 1000000000) :
    Calls Tryd.prog 11 #[.string s] w fun e w' => e = .returned (.bool (oright s)) ∧ Below w.heap.size w w' := by
  have HX := Lib.hid (obase_any s g w hl hs)
  have HR : Hid ((OP.bse s == 2) = oright s) := Lib.hid (by unfold oright; by_cases h : OP.bse s = 2 <;> simp [h])
  go_enter Tryd.func11, Tryd.ntmps11
  go_wp2_with fail
  refine HX.out.mono ?_
  rintro e w2 ⟨rfl, hb2⟩
  go_wp2
  go_ret
  exact ⟨retb HR.out, hb2⟩
/-- A row of pieces in a block that stays. -/
theorem srcp_eq {W V : World} {g : Nat} {n c : Nat} {l : List (Nat × Nat)} (h : ∀ i x, l[i]? = some x → W.cell? ⟨g, i * 2, none⟩ = some (.int .i64 (x.1 : Int)) ∧ W.cell? ⟨g, i * 2 + 1, none⟩ = some (.int .i64 (x.2 : Int))) (he : V.heap[g]? = W.heap[g]?) : ∀ i x, l[i]? = some x → V.cell? ⟨g, i * 2, none⟩ = some (.int .i64 (x.1 : Int)) ∧ V.cell? ⟨g, i * 2 + 1, none⟩ = some (.int .i64 (x.2 : Int)) := fun i x hx => by
  simp only [World.cell?, he]
  exact h i x hx
theorem two_keep {W V W0 : World} {v v' : Value} {g2 : Nat} {o : Obj} (h1 : v.ownBlock ≠ some g2) (hlt : g2 < W.heap.size) (he : W.heap[g2]? = W0.heap[g2]?) (hg : (W.alloc o).grownBy V v.ownBlock) (hat : v'.ownBlock = v.ownBlock ∨ v'.ownBlock = some (W.alloc o).heap.size) : v'.ownBlock ≠ some g2 ∧ V.heap[g2]? = W0.heap[g2]? := by
  refine ⟨fun e => ?_, ?_⟩
  · rcases hat with h | h
    · exact h1 (h ▸ e)
    · rw [h] at e
      have := Option.some.inj e
      simp at this
      omega
  · rw [hg.block g2 (by simp; omega) (fun e => h1 e.symm), Below.heap_alloc _ _ _ hlt, he]
set_option maxHeartbeats 4000000 in
theorem okinds_any (s : ByteArray) (g : Nat × Nat) (w : World) (hl : Laid w g) (hs : s.size ≤ 1000000000) :
    Calls Tryd.prog 30 #[.string s] w fun e W' => ∃ v, e = .returned v ∧ W'.ownsRow w.heap.size 3 1 v s.size ((OP.kinds s).map (Value.int .i64)) ∧ Below w.heap.size w W' := by
  have HL : Hid (∀ B, Below w.heap.size w B → Laid B g) := Lib.hid fun B hb => hl.mono hb
  clear hl
  obtain ⟨i0, hi0, hz0, hz1, hz2⟩ := info_parts info_int
  obtain ⟨w1, hmk, hown, hb1, hw1⟩ := make_cap w s.size w.heap.size (Nat.le_refl _) hs
  have HKL := Lib.hid (OP.kinds_len s)
  have HO := Lib.hid hown
  have HB1 := Lib.hid hb1
  clear hown
  go_enter Tryd.func30, Tryd.ntmps30
  go_wp2_with fail
  refine (split_any s g w1 (HL.out _ hb1) hs).mono ?_
  rintro e w2 ⟨vs, rfl, os, hb2⟩
  obtain ⟨ao, ac, rfl, hr⟩ := own_srcP os
  have hgw : ∀ g2, (Value.slice ao (CP.split s).length ac).ownBlock = some g2 → w1.heap.size ≤ g2 := fun g2 e => (os.lt g2 e).1
  have HR := Lib.hid hr
  have HGW := Lib.hid hgw
  have HO2 := Lib.hid (own_below HO.out hb2)
  have HB2 := Lib.hid (bnext HB1.out hb2)
  obtain ⟨n, hn⟩ : ∃ n, (CP.split s).length = n := ⟨_, rfl⟩
  have HN := Lib.hid hn
  have hlen := CP.split_length s
  rw [hn] at hlen ⊢
  rw [hn] at HGW
  have hws := hb2.size
  clear os hb2 hr hgw hn hmk hb1 HO
  go_wp2_with fail
  go_loopw [3, 13] (fun v3 v13 wr => ∃ k : Nat, v13 = .int .i64 (k : Int) ∧ k ≤ n ∧ wr.ownsRow w.heap.size 3 1 v3 (OP.knd s ((CP.split s).take k)).length ((OP.knd s ((CP.split s).take k)).map (Value.int .i64)) ∧ (∀ g2, ao = some ⟨g2, 0, none⟩ → v3.ownBlock ≠ some g2 ∧ wr.heap[g2]? = w2.heap[g2]?) ∧ w2.heap.size ≤ wr.heap.size ∧ Below w.heap.size w wr) (fun _ v _ => n - (intOf v).toNat)
  case atStart =>
    refine ⟨0, rfl, Nat.zero_le _, by simpa [OP.knd] using HO2.out, fun g2 e => ⟨fun e2 => ?_, rfl⟩, Nat.le_refl _, HB2.out⟩
    have h1 := HGW.out g2 (by rw [e]; rfl)
    have h2 : w.heap.size = g2 := Option.some.inj e2
    omega
  case round =>
    obtain ⟨k, rfl, hk, hrow, hge, hsz, hb⟩ := hrel
    have HGE := Lib.hid hge
    have HRW := Lib.hid hrow
    have HBR := Lib.hid hb
    obtain ⟨va, vc, rfl⟩ := own_shape hrow
    by_cases h1 : k < n
    · have h1i : (k : Int) < (n : Int) := by omega
      have h1n : k < (CP.split s).length := by rw [HN.out]; exact h1
      obtain ⟨x, hx⟩ : ∃ x, (CP.split s)[k]? = some x := ⟨_, List.getElem?_eq_getElem h1n⟩
      obtain ⟨g2, rfl, hg2, hcell⟩ := HR.out.resolve_left (by intro e; rw [e] at h1n; simp at h1n)
      obtain ⟨e0, e1⟩ := srcp_eq (n := n) (c := ac) hcell (hge g2 rfl).2 k x hx
      have hp := CP.sp_mem (CP.sp_split s) x (List.mem_of_getElem? hx)
      obtain ⟨b, hbe, hb1', hb2', -, -⟩ := CP.base_spec hp.1 hp.2
      have hts : (CP.split s).take (k + 1) = (CP.split s).take k ++ [x] := by rw [List.take_add_one, hx]; rfl
      have hks : OP.knd s ((CP.split s).take (k + 1)) = OP.knd s ((CP.split s).take k) ++ List.replicate (x.2 - x.1) (OP.kof s x) := by rw [hts, OP.knd_snoc]
      have hko : OP.kof s x = FC.stg (CP.ch s b) := by unfold OP.kof; rw [hbe]; rfl
      rw [hko] at hks
      have hbs : b < s.size := by omega
      have hbsi : (b : Int) < (s.size : Int) := by omega
      have hb0 : (0 : Int) ≤ (b : Int) := by omega
      have hby : (s[b].toNat : Int) ≤ 255 := by have := s[b].toNat_lt; omega
      rw [CP.ch_at hbs] at hks
      have HBA := Lib.hid fun V (hV : Below w.heap.size w V) => base_any s (x.1 : Int) (x.2 : Int) g V (HL.out _ hV) hs
      rw [hbe] at HBA
      have HST := Lib.hid fun V (hV : Below w.heap.size w V) => strong_any ((s[b].toNat : Nat) : Int) g V (HL.out _ hV)
      obtain ⟨kd, hkd⟩ : ∃ kd, FC.stg ((s[b].toNat : Nat) : Int) = kd := ⟨_, rfl⟩
      rw [hkd] at hks HST
      obtain ⟨m, hm⟩ : ∃ m, x.2 - x.1 = m := ⟨_, rfl⟩
      rw [hm] at hks
      have hmi : (x.2 : Int) - (x.1 : Int) = (m : Int) := by omega
      have hx2s : x.2 ≤ s.size := hp.2
      have HKS := Lib.hid hks
      have HLE : Hid ((OP.knd s ((CP.split s).take k)).length + m ≤ s.size) := Lib.hid (by
        have h2 : (OP.knd s ((CP.split s).take (k + 1))).length ≤ (OP.knd s (CP.split s)).length := by
          conv => rhs; rw [← List.take_append_drop (k + 1) (CP.split s)]
          simp only [OP.knd, List.flatMap_append, List.length_append]
          omega
        have h3 := OP.kinds_len s
        unfold OP.kinds at h3
        rw [hks, List.length_append, List.length_replicate] at h2
        omega)
      generalize OP.knd s ((CP.split s).take k) = Q at hrow HRW HKS HLE HGE
      obtain ⟨x1, x2⟩ := x
      simp only at e0 e1 hmi HBA
      have hQ := HLE.out
      clear hx hcell hp hbe hts hks hko hkd hm hge hrow hb h1n HN
      go_upto_region 5 with fail
      obtain ⟨D, hD⟩ : ∃ D, wr.heap.size = D := ⟨_, rfl⟩
      have hbx := heap_alloc_new wr (.cells #[.int .i64 (x1 : Int), .int .i64 (x2 : Int)] 52)
      rw [hD] at hbx
      obtain ⟨W3, hW3⟩ : ∃ W3, wr.alloc (.cells #[.int .i64 (x1 : Int), .int .i64 (x2 : Int)] 52) = W3 := ⟨_, rfl⟩
      have hb3 : Below wr.heap.size wr W3 := by rw [← hW3]; exact balloc (Below.refl _ _) _
      rw [hW3] at hbx ⊢
      try rw [hD]
      obtain ⟨d0, d1⟩ := two_cells hbx
      have HDX := Lib.hid hbx
      have hg2r : g2 < wr.heap.size := by omega
      have HB3 := Lib.hid hb3
      clear hW3 hbx hb3 hD e0 e1
      go_wp2_with fail
      refine (HBA.out _ (bnext HBR.out HB3.out)).mono ?_
      rintro e w4 ⟨rfl, hb4⟩
      have HB4 := Lib.hid (bnext HB3.out hb4)
      have HDX4 := Lib.hid ((hb4.block D (Array.getElem?_eq_some_iff.1 HDX.out).1).trans HDX.out)
      clear hb4 d0 d1
      go_wp2_with fail
      refine (HST.out _ (bnext HBR.out HB4.out)).mono ?_
      rintro e w5 ⟨rfl, hb5⟩
      have HB5 := Lib.hid (bnext HB4.out hb5)
      have hbx5 := (hb5.block D (Array.getElem?_eq_some_iff.1 HDX4.out).1).trans HDX4.out
      obtain ⟨d0, d1⟩ := two_cells hbx5
      have hrow5 := own_below HRW.out HB5.out
      have hge5 := (HB5.out.block g2 hg2r).trans (HGE.out g2 rfl).2
      have hbb5 := bnext HBR.out HB5.out
      have hs5 := HB5.out.size
      have hoq := (HGE.out g2 rfl).1
      clear hb5 hbx5
      go_wp2_with fail
      go_loopw [3, 29] (fun v3 v29 wi => ∃ j : Nat, v29 = .int .i64 (j : Int) ∧ j ≤ m ∧ wi.ownsRow w.heap.size 3 1 v3 (Q.length + j) ((Q ++ List.replicate j kd).map (Value.int .i64)) ∧ v3.ownBlock ≠ some g2 ∧ wi.heap[g2]? = w2.heap[g2]? ∧ w5.heap.size ≤ wi.heap.size ∧ Below w.heap.size w wi) (fun _ v _ => m - (intOf v).toNat)
      case atStart => exact ⟨0, rfl, Nat.zero_le _, by simpa using hrow5, hoq, hge5, Nat.le_refl _, hbb5⟩
      case round =>
        clear hrow5 hge5 hbb5 hoq d0 d1
        obtain ⟨j, rfl, hj, hrow, hoq, hge, hsz2, hb⟩ := hrel
        by_cases hjm : j < m
        · have hjmi : (j : Int) < (m : Int) := by omega
          have hbs := hb.size
          go_wp2_with (at_builtin; refine wpList_append_own_at _ rfl _ _ 26 rfl w.heap.size 3 i0 (.int .i64 0) 1 8 Tryd.underlying26 hi0 hz0 hz1 hz2 rfl (by decide) _ _ _ rfl (hrow.alloc _) ⟨wr.heap.size, 0, none⟩ 1 1 [.int .i64 kd] rfl rfl (cell_one_new wr _ _) (by simp [Value.oneCell']) (by unfold maxLen; omega) (by omega) (by simp; omega) ?_; intro v' w6 hown hgrow _ hat; obtain ⟨g5, cap5, rfl⟩ := ownsRow_succ hown)
          have h2 := two_keep hoq (by omega) hge hgrow hat
          have h3 := hgrow.size
          simp at h3
          go_roundw
          case rel =>
            refine ⟨j + 1, by go_num, hjm, ?_, h2.1, h2.2, by omega, span_app hrow hb hgrow⟩
            have e : (Q ++ List.replicate (j + 1) kd).map (Value.int .i64) = (Q ++ List.replicate j kd).map (Value.int .i64) ++ [.int .i64 kd] := by rw [List.replicate_succ', ← List.append_assoc, List.map_append]; rfl
            rw [e]
            exact hown
          case measure => simp [intOf]; omega
        · obtain rfl : m = j := by omega
          go_wp2_with fail
          go_roundw
          case rel => exact ⟨k + 1, by go_num, h1, by rw [HKS.out, List.length_append, List.length_replicate]; exact hrow, fun g3 e => by obtain rfl : g2 = g3 := (by injection e with e; injection e with e); exact ⟨hoq, hge⟩, by omega, hb⟩
          case measure => simp [intOf]; omega
    · obtain rfl : n = k := by omega
      have HF : Hid ((OP.knd s ((CP.split s).take n)) = OP.kinds s) := Lib.hid (by rw [← HN.out, List.take_length]; rfl)
      clear hrow hge hb
      go_wp2
      go_ret
      refine ⟨_, rfl, ?_, HBR.out⟩
      have h := HRW.out
      rw [HF.out, HKL.out] at h
      rw [HF.out, HKL.out]
      exact h
end Go.Proofs.YtbgmbcngkmlfeaaDoor
