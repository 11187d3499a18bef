/- The digits, of the program. No conditions. -/
import Derived.Test.YtinkhgmdeldniaaSgnNums
namespace Go.Proofs.Ytinkhgmdeldniaa.SG
set_option maxRecDepth 100000
open Go.RowKit
theorem dgs_get : ∀ (l : List UInt8) (k : Nat) (h : k < l.length), (dgs l)[2 * k]? = some ((l[k].toNat / 16 : Nat) : Int) ∧ (dgs l)[2 * k + 1]? = some ((l[k].toNat % 16 : Nat) : Int)
  | [], k, h => by simp at h
  | c :: l, 0, h => by simp [dgs, two]
  | c :: l, k + 1, h => by
    have := dgs_get l k (by simpa using h)
    have e : dgs (c :: l) = ((c.toNat / 16 : Nat) : Int) :: ((c.toNat % 16 : Nat) : Int) :: dgs l := by simp [dgs, two]
    rw [e, show 2 * (k + 1) = 2 * k + 1 + 1 by omega]
    simpa using this
theorem dig_two {msg : ByteArray} {l : List UInt8} (hl : (DG.Of msg).data.toList = l) {k : Nat} (h : k < l.length) (h8 : l.length = 8) : dig msg (2 * k) = l[k].toNat / 16 ∧ dig msg (2 * k + 1) = l[k].toNat % 16 := by
  obtain ⟨h1, h2⟩ := dgs_get l k h
  have hlen := dgs_len l
  unfold dig digits
  rw [hl, List.getD_eq_getElem?_getD, List.getD_eq_getElem?_getD, List.getElem?_append_left (by omega), List.getElem?_append_left (by omega), h1, h2]
  exact ⟨rfl, rfl⟩
theorem dig_last {msg : ByteArray} {l : List UInt8} (hl : (DG.Of msg).data.toList = l) (h8 : l.length = 8) : ((dig msg 16 : Nat) : Int) = rest l / 16 ∧ ((dig msg 17 : Nat) : Int) = rest l % 16 := by
  have hlen := dgs_len l
  have hb := rest_bd l
  unfold dig digits
  rw [hl, List.getD_eq_getElem?_getD, List.getD_eq_getElem?_getD, List.getElem?_append_right (by omega), List.getElem?_append_right (by omega)]
  rw [show 16 - (dgs l).length = 0 by omega, show 17 - (dgs l).length = 1 by omega]
  constructor
  · show ((rest l / 16).toNat : Int) = _
    omega
  · show ((rest l % 16).toNat : Int) = _
    omega
/-- The digits of the first k bytes. -/
def dpart (msg : ByteArray) (m : Nat) (j : Nat) : Nat := if j < m then dig msg j else 0
end Go.Proofs.Ytinkhgmdeldniaa.SG
namespace Go.Proofs.Ytinkhgmdeldniaa
set_option maxRecDepth 100000
set_option linter.unusedVariables false
open Go.RowKit Go.Deep
/-- '[]byte(s)': the bytes lie in a block of their own. -/
theorem bytes_of (w : World) (d : ByteArray) : ∃ w' cap, (convert 9 51 (.string d)).run Try.prog w = .ok (.slice (some ⟨w.heap.size, 0, none⟩) d.size cap) w' ∧
    (∀ i, ∀ hi : i < d.size, w'.cell? ⟨w.heap.size, i, none⟩ = some (.int .u8 (d[i].toNat : Int))) ∧ Below w.heap.size w w' ∧ w.heap.size < w'.heap.size := by
  have h := run_bytes_of_string (P := Try.prog) w 9 51 5 d Try.underlying9 Try.underlying51 Try.underlying5
  refine ⟨_, _, h, fun i hi => ?_, ((Below.refl _ w).drew).alloc (Nat.le_refl _) _, by simp⟩
  have h2 := World.alloc_heap_new w.drew (.cells (bytesRow d (grownCap w d.size 0 5)) 5 ((bytesRow d (grownCap w d.size 0 5)).size, (bytesRow d (grownCap w d.size 0 5)).size + 1))
  have h3 := bytesRow_at d (grownCap w d.size 0 5) i hi
  rw [show w.drew.heap.size = w.heap.size from rfl] at h2
  rw [cell_of_row _ _ i _ _ _ h2]
  exact h3
set_option maxHeartbeats 4000000 in
theorem digits_any (msg : ByteArray) (w : World) (hs : msg.size ≤ 1000000) : Calls Try.prog 40 #[.string msg] w fun e w' => e = .returned (.agg (SG.numA (SG.dig msg))) ∧ Below w.heap.size w w' := by
  have HO := Lib.hid (fun V => Of_any msg V (by unfold maxLen; omega))
  obtain ⟨d, hd⟩ : ∃ d, DG.Of msg = d := ⟨_, rfl⟩
  have hd8 : d.size = 8 := by rw [← hd]; rfl
  rw [hd] at HO
  have hl8 : d.data.toList.length = 8 := by rw [Array.length_toList]; exact hd8
  obtain ⟨l, hl⟩ : ∃ l, d.data.toList = l := ⟨_, rfl⟩
  have hml : (DG.Of msg).data.toList = l := by rw [hd, hl]
  rw [hl] at hl8
  have HL := Lib.hid hl
  have HL8 := Lib.hid hl8
  have HML := Lib.hid hml
  have HSZ := Lib.hid hd8
  clear hs hd hml hl hl8
  go_enter Try.func40, Try.ntmps40
  go_wp2_with fail
  obtain ⟨B, hB⟩ : ∃ B, w.heap.size = B := ⟨_, rfl⟩
  obtain ⟨W0, hW0, n0, n1, hb0⟩ := two_nums w B hB
  rw [hW0, hB]
  clear hW0
  have hBw : B ≤ w.heap.size := by omega
  have HBW := Lib.hid hB
  clear hB
  refine (HO.out _).mono ?_
  rintro e w1 ⟨rfl, k1⟩
  replace n0 := n0.keep k1
  replace n1 := n1.keep k1
  replace hb0 := hb0.trans (k1.mono (by have := hb0.size; omega))
  have hBs := n1.lt
  obtain ⟨w2, cap, hcv, hbt, hb2, hw2⟩ := bytes_of w1 d
  replace n0 := n0.keep hb2
  replace n1 := n1.keep hb2
  replace hb0 := hb0.trans (hb2.mono (by have := hb0.size; omega))
  obtain ⟨R, hR⟩ : ∃ R, w1.heap.size = R := ⟨_, rfl⟩
  have hBR : B + 1 < R := by omega
  rw [hR] at hcv hbt hw2
  rw [hd8] at hcv
  have HBT := Lib.hid hbt
  clear k1 hb2 hbt hR
  go_wp2
  clear hcv
  go_loopw [4, 11] (fun v4 v wr => ∃ k : Nat, v = .int .i64 (k : Int) ∧ v4 = .int .i64 (SG.rest (l.take k)) ∧ k ≤ 8 ∧ NumAt wr B (fun _ => 0) ∧ NumAt wr (B + 1) (SG.dpart msg (2 * k)) ∧ (∀ i, ∀ hi : i < d.size, wr.cell? ⟨R, i, none⟩ = some (.int .u8 (d[i].toNat : Int))) ∧ Below B w wr ∧ R < wr.heap.size) (fun _ v _ => 8 - (intOf v).toNat)
  case atStart => exact ⟨0, rfl, rfl, Nat.zero_le _, n0, n1.congr (fun c _ => by simp [SG.dpart]), HBT.out, hb0, hw2⟩
  case round =>
    clear n0 n1 hb0 hw2 HBT
    obtain ⟨k, rfl, rfl, hk, n0, n1, hbt, hb, hRw⟩ := hrel
    have hrb := SG.rest_bd (l.take k)
    have hrl : (l.take k).length ≤ 8 := by rw [List.length_take]; omega
    obtain ⟨T, hT⟩ : ∃ T, SG.rest (l.take k) = T := ⟨_, rfl⟩
    rw [hT] at hrb ⊢
    have hrb1 : 0 ≤ T ∧ T ≤ 240 := by omega
    have HT := Lib.hid hT
    clear hrb hrl hT
    by_cases hk8 : k < 8
    · have hki : (k : Int) < 8 := by omega
      have hk0 : (0 : Int) ≤ (k : Int) := by omega
      have hkd : k < d.size := by have := HSZ.out; omega
      have hkl : k < l.length := by have := HL8.out; omega
      obtain ⟨n, hn⟩ : ∃ n, d[k].toNat = n := ⟨_, rfl⟩
      have hn2 : n < 256 := by rw [← hn]; exact d[k].toNat_lt
      have hc := hbt k hkd
      rw [hn] at hc
      have hln : l[k].toNat = n := by rw [← hn]; congr 1; have := HL.out; subst this; simp [ByteArray.getElem_eq_getElem_data]
      obtain ⟨q, hq⟩ : ∃ q, n / 16 = q := ⟨_, rfl⟩
      obtain ⟨r, hr⟩ : ∃ r, n % 16 = r := ⟨_, rfl⟩
      obtain ⟨m, hm⟩ : ∃ m, m = 2 * k := ⟨_, rfl⟩
      obtain ⟨m1, hm1⟩ : ∃ m1, m1 = m + 1 := ⟨_, rfl⟩
      have hdg := SG.dig_two HML.out hkl HL8.out
      rw [hln, hq, hr, ← hm, ← hm1] at hdg
      have hsn : l.take (k + 1) = l.take k ++ [l[k]] := by rw [List.take_add_one, List.getElem?_eq_getElem hkl]; rfl
      have HR1 : Hid (SG.rest (l.take (k + 1)) = T - ((q : Int) + (r : Int))) := Lib.hid (by rw [hsn, SG.rest_snoc, HT.out, hln, hq, hr]; omega)
      have hq15 : q ≤ 15 := by omega
      have hr15 : r ≤ 15 := by omega
      have e1 : (n : Int).tdiv 16 = (q : Int) := by rw [Int.tdiv_eq_ediv_of_nonneg (by omega)]; omega
      have e2 : (n : Int).tmod 16 = (r : Int) := by rw [Int.tmod_eq_emod_of_nonneg (by omega)]; omega
      have e3 : IntKind.i64.wrap (n : Int) = (n : Int) := by rw [IntKind.wrap_i64]; omega
      have e4 : 2 * (k : Int) = (m : Int) := by omega
      have e5 : (m : Int) + 1 = (m1 : Int) := by omega
      have e6 : IntKind.i64.wrap (m : Int) = (m : Int) := by rw [IntKind.wrap_i64]; omega
      have e7 : IntKind.i64.wrap (m1 : Int) = (m1 : Int) := by rw [IntKind.wrap_i64]; omega
      have e8 : IntKind.i64.wrap ((q : Int) + (r : Int)) = (q : Int) + (r : Int) := by rw [IntKind.wrap_i64]; omega
      have e9 : IntKind.i64.wrap (T - ((q : Int) + (r : Int))) = T - ((q : Int) + (r : Int)) := by rw [IntKind.wrap_i64]; omega
      have hm18 : (m : Int) < 18 := by omega
      have hm118 : (m1 : Int) < 18 := by omega
      have hm0 : (0 : Int) ≤ (m : Int) := by omega
      have hm10 : (0 : Int) ≤ (m1 : Int) := by omega
      have c1 := n1.cell (c := m) (by omega)
      have f1 := n1.frozen m
      have n2 := n1.set m q
      have c2 := n2.cell (c := m1) (by omega)
      have f2 := n2.frozen m1
      have n3 := n2.set m1 r
      have c3 := n3.cell (c := m) (by omega)
      have c4 := n3.cell (c := m1) (by omega)
      simp only [show ¬ m = m1 by omega, if_false, if_true] at c3 c4
      have HN0 := Lib.hid ((n0.other (b' := B + 1) (by omega) m (.int .i64 (q : Int))).other (b' := B + 1) (by omega) m1 (.int .i64 (r : Int)))
      have HN1 := Lib.hid (n3.congr (E := SG.dpart msg (2 * (k + 1))) (fun j hj => by
        unfold SG.dpart
        by_cases h1 : j = m1
        · rw [if_pos h1, if_pos (by omega), h1, hdg.2]
        · rw [if_neg h1]
          by_cases h2 : j = m
          · rw [if_pos h2, if_pos (by omega), h2, hdg.1]
          · rw [if_neg h2]
            by_cases h3 : j < 2 * k
            · rw [if_pos h3, if_pos (by omega)]
            · rw [if_neg h3, if_neg (by omega)]))
      have HBT : Hid (∀ i, ∀ hi : i < d.size, ((wr.setCell ⟨B + 1, m, none⟩ (.int .i64 (q : Int))).setCell ⟨B + 1, m1, none⟩ (.int .i64 (r : Int))).cell? ⟨R, i, none⟩ = some (.int .u8 (d[i].toNat : Int))) := Lib.hid fun i hi => by
        rw [← hbt i hi]
        exact World.cell?_of_block (a := ⟨R, i, none⟩) ((Below.heap_setCell _ _ _ _ (by simp; omega)).trans (Below.heap_setCell _ _ _ _ (by simp; omega)))
      have HB := Lib.hid ((hb.setCell (p := ⟨B + 1, m, none⟩) (by simp) (.int .i64 (q : Int))).setCell (p := ⟨B + 1, m1, none⟩) (by simp) (.int .i64 (r : Int)))
      have HRW := Lib.hid hRw
      clear n0 n1 n2 n3 hb hbt hq hr hm hm1 hdg hsn hln hn HT hRw
      go_wp2_with fail
      go_quiet (fail)
      go_wp2
      go_roundw
      case rel => exact ⟨k + 1, by go_num, by rw [HR1.out], hk8, HN0.out, HN1.out, HBT.out, below_drewN HB.out _, by simpa [World.setCell] using HRW.out⟩
      case measure => simp [intOf]; omega
    · have hki : ¬ (k : Int) < 8 := by omega
      obtain rfl : k = 8 := by omega
      have hall : l.take 8 = l := List.take_of_length_le (by rw [HL8.out]; exact Nat.le_refl _)
      have hTl : T = SG.rest l := by have := HT.out; rw [hall] at this; exact this.symm
      obtain ⟨hx, hy⟩ := SG.dig_last HML.out HL8.out
      rw [← hTl] at hx hy
      obtain ⟨q, hq⟩ : ∃ q : Nat, SG.dig msg 16 = q := ⟨_, rfl⟩
      obtain ⟨r, hr⟩ : ∃ r : Nat, SG.dig msg 17 = r := ⟨_, rfl⟩
      rw [hq] at hx
      rw [hr] at hy
      have e1 : T.tdiv 16 = (q : Int) := by rw [Int.tdiv_eq_ediv_of_nonneg (by omega)]; exact hx.symm
      have e2 : T.tmod 16 = (r : Int) := by rw [Int.tmod_eq_emod_of_nonneg (by omega)]; exact hy.symm
      have hq16 : q ≤ 15 := by omega
      have hr16 : r ≤ 15 := by omega
      have e4 : IntKind.i64.wrap (q : Int) = (q : Int) := by rw [IntKind.wrap_i64]; omega
      have c1 := n1.cell (c := 16) (by omega)
      have f1 := n1.frozen 16
      have n2 := n1.set 16 q
      have c2 := n2.cell (c := 17) (by omega)
      have f2 := n2.frozen 17
      have n3 := (n2.set 17 r).congr (E := SG.dig msg) (fun j hj => by
        by_cases h1 : j = 17
        · rw [if_pos h1, h1, hr]
        · rw [if_neg h1]
          by_cases h2 : j = 16
          · rw [if_pos h2, h2, hq]
          · rw [if_neg h2]
            unfold SG.dpart
            rw [if_pos (by omega)])
      have n4 := (n0.other (b' := B + 1) (by omega) 16 (.int .i64 (q : Int))).other (b' := B + 1) (by omega) 17 (.int .i64 (r : Int))
      have HN := Lib.hid (And.intro n4 n3)
      have HI := Lib.hid (info_nums (SG.dig msg))
      have HB := Lib.hid ((hb.setCell (p := ⟨B + 1, 16, none⟩) (by simp) (.int .i64 (q : Int))).setCell (p := ⟨B + 1, 17, none⟩) (by simp) (.int .i64 (r : Int)))
      have HZ := Lib.hid (setRow_heap _ B _ (SG.numA (SG.dig msg)) _ _ n4)
      clear n0 n1 n2 n3 n4 hb hbt hall hTl hx hy hq hr HT hRw
      go_upto_region 10 with fail
      refine wp_region_lit ?_
      refine wpList_load_nums rfl rfl rfl HN.out.2 ?_
      refine wpList_store_nums rfl rfl rfl rfl HN.out.1 ?_
      refine wpList_nil ?_
      simp only [Act.put, List.setIfInBounds_toArray, List.set_cons_zero, List.set_cons_succ]
      go_wp2
      refine bodyPost_ret (results_cell_row Try.results40 _ _ B 61 (SG.numA (SG.dig msg)) (0, 0) _ rfl HZ.out Try.underlying61 rfl HI.out) rfl ?_
      exact ⟨rfl, by rw [HBW.out]; exact below_setRow HB.out (Nat.le_refl _) _⟩
end Go.Proofs.Ytinkhgmdeldniaa
