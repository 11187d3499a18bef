/- The levels of the program. No conditions. -/
import Derived.Test.YtbgmbcngkmlfeaaDoorOrd9
namespace Go.Proofs.YtbgmbcngkmlfeaaDoor
set_option maxRecDepth 100000
set_option linter.unusedVariables false
open Go.RowKit Go.Shelf Go.Deep
theorem make_ints (w : World) (n B : Nat) (hB : B ≤ w.heap.size) (hn : n ≤ 1000000000) :
    ∃ w', (Instr.makeSlice 26 (.int .i64 (n : Int)) (.int .i64 (n : Int))).run Tryd.prog w = .ok (.slice (some ⟨w.heap.size, 0, none⟩) n n) w' ∧
      w'.ownsRow B 3 1 (.slice (some ⟨w.heap.size, 0, none⟩) n n) n ((List.replicate n (0 : Int)).map (Value.int .i64)) ∧ Below w.heap.size w w' ∧ w.heap.size < w'.heap.size := by
  obtain ⟨i0, hi, hz0, hz1, hz2⟩ := info_parts info_int
  have h := run_make (P := Tryd.prog) w 26 3 i0 (.int .i64 0) Tryd.underlying26 hi hz0 .i64 .i64 n n (by omega) (by omega) (by rw [hz2]; omega) (by omega)
  simp only [Int.toNat_natCast] at h
  refine ⟨_, h, ?_, balloc (Below.refl _ _) _, by simp⟩
  have := World.ownsRow_lit (base := B) (e := 3) (size := 1) w (madeCells #[.int .i64 0] (n * i0.size)) n hB (by unfold maxLen; omega) (by rw [size_madeCells, hz1])
  rw [toList_madeCells_one, hz1, Nat.mul_one] at this
  rw [show (Value.int .i64 0).cells = #[.int .i64 0] from rfl, hz1, Nat.mul_one, List.map_replicate]
  exact this
theorem two_new (w : World) (o0 o1 : Obj) (B : Nat) (hB : w.heap.size = B) : ∃ W0, (w.alloc o0).alloc o1 = W0 ∧ W0.heap[B]? = some o0 ∧ W0.heap[B + 1]? = some o1 ∧ Below w.heap.size w W0 ∧ W0.heap.size = B + 2 := by
  subst hB
  refine ⟨_, rfl, (Below.block (balloc (Below.refl _ (w.alloc o0)) o1) _ (by simp)).trans (heap_alloc_new w o0), ?_, balloc (balloc (Below.refl _ _) _) _, by simp⟩
  rw [show w.heap.size + 1 = (w.alloc o0).heap.size by simp]
  exact heap_alloc_new _ _
theorem set_mid (a b : List Int) (x y : Int) : ((a ++ x :: b).map (Value.int .i64)).set a.length (.int .i64 y) = ((a ++ [y]) ++ b).map (Value.int .i64) := by
  simp
theorem own_getD {w : World} {B e n g cap : Nat} {L : List Int} (h : w.ownsRow B e 1 (.slice (some ⟨g, 0, none⟩) n cap) n (L.map (Value.int .i64))) {k : Nat} (hk : k < n) (hL : L.length = n) : w.cell? ⟨g, k, none⟩ = some (.int .i64 (L.getD k 0)) := by
  rw [h.cellAt k (by omega), List.getElem?_map, List.getElem?_eq_getElem (by omega)]
  simp [List.getD, List.getElem?_eq_getElem (show k < L.length by omega)]
set_option maxHeartbeats 4000000 in
theorem olevels_any (s : ByteArray) (g : Nat × Nat) (w : World) (hl : Laid w g) (hs : s.size ≤ 1000000000) :
    Calls Tryd.prog 14 #[.string s] w fun e W' => ∃ v', e = .returned v' ∧ W'.ownsRow w.heap.size 3 1 v' s.size ((OP.levels s).map (Value.int .i64)) ∧ Below w.heap.size w W' := by
  have HL : Hid (∀ B, Below w.heap.size w B → Laid B g) := Lib.hid fun B hb => hl.mono hb
  clear hl
  obtain ⟨b, hb⟩ : ∃ b, OP.bse s = b := ⟨_, rfl⟩
  have hb12 : b = 1 ∨ b = 2 := by rw [← hb]; exact OP.fb_bd _
  have HBS := Lib.hid fun V (hV : Below w.heap.size w V) => obase_any s g V (HL.out _ hV) hs
  rw [hb] at HBS
  have HKD := Lib.hid fun V (hV : Below w.heap.size w V) => okinds_any s g V (HL.out _ hV) hs
  have HKN := Lib.hid (OP.kinds_len s)
  have hkb : ∀ k ∈ OP.kinds s, k = 0 ∨ k = 1 ∨ k = 2 ∨ k = 3 := fun k hk => OP.kinds_bd hk
  have HF : Hid (∀ k, OP.levelAt s k = OP.lv b ((OP.kinds s).getD k 0) (if CP.cl s k = 1 then b else (OP.dirs b (OP.kinds s)).getD k 0)) := Lib.hid fun k => by unfold OP.levelAt; rw [hb]
  have HLV : Hid (OP.levels s = (List.range s.size).map (OP.levelAt s)) := Lib.hid rfl
  obtain ⟨K, hK⟩ : ∃ K, OP.kinds s = K := ⟨_, rfl⟩
  rw [hK] at HKD HKN hkb HF
  have HKB := Lib.hid hkb
  have HB12 := Lib.hid hb12
  obtain ⟨n, hn⟩ : ∃ n, s.size = n := ⟨_, rfl⟩
  have HSN := Lib.hid hn
  rw [hn] at HKD HKN hs HLV ⊢
  clear hb hK hkb hb12 hn
  go_enter Tryd.func14, Tryd.ntmps14
  go_wp2_with fail
  refine (HBS.out _ (Below.refl _ _)).mono ?_
  rintro e w1 ⟨rfl, hb1⟩
  have HB1 := Lib.hid hb1
  clear hb1
  go_wp2_with fail
  refine (HKD.out _ HB1.out).mono ?_
  rintro e w2 ⟨vk, rfl, hok, hb2⟩
  have hsk := own_src hok (by rw [List.length_map, HKN.out])
  have HB2 := Lib.hid (bnext HB1.out hb2)
  obtain ⟨ka, kc, rfl⟩ := own_shape hok
  obtain ⟨w3, hmk, hown, hb3, hw3⟩ := make_ints w2 n w2.heap.size (Nat.le_refl _) hs
  have hkl : ∀ q, (Value.slice ka n kc).ownBlock = some q → q < w2.heap.size := fun q e => (hok.lt q e).2
  have HKL := Lib.hid hkl
  have hok3 := own_below hok hb3
  have hsk3 := hsk.keep hb3
  have HB3 := Lib.hid (bnext HB2.out hb3)
  have HO := Lib.hid hown
  have HOK := Lib.hid hok3
  have HDR := Lib.hid (odirections_any K b (.slice ka n kc) w3 hsk3 (by rw [HKN.out]; exact hs) HB12.out HKB.out)
  rw [HKN.out] at HDR
  obtain ⟨D, hD⟩ : ∃ D, OP.dirs b K = D := ⟨_, rfl⟩
  have HDL : Hid (D.length = n) := Lib.hid (by rw [← hD, OP.dirs_len, HKN.out])
  rw [hD] at HDR HF
  rw [show ((n : Nat) : Int) = (s.size : Int) by rw [HSN.out]] at hmk
  clear hok hb2 hsk hkl hok3 hsk3 hb3 hown hD HKD HBS HKB
  go_wp2_with fail
  refine HDR.out.mono ?_
  rintro e w4 ⟨vd, rfl, hod, hb4⟩
  obtain ⟨da, dc, rfl⟩ := own_shape hod
  have hdl : ∀ q, (Value.slice da n dc).ownBlock = some q → w3.heap.size ≤ q := fun q e => (hod.lt q e).1
  have HDL2 := Lib.hid hdl
  have HOD := Lib.hid hod
  have HO4 := Lib.hid (own_below HO.out hb4)
  have HOK4 := Lib.hid (own_below HOK.out hb4)
  have HB4 := Lib.hid (bnext HB3.out hb4)
  clear hod hdl hb4 HDR HO HOK hmk
  have h23 := hw3
  go_wp2_with fail
  go_loopw [19] (fun v19 wr => ∃ k : Nat, v19 = .int .i64 (k : Int) ∧ k ≤ n ∧ wr.ownsRow w2.heap.size 3 1 (.slice (some ⟨w2.heap.size, 0, none⟩) n n) n (((List.range k).map (OP.levelAt s) ++ List.replicate (n - k) 0).map (Value.int .i64)) ∧ KpR (.slice (some ⟨w2.heap.size, 0, none⟩) n n) w4 wr ∧ Below w.heap.size w wr) (fun v _ => n - (intOf v).toNat)
  case atStart => exact ⟨0, rfl, Nat.zero_le _, by simpa using HO4.out, KpR.refl _ _, HB4.out⟩
  case round =>
    obtain ⟨k, rfl, hk, hrow, hkp, hb⟩ := hrel
    by_cases h1 : k < n
    · have h1i : (k : Int) < (n : Int) := by omega
      have hk0 : (0 : Int) ≤ (k : Int) := by omega
      have hks : k < s.size := by rw [HSN.out]; exact h1
      have hksi : (k : Int) < (s.size : Int) := by omega
      have hby : (s[k].toNat : Int) ≤ 255 := by have := s[k].toNat_lt; omega
      have hwne : ∀ q, (Value.slice (some ⟨w2.heap.size, 0, none⟩) n n).ownBlock = some q → w2.heap.size = q := fun q e => Option.some.inj e
      have hokr := hkp.own HOK4.out (fun q e e2 => by have := hwne q e; have := HKL.out q e2; omega)
      have hodr := hkp.own HOD.out (fun q e e2 => by have := hwne q e; have := HDL2.out q e2; omega)
      obtain ⟨kg, kcap, e1, -, -, -⟩ := own_at hokr (by omega)
      injection e1 with e1 _ e2
      subst e1 e2
      obtain ⟨dg, dcap, e1, -, -, -⟩ := own_at hodr (by omega)
      injection e1 with e1 _ e2
      subst e1 e2
      have x1 := own_getD hokr h1 HKN.out
      have x2 := own_getD hodr h1 HDL.out
      have hf := HF.out k
      have hcl : CP.cl s k = FC.cls ((s[k].toNat : Nat) : Int) := by unfold CP.cl; rw [CP.ch_at hks]
      rw [hcl] at hf
      have HC := Lib.hid (class_any ((s[k].toNat : Nat) : Int) g wr (HL.out _ hb))
      obtain ⟨c, hc⟩ : ∃ c, FC.cls ((s[k].toNat : Nat) : Int) = c := ⟨_, rfl⟩
      rw [hc] at hf HC
      obtain ⟨kk, hkk⟩ : ∃ kk, K.getD k 0 = kk := ⟨_, rfl⟩
      obtain ⟨dd, hdd⟩ : ∃ dd, D.getD k 0 = dd := ⟨_, rfl⟩
      rw [hkk] at hf x1
      rw [hdd] at hf x2
      have hh : (List.range (k + 1)).map (OP.levelAt s) = (List.range k).map (OP.levelAt s) ++ [OP.levelAt s k] := by rw [List.range_succ, List.map_append]; rfl
      have hlk : ((List.range k).map (OP.levelAt s)).length = k := by simp
      have hrep : List.replicate (n - k) (0 : Int) = 0 :: List.replicate (n - (k + 1)) 0 := by rw [← List.replicate_succ]; congr 1; omega
      rw [hrep] at hrow
      rw [hf] at hh
      have HH := Lib.hid hh
      have HK := Lib.hid hlk
      generalize (List.range k).map (OP.levelAt s) = A at hrow HH HK
      generalize hR : List.replicate (n - (k + 1)) (0 : Int) = R at hrow
      have HR := Lib.hid hR
      have HROW := Lib.hid hrow
      have HKP := Lib.hid hkp
      have HBB := Lib.hid hb
      have HOKR := Lib.hid hokr
      have HX : Hid (∀ V, Below wr.heap.size wr V → V.cell? ⟨kg, k, none⟩ = some (.int .i64 kk) ∧ V.cell? ⟨dg, k, none⟩ = some (.int .i64 dd)) := Lib.hid fun V hV => ⟨(hV.cell (World.block_lt_of_cell? _ _ x1)).trans x1, (hV.cell (World.block_lt_of_cell? _ _ x2)).trans x2⟩
      clear hR hh hlk hrep hf hcl hc hkk hdd hokr hodr hrow hkp hb hwne x1
      by_cases hc1 : c = 1
      · have hc1b : (c == 1) = true := by simp [hc1]
        have HC1 := Lib.hid hc1
        clear hc1
        go_wp2_with fail
        refine HC.out.mono ?_
        rintro e w5 ⟨rfl, hb5⟩
        obtain ⟨x1, x2'⟩ := HX.out w5 hb5
        have HB5 := Lib.hid hb5
        clear hb5 x2 x2'
        go_wp2_with fail
        refine (olevel_any _ _ _ _).mono ?_
        rintro e w6 ⟨rfl, he⟩
        have he' := he.symm
        subst he'
        have hrow3 := own_below HROW.out HB5.out
        have hcell := hrow3.cellAt k (by omega)
        have hfr := hrow3.frozenAt k
        obtain ⟨hst, hgr⟩ := hrow3.stored k (.int .i64 (OP.lv b kk b))
        have HST := Lib.hid hst
        have HKP2 := Lib.hid (((HKP.out.below HB5.out).row hgr : KpR (.slice (some ⟨w2.heap.size, 0, none⟩) n n) w4 (w5.setCell ⟨w2.heap.size, k, none⟩ (.int .i64 (OP.lv b kk b)))))
        have HB6 := Lib.hid (bset (bnext HBB.out HB5.out) (p := ⟨w2.heap.size, k, none⟩) (by show w.heap.size ≤ w2.heap.size; exact HB2.out.size) (.int .i64 (OP.lv b kk b)))
        rw [show ((A ++ 0 :: R).map (Value.int .i64))[k]? = some (.int .i64 0) by rw [← HK.out]; simp] at hcell
        clear hst hgr hrow3 x1
        go_wp2_with fail
        go_roundw
        case rel =>
          refine ⟨k + 1, by go_num, h1, ?_, HKP2.out, HB6.out⟩
          have h2 := HST.out
          have h3 := set_mid A R 0 (OP.lv b kk b)
          rw [HK.out] at h3
          rw [h3] at h2
          rw [HH.out, HR.out, if_pos HC1.out]
          exact h2
        case measure => simp [intOf]; omega
      · have hc1b : (c == 1) = false := by simp [hc1]
        have HC1 := Lib.hid hc1
        clear hc1
        go_wp2_with fail
        refine HC.out.mono ?_
        rintro e w5 ⟨rfl, hb5⟩
        obtain ⟨x1, x2'⟩ := HX.out w5 hb5
        have HB5 := Lib.hid hb5
        clear hb5 x2 x2'
        go_wp2_with fail
        refine (olevel_any _ _ _ _).mono ?_
        rintro e w6 ⟨rfl, he⟩
        have he' := he.symm
        subst he'
        have hrow3 := own_below HROW.out HB5.out
        have hcell := hrow3.cellAt k (by omega)
        have hfr := hrow3.frozenAt k
        obtain ⟨hst, hgr⟩ := hrow3.stored k (.int .i64 (OP.lv b kk dd))
        have HST := Lib.hid hst
        have HKP2 := Lib.hid (((HKP.out.below HB5.out).row hgr : KpR (.slice (some ⟨w2.heap.size, 0, none⟩) n n) w4 (w5.setCell ⟨w2.heap.size, k, none⟩ (.int .i64 (OP.lv b kk dd)))))
        have HB6 := Lib.hid (bset (bnext HBB.out HB5.out) (p := ⟨w2.heap.size, k, none⟩) (by show w.heap.size ≤ w2.heap.size; exact HB2.out.size) (.int .i64 (OP.lv b kk dd)))
        rw [show ((A ++ 0 :: R).map (Value.int .i64))[k]? = some (.int .i64 0) by rw [← HK.out]; simp] at hcell
        clear hst hgr hrow3 x1
        go_wp2_with fail
        go_roundw
        case rel =>
          refine ⟨k + 1, by go_num, h1, ?_, HKP2.out, HB6.out⟩
          have h2 := HST.out
          have h3 := set_mid A R 0 (OP.lv b kk dd)
          rw [HK.out] at h3
          rw [h3] at h2
          rw [HH.out, HR.out, if_neg HC1.out]
          exact h2
        case measure => simp [intOf]; omega
    · obtain rfl : n = k := by omega
      rw [Nat.sub_self, List.replicate_zero, List.append_nil] at hrow
      have HROW := Lib.hid hrow
      have HBB := Lib.hid hb
      clear hrow hkp hb
      go_wp2
      go_ret
      exact ⟨_, rfl, by rw [HLV.out]; exact own_base HROW.out HB2.out.size, HBB.out⟩
end Go.Proofs.YtbgmbcngkmlfeaaDoor
