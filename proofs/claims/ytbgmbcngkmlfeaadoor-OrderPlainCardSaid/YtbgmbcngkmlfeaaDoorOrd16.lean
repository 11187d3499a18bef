/- The levels of the reference. No conditions. -/
import Derived.Test.YtbgmbcngkmlfeaaDoorOrd15
namespace Go.Proofs.YtbgmbcngkmlfeaaDoor.OP
theorem res_bd : ∀ (last : Int) (K : List Int), (last = 1 ∨ last = 2) → ∀ x ∈ res last K, x = 0 ∨ x = 1 ∨ x = 2
  | _, [], _, x, h => by cases h
  | last, k :: K, hl, x, h => by
    unfold res at h
    split at h
    · rename_i hk
      rcases List.mem_cons.1 h with rfl | h
      · omega
      · exact res_bd k K hk x h
    · rcases List.mem_cons.1 h with rfl | h
      · split <;> omega
      · exact res_bd last K hl x h
theorem fil_bd {b : Int} (hb : b = 1 ∨ b = 2) : ∀ (R : List Int) (prev : Int), (prev = 1 ∨ prev = 2) → (∀ x ∈ R, x = 0 ∨ x = 1 ∨ x = 2) → ∀ x ∈ fil b prev R, x = 1 ∨ x = 2
  | [], _, _, _, x, h => by cases h
  | r :: R, prev, hp, hR, x, h => by
    have hr := hR r (by simp)
    have hR' : ∀ x ∈ R, x = 0 ∨ x = 1 ∨ x = 2 := fun y hy => hR y (by simp [hy])
    unfold fil at h
    split at h
    · rcases List.mem_cons.1 h with rfl | h
      · split <;> assumption
      · exact fil_bd hb R prev hp hR' x h
    · rename_i h0
      rcases List.mem_cons.1 h with rfl | h
      · omega
      · exact fil_bd hb R r (by omega) hR' x h
theorem dirs_bd {b : Int} (hb : b = 1 ∨ b = 2) (K : List Int) : ∀ x ∈ dirs b K, x = 1 ∨ x = 2 := fil_bd hb _ b hb (res_bd b K hb)
theorem rdirs_len (s : ByteArray) (b : Int) (K : List Int) : (rdirs s b K).length = K.length := by rw [rdirs, ov_len, dirs_len]
theorem rdirs_get {s : ByteArray} {b : Int} {K : List Int} {i : Nat} (h : i < K.length) : (rdirs s b K)[i]? = some (if CP.cl s i = 1 then b else (dirs b K).getD i 0) := by
  unfold rdirs
  rw [ov_get (by rw [dirs_len]; exact h)]
  by_cases hc : CP.cl s i = 1
  · rw [if_pos ⟨h, hc⟩, if_pos hc]
  · rw [if_neg (fun e => hc e.2), if_neg hc]
theorem rd_bd {s : ByteArray} {b : Int} (hb : b = 1 ∨ b = 2) {K : List Int} {i : Nat} {d : Int} (h : (rdirs s b K)[i]? = some d) : d = 1 ∨ d = 2 := by
  have hi : i < K.length := by have := (List.getElem?_eq_some_iff.1 h).1; rwa [rdirs_len] at this
  rw [rdirs_get hi] at h
  have h := Option.some.inj h
  rw [← h]
  split
  · exact hb
  · refine dirs_bd hb K _ ?_
    have hl : i < (dirs b K).length := by rw [dirs_len]; exact hi
    simp [List.getD, List.getElem?_eq_getElem hl]
end Go.Proofs.YtbgmbcngkmlfeaaDoor.OP
namespace Go.Proofs.YtbgmbcngkmlfeaaDoor
set_option maxRecDepth 100000
set_option linter.unusedVariables false
open Go.RowKit Go.Shelf Go.Deep
set_option maxHeartbeats 8000000 in
theorem rlevels7_any (s : ByteArray) (w : World) (hs : s.size ≤ 1000000000) :
    Calls Tryd.prog 15 #[.string s] w fun e W' => ∃ v', e = .returned v' ∧ W'.ownsRow w.heap.size 3 1 v' s.size ((OP.levels s).map (Value.int .i64)) ∧ Below w.heap.size w W' := by
  obtain ⟨i0, hi0, hz0, hz1, hz2⟩ := info_parts info_int
  have HKD := Lib.hid (rkinds_any s w hs)
  have HDR := Lib.hid fun V => rdirections_any s V hs
  have HBS := Lib.hid fun V => rbase7_any s V hs
  have HKN := Lib.hid (OP.kinds_len s)
  have HF : Hid (∀ k, OP.levelAt s k = OP.lv (OP.bse s) ((OP.kinds s).getD k 0) (if CP.cl s k = 1 then OP.bse s else (OP.dirs (OP.bse s) (OP.kinds s)).getD k 0)) := Lib.hid fun k => rfl
  have HT : Hid (∀ k, k < s.size → (OP.levels s).take (k + 1) = (OP.levels s).take k ++ [OP.levelAt s k]) := Lib.hid fun k hk => by rw [List.take_add_one, OP.levels_get hk]; rfl
  have HLL := Lib.hid (OP.levels_len s)
  obtain ⟨b, hb⟩ : ∃ b, OP.bse s = b := ⟨_, rfl⟩
  have hb12 : b = 1 ∨ b = 2 := by rw [← hb]; exact OP.fb_bd _
  rw [hb] at HDR HBS HF
  obtain ⟨K, hK⟩ : ∃ K, OP.kinds s = K := ⟨_, rfl⟩
  rw [hK] at HKD HDR HKN HF
  have HDG : Hid (∀ i, i < K.length → (OP.rdirs s b K)[i]? = some (if CP.cl s i = 1 then b else (OP.dirs b K).getD i 0)) := Lib.hid fun i hi => OP.rdirs_get hi
  have HDB : Hid (∀ (i : Nat) (d : Int), (OP.rdirs s b K)[i]? = some d → d = 1 ∨ d = 2) := Lib.hid fun i d h => OP.rd_bd hb12 h
  have HDN := Lib.hid (OP.rdirs_len s b K)
  obtain ⟨n, hn⟩ : ∃ n, s.size = n := ⟨_, rfl⟩
  rw [hn] at HKD HDR HKN hs HT HLL ⊢
  obtain ⟨D, hD⟩ : ∃ D, OP.rdirs s b K = D := ⟨_, rfl⟩
  rw [hD] at HDR HDG HDB HDN
  obtain ⟨L, hL⟩ : ∃ L, OP.levels s = L := ⟨_, rfl⟩
  rw [hL] at HT HLL ⊢
  clear hb hK hn hD hL
  go_enter Tryd.func15, Tryd.ntmps15
  go_wp2_with fail
  refine HKD.out.mono ?_
  rintro e w1 ⟨vk, rfl, hok, hb1⟩
  obtain ⟨ka, kc, rfl⟩ := own_shape hok
  have HOK := Lib.hid hok
  have HB1 := Lib.hid hb1
  clear hok hb1 HKD
  go_wp2_with fail
  refine (HDR.out _).mono ?_
  rintro e w2 ⟨vd, rfl, hod, hb2⟩
  obtain ⟨da, dc, rfl⟩ := own_shape hod
  have HOK2 := Lib.hid (own_below HOK.out hb2)
  have HOD := Lib.hid hod
  have HB2 := Lib.hid (bnext HB1.out hb2)
  clear hod hb2 HDR HOK HB1
  go_wp2_with fail
  refine (HBS.out _).mono ?_
  rintro e w3 ⟨rfl, hb3⟩
  have HOK3 := Lib.hid (own_below HOK2.out hb3)
  have HOD3 := Lib.hid (own_below HOD.out hb3)
  have HB3 := Lib.hid (bnext HB2.out hb3)
  clear hb3 HBS HOK2 HOD HB2
  go_wp2_with fail
  go_loopw [6, 7] (fun v6 v7 wr => ∃ i : Nat, v7 = .int .i64 (i : Int) ∧ i ≤ n ∧ wr.ownsRow w3.heap.size 3 1 v6 i ((L.take i).map (Value.int .i64)) ∧ Below w3.heap.size w3 wr) (fun _ v _ => n - (intOf v).toNat)
  case atStart => exact ⟨0, rfl, Nat.zero_le _, World.ownsRow_nil _ _ _ _, Below.refl _ _⟩
  case round =>
    obtain ⟨i, rfl, hi, hrow, hbw⟩ := hrel
    by_cases hin : i < n
    · have hii : (i : Int) < (n : Int) := by omega
      have hi00 : (0 : Int) ≤ (i : Int) := by omega
      have hkr := own_below HOK3.out hbw
      have hdr := own_below HOD3.out hbw
      obtain ⟨kg, kcap, e, -, -, -⟩ := own_at hkr (by omega)
      injection e with e _ e2
      subst e e2
      obtain ⟨dg, dcap, e, -, -, -⟩ := own_at hdr (by omega)
      injection e with e _ e2
      subst e e2
      obtain ⟨k, hk⟩ : ∃ k, K[i]? = some k := ⟨K[i]'(by rw [HKN.out]; exact hin), List.getElem?_eq_getElem _⟩
      obtain ⟨d, hd⟩ : ∃ d, D[i]? = some d := ⟨D[i]'(by rw [HDN.out, HKN.out]; exact hin), List.getElem?_eq_getElem _⟩
      have hd12 := HDB.out i d hd
      have hg := HDG.out i (by rw [HKN.out]; exact hin)
      rw [hd] at hg
      have hk2 : K.getD i 0 = k := by simp [List.getD, hk]
      have hf : OP.levelAt s i = OP.lv b k d := by rw [HF.out, hk2, ← Option.some.inj hg]
      have ht := HT.out i hin
      rw [hf] at ht
      have c1 := own_at? hkr hin hk
      have c2 := own_at? hdr hin hd
      have HTT := Lib.hid ht
      have hwsz := hbw.size
      clear hk hd hg hk2 hf ht hkr hdr
      rcases hd12 with rfl | rfl
      · rcases hb12 with rfl | rfl
        · have hl : Hid (OP.lv 1 k 1 = 0) := Lib.hid (by simp [OP.lv])
          go_wp2_with (at_builtin; refine wpList_append_own_at _ rfl _ _ 26 rfl w3.heap.size 3 i0 (.int .i64 0) 1 8 Tryd.underlying26 hi0 hz0 hz1 hz2 rfl (by decide) _ _ _ rfl (hrow.alloc _) ⟨wr.heap.size, 0, none⟩ 1 1 [.int .i64 0] rfl rfl (cell_one_new wr _ _) (by simp [Value.oneCell']) (by unfold maxLen; omega) (by omega) (by simp; omega) ?_; intro v' w6 hown hgrow _ _; obtain ⟨g5, cap5, rfl⟩ := ownsRow_succ hown)
          go_roundw
          case rel => exact ⟨i + 1, by go_num, hin, by rw [HTT.out, hl.out, List.map_append]; exact hown, span_app hrow hbw hgrow⟩
          case measure => simp [intOf]; omega
        · have hl : Hid (OP.lv 2 k 1 = 2) := Lib.hid (by simp [OP.lv])
          go_wp2_with (at_builtin; refine wpList_append_own_at _ rfl _ _ 26 rfl w3.heap.size 3 i0 (.int .i64 0) 1 8 Tryd.underlying26 hi0 hz0 hz1 hz2 rfl (by decide) _ _ _ rfl (hrow.alloc _) ⟨wr.heap.size, 0, none⟩ 1 1 [.int .i64 2] rfl rfl (cell_one_new wr _ _) (by simp [Value.oneCell']) (by unfold maxLen; omega) (by omega) (by simp; omega) ?_; intro v' w6 hown hgrow _ _; obtain ⟨g5, cap5, rfl⟩ := ownsRow_succ hown)
          go_roundw
          case rel => exact ⟨i + 1, by go_num, hin, by rw [HTT.out, hl.out, List.map_append]; exact hown, span_app hrow hbw hgrow⟩
          case measure => simp [intOf]; omega
      · by_cases hk3 : k = 3
        · subst hk3
          have hl : Hid (OP.lv b 3 2 = 2) := Lib.hid (by simp [OP.lv])
          go_wp2_with (at_builtin; refine wpList_append_own_at _ rfl _ _ 26 rfl w3.heap.size 3 i0 (.int .i64 0) 1 8 Tryd.underlying26 hi0 hz0 hz1 hz2 rfl (by decide) _ _ _ rfl (hrow.alloc _) ⟨wr.heap.size, 0, none⟩ 1 1 [.int .i64 2] rfl rfl (cell_one_new wr _ _) (by simp [Value.oneCell']) (by unfold maxLen; omega) (by omega) (by simp; omega) ?_; intro v' w6 hown hgrow _ _; obtain ⟨g5, cap5, rfl⟩ := ownsRow_succ hown)
          go_roundw
          case rel => exact ⟨i + 1, by go_num, hin, by rw [HTT.out, hl.out, List.map_append]; exact hown, span_app hrow hbw hgrow⟩
          case measure => simp [intOf]; omega
        · have hk3b : (k != 3) = true := by simp [hk3]
          have hk3c : (k == 3) = false := by simp [hk3]
          have hl : Hid (OP.lv b k 2 = 1) := Lib.hid (by simp [OP.lv, hk3])
          go_wp2_with (at_builtin; refine wpList_append_own_at _ rfl _ _ 26 rfl w3.heap.size 3 i0 (.int .i64 0) 1 8 Tryd.underlying26 hi0 hz0 hz1 hz2 rfl (by decide) _ _ _ rfl (hrow.alloc _) ⟨wr.heap.size, 0, none⟩ 1 1 [.int .i64 1] rfl rfl (cell_one_new wr _ _) (by simp [Value.oneCell']) (by unfold maxLen; omega) (by omega) (by simp; omega) ?_; intro v' w6 hown hgrow _ _; obtain ⟨g5, cap5, rfl⟩ := ownsRow_succ hown)
          go_roundw
          case rel => exact ⟨i + 1, by go_num, hin, by rw [HTT.out, hl.out, List.map_append]; exact hown, span_app hrow hbw hgrow⟩
          case measure => simp [intOf]; omega
    · obtain rfl : n = i := by omega
      rw [List.take_of_length_le (Nat.le_of_eq HLL.out)] at hrow
      have HROW := Lib.hid hrow
      clear hrow
      go_wp2
      go_ret
      exact ⟨_, rfl, own_base HROW.out HB3.out.size, bnext HB3.out hbw⟩
end Go.Proofs.YtbgmbcngkmlfeaaDoor
