/- The contract of the reference's Text: a short text. -/
import Derived.Test.YtkacbmimmnlhlaaDoorCluFactsL
namespace Go.Proofs.YtkacbmimmnlhlaaDoor
set_option linter.unusedVariables false
open Go.RowKit Go.Shelf
set_option maxRecDepth 100000 in
set_option maxHeartbeats 1000000 in
theorem pools_any (k : Nat) (hk : k < 8) (w : World) :
    Calls Tryd.prog 24 #[.int .i64 k] w fun e W' => ∃ p : ByteArray, e = .returned (.string p) ∧ (0 < p.size ∧ p.size ≤ 100) ∧ Below w.heap.size w W' := by
  have hc : k = 0 ∨ k = 1 ∨ k = 2 ∨ k = 3 ∨ k = 4 ∨ k = 5 ∨ k = 6 ∨ k = 7 := by omega
  rcases hc with rfl | rfl | rfl | rfl | rfl | rfl | rfl | rfl
  all_goals
    go_enter Tryd.func24, Tryd.ntmps24
    go_wp2
    go_ret
    exact ⟨_, rfl, by decide, balloc (Below.refl _ _) _⟩
theorem conv_row (W : World) {B e n : Nat} {v : Value} (L : List Int) (h : W.ownsRow B e 1 v n (L.map (Value.int .u8))) : ∃ t : ByteArray, Sem.run Tryd.prog (convert 46 9 v) W = .ok (.string t) W ∧ t.size = L.length := by
  have hn : n = L.length := by have := h.1; simpa using this.symm
  have hf : ∀ (l : List Int) (r : ByteArray), (l.foldl (fun r n => r.push (UInt8.ofNat n.toNat)) r).size = r.size + l.length := by
    intro l
    induction l with
    | nil => intro r; rfl
    | cons a l ih => intro r; rw [List.foldl_cons, ih, ByteArray.size_push]; simp; omega
  rcases h.2 with ⟨rfl, hn0⟩ | ⟨g, cap, cur, rfl, _⟩
  · refine ⟨ByteArray.empty, ?_, by rw [← hn, hn0]; rfl⟩
    rw [run_convert_bytes_string (P := Tryd.prog) W 46 9 5 none 0 0 Tryd.underlying46 Tryd.underlying5 Tryd.underlying9]
    rfl
  · have hl := run_loadCells_list (P := Tryd.prog) W ⟨g, 0, none⟩ (L.map (Value.int .u8)) (h.cells (g := g) rfl)
    rw [List.length_map, ← hn] at hl
    refine ⟨_, (run_convert_bytes_string (P := Tryd.prog) W 46 9 5 _ _ _ Tryd.underlying46 Tryd.underlying5 Tryd.underlying9).trans (run_bytesToString W ⟨g, 0, none⟩ n cap L hl), ?_⟩
    rw [hf]; simp
set_option maxRecDepth 100000 in
set_option maxHeartbeats 4000000 in
theorem text_any (v : Value) (U : List Int) (n : Nat) (w : World) (hv : RowAt w v (U.map (Value.int .i64))) (hE : ∀ x ∈ U, -9223372036854775808 ≤ x ∧ x ≤ 9223372036854775807) (hU : U.length ≤ maxLen) (hn : n ≤ 1000) :
    Calls Tryd.prog 10 #[v, .int .i64 n] w fun e W' => ∃ t : ByteArray, e = .returned (.string t) ∧ t.size ≤ n ∧ Below w.heap.size w W' := by
  obtain ⟨i0, hi, hz0, hz1, hz2⟩ := info_parts info_byte
  obtain ⟨ao, ac, rfl, hr⟩ := hv
  rw [List.length_map]
  unfold maxLen at hU
  go_enter Tryd.func10, Tryd.ntmps10
  go_wp2
  go_loopw [5, 6] (fun v5 v6 wr => ∃ (L : List Int) (k : Nat), v6 = .int .i64 k ∧ k ≤ U.length ∧ k ≤ n ∧ L.length = k ∧ wr.ownsRow w.heap.size 5 1 v5 k (L.map (Value.int .u8)) ∧ Below w.heap.size w wr) (fun _ v _ => n - (intOf v).toNat)
  case atStart => exact ⟨[], 0, rfl, Nat.zero_le _, Nat.zero_le _, rfl, World.ownsRow_nil _ _ _ _, Below.refl _ _⟩
  case round =>
    obtain ⟨L, k, rfl, hk, hkn, hL, hrow, hb⟩ := hrel
    have hbs := hb.size
    by_cases h1 : k < U.length
    · have h1i : (k : Int) < (U.length : Int) := by omega
      by_cases h2 : k < n
      · have h2i : (k : Int) < (n : Int) := by omega
        obtain ⟨x, hx⟩ : ∃ x, U[k]? = some x := ⟨U[k], List.getElem?_eq_getElem h1⟩
        have hxE := hE x (List.mem_of_getElem? hx)
        rcases hr with hr | ⟨g, o, rfl, hg, hc⟩
        · simp at hr; subst hr; simp at h1
        · have c1 := hc k (by simpa using h1)
          rw [show ((U.map (Value.int .i64)).getD k (.bool false)) = .int .i64 x by simp [List.getD, hx]] at c1
          replace c1 := (hb.cell (p := ⟨g, o + k, none⟩) hg).trans c1
          have HC := Lib.hid hc
          have HE := Lib.hid hE
          clear hc hE hx
          obtain ⟨m, hm⟩ : ∃ m : Nat, (m : Int) = if x < 0 then -(x + 1) else x := by
            split
            · exact ⟨(-(x + 1)).toNat, by omega⟩
            · exact ⟨x.toNat, by omega⟩
          have q8 : (m : Int).tmod 8 = ((m % 8 : Nat) : Int) := by rw [Int.tmod_eq_emod_of_nonneg (by omega)]; omega
          obtain ⟨j, hj, hj8⟩ : ∃ j : Nat, m % 8 = j ∧ j < 8 := ⟨_, rfl, Nat.mod_lt _ (by omega)⟩
          rw [hj] at q8
          have HP := Lib.hid fun (W : World) => pools_any j hj8 W
          by_cases hx0 : x < 0
          · rw [if_pos hx0] at hm
            have hm1 : -(x + 1) = (m : Int) := hm.symm
            clear hm hj
            go_wp2_with fail
            refine (HP.out _).mono ?_
            rintro e w2 ⟨p, rfl, ⟨hp0, hp1⟩, hb2⟩
            have qd : (m : Int).tdiv 8 = ((m / 8 : Nat) : Int) := by rw [Int.tdiv_eq_ediv_of_nonneg (by omega)]; omega
            obtain ⟨d, hd, hdm⟩ : ∃ d : Nat, m / 8 = d ∧ d ≤ m := ⟨_, rfl, Nat.div_le_self _ _⟩
            rw [hd] at qd
            have qd2 : (m : Int) / 8 = (d : Int) := by omega
            obtain ⟨q, hq, hqp⟩ : ∃ q : Nat, d % p.size = q ∧ q < p.size := ⟨_, rfl, Nat.mod_lt _ hp0⟩
            have qm : (d : Int).tmod (p.size : Int) = (q : Int) := by rw [Int.tmod_eq_emod_of_nonneg (by omega), ← hq]; rfl
            have hqi : (q : Int) < (p.size : Int) := by omega
            have hp0i : (0 : Int) < (p.size : Int) := by omega
            have hbu : (p[q].toNat : Int) ≤ 255 := by have := p[q].toNat_lt; omega
            have hb3 := bnext hb hb2
            have hrow2 := own_below hrow hb2
            have HB3 := Lib.hid hb3
            have hbs3 := hb3.size
            clear hq hd hdm hb2 hb3 HP
            go_wp2_with (at_builtin; refine wpList_append_own _ rfl _ _ 46 rfl w.heap.size 5 i0 (.int .u8 0) 1 1 Tryd.underlying46 hi hz0 hz1 hz2 rfl (by decide) _ _ _ rfl (hrow2.alloc _) ⟨w2.heap.size, 0, none⟩ 1 1 [.int .u8 (p[q].toNat : Int)] rfl rfl (cell_one_new w2 _ _) (by simp [Value.oneCell']) (by unfold maxLen; omega) (by omega) (by simp; omega) ?_; intro v' w3 hown' hgrow _; obtain ⟨g3, cap', rfl⟩ := ownsRow_succ hown')
            go_roundw
            case rel => exact ⟨L ++ [(p[q].toNat : Int)], k + 1, by go_num, h1, h2, by simp [hL], by simpa using hown', span_app hrow2 HB3.out hgrow⟩
            case measure => simp [intOf]; omega
          · rw [if_neg hx0] at hm
            obtain rfl : x = (m : Int) := hm.symm
            clear hm hj
            go_wp2_with fail
            refine (HP.out _).mono ?_
            rintro e w2 ⟨p, rfl, ⟨hp0, hp1⟩, hb2⟩
            have qd : (m : Int).tdiv 8 = ((m / 8 : Nat) : Int) := by rw [Int.tdiv_eq_ediv_of_nonneg (by omega)]; omega
            obtain ⟨d, hd, hdm⟩ : ∃ d : Nat, m / 8 = d ∧ d ≤ m := ⟨_, rfl, Nat.div_le_self _ _⟩
            rw [hd] at qd
            have qd2 : (m : Int) / 8 = (d : Int) := by omega
            obtain ⟨q, hq, hqp⟩ : ∃ q : Nat, d % p.size = q ∧ q < p.size := ⟨_, rfl, Nat.mod_lt _ hp0⟩
            have qm : (d : Int).tmod (p.size : Int) = (q : Int) := by rw [Int.tmod_eq_emod_of_nonneg (by omega), ← hq]; rfl
            have hqi : (q : Int) < (p.size : Int) := by omega
            have hp0i : (0 : Int) < (p.size : Int) := by omega
            have hbu : (p[q].toNat : Int) ≤ 255 := by have := p[q].toNat_lt; omega
            have hb3 := bnext hb hb2
            have hrow2 := own_below hrow hb2
            have HB3 := Lib.hid hb3
            have hbs3 := hb3.size
            clear hq hd hdm hb2 hb3 HP
            go_wp2_with (at_builtin; refine wpList_append_own _ rfl _ _ 46 rfl w.heap.size 5 i0 (.int .u8 0) 1 1 Tryd.underlying46 hi hz0 hz1 hz2 rfl (by decide) _ _ _ rfl (hrow2.alloc _) ⟨w2.heap.size, 0, none⟩ 1 1 [.int .u8 (p[q].toNat : Int)] rfl rfl (cell_one_new w2 _ _) (by simp [Value.oneCell']) (by unfold maxLen; omega) (by omega) (by simp; omega) ?_; intro v' w3 hown' hgrow _; obtain ⟨g3, cap', rfl⟩ := ownsRow_succ hown')
            go_roundw
            case rel => exact ⟨L ++ [(p[q].toNat : Int)], k + 1, by go_num, h1, h2, by simp [hL], by simpa using hown', span_app hrow2 HB3.out hgrow⟩
            case measure => simp [intOf]; omega
      · have h2i : ¬ (k : Int) < (n : Int) := by omega
        obtain ⟨t, ht, hts⟩ := conv_row wr L hrow
        clear hr hE
        go_wp2
        go_ret
        exact ⟨t, rfl, by omega, hb⟩
    · have h1i : ¬ (k : Int) < (U.length : Int) := by omega
      obtain ⟨t, ht, hts⟩ := conv_row wr L hrow
      clear hr hE
      go_wp2
      go_ret
      exact ⟨t, rfl, by omega, hb⟩
end Go.Proofs.YtkacbmimmnlhlaaDoor
