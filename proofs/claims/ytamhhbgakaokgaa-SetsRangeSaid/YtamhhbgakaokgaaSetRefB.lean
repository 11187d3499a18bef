/- The reference's sets: With, Norm, Join, Meet, Less. -/
import Derived.Test.YtamhhbgakaokgaaSetRef
namespace Go.Proofs.Ytamhhbgakaokgaa
open Go.RowKit
theorem iv_len (L : List Int) : (iv L).length = L.length := by simp
theorem src_iv {w : World} {a : Option Addr} {n cap : Nat} {L : List Int} (h : Src w (.slice a n cap) (iv L)) : n = L.length := by
  obtain ⟨a', c', he, _⟩ := h.out
  injection he with h1 h2 h3
  rw [h2, iv_len]
theorem own_iv {w : World} {B e n : Nat} {v : Value} {xs : List Value} (h : w.ownsRow B e 1 v n xs) (M : List Int) (hx : xs = iv M) : w.ownsRow B e 1 v M.length (iv M) := by
  subst hx
  have := h.1
  obtain rfl : n = M.length := by simpa using this.symm
  exact h
theorem own_cap {w : World} {B e n cap : Nat} {a : Option Addr} {xs : List Value} (h : w.ownsRow B e 1 (.slice a n cap) n xs) : n ≤ cap := by
  rcases h.2 with ⟨h1, h2⟩ | ⟨g, cap', cur, h1, _, _, h2, _⟩
  · omega
  · injection h1 with _ _ h3; omega
set_option maxRecDepth 100000 in
set_option maxHeartbeats 1000000 in
theorem with_any (a : Option Addr) (cap : Nat) (L : List Int) (n : Int) (w : World) (hv : Src w (.slice a L.length cap) (iv L)) (hcap : L.length ≤ cap) (hL : L.length ≤ 1000000000) :
    Calls Try.prog 30 #[.slice a L.length cap, .int .i64 n] w fun e w' => ∃ a' cap', e = .returned (.slice a' (SP.put n L).length cap') ∧ Src w' (.slice a' (SP.put n L).length cap') (iv (SP.put n L)) ∧ (SP.put n L).length ≤ cap' ∧ Below w.heap.size w w' := by
  have HS := Lib.hid hv
  clear hv
  go_enter Try.func30, Try.ntmps30
  go_wp2
  go_loop [5] (fun i => ∃ k : Nat, k ≤ L.length ∧ i = .int .i64 k ∧ Hid (∀ i (h : i < L.length), i < k → L[i] < n)) (fun i => L.length - (intOf i).toNat)
  case atStart => exact ⟨0, Nat.zero_le _, rfl, Lib.hid (fun i _ h => by omega)⟩
  case round =>
    obtain ⟨k, hk, rfl, hlow⟩ := hrel
    by_cases hkl : k < L.length
    · obtain ⟨g, o, rfl, hg, hc⟩ := HS.out.row.cell (k := k) (by simpa using hkl)
      simp only [List.getElem_map] at hc
      have HP := Lib.hid (SP.put_at n L k hk hlow.out)
      have HN : Hid (L[k] < n → ∀ i (h : i < L.length), i < k + 1 → L[i] < n) := Lib.hid (fun hx i hi hik => by
        rcases Nat.lt_or_ge i k with h | h
        · exact hlow.out i hi h
        · obtain rfl : i = k := by omega
          exact hx)
      obtain ⟨x, hx⟩ : ∃ x, L[k] = x := ⟨_, rfl⟩
      have HP2 : Hid (n ≤ x → SP.put n L = if x = n then L else L.take k ++ n :: L.drop k) := Lib.hid (fun h => by
        have := HP.out (fun _ => by rw [hx]; exact h)
        rw [dif_pos hkl, hx] at this
        exact this)
      rw [hx] at hc HN
      clear hx HP hlow
      have hki : (k : Int) < (L.length : Int) := by omega
      by_cases hxn : x < n
      · go_wp2
        go_round
        case rel => exact ⟨k + 1, by omega, by go_num, Lib.hid (HN.out hxn)⟩
        case measure => simp [intOf]; omega
      · by_cases hxe : x = n
        · have HP3 : Hid (SP.put n L = L) := Lib.hid (by rw [HP2.out (by omega), if_pos hxe])
          subst hxe
          clear HP2 HN
          go_wp2
          go_ret
          rw [HP3.out]
          exact ⟨_, _, rfl, HS.out, hcap, Below.refl _ _⟩
        · have HP3 : Hid (SP.put n L = L.take k ++ n :: L.drop k) := Lib.hid (by rw [HP2.out (by omega), if_neg hxe])
          have hb : (x == n) = false := by simpa using hxe
          clear HP2 HN
          obtain ⟨M, HM⟩ : ∃ M, Hid (M = n :: (L.drop k)) := ⟨_, Lib.hid rfl⟩
          obtain ⟨T, HT⟩ : ∃ T : List Int, Hid (T = (L.take k)) := ⟨_, Lib.hid rfl⟩
          have hMl : M.length ≤ 1000000001 := by rw [HM.out]; simp <;> omega
          have hTl : T.length ≤ 1000000000 := by rw [HT.out]; simp <;> omega
          obtain ⟨i0, hi, hz0, hz1, hz2⟩ := info_parts info_int
          go_wp2_with (at_builtin; refine wpList_app _ rfl _ _ 22 rfl w.heap.size 3 i0 (.int .i64 0) 8 Try.underlying22 hi hz0 hz1 hz2 rfl _ _ _ rfl (own_lit w [.int .i64 n] 3 _ (Nat.le_refl _) (by simp [maxLen])) _ ((iv L).drop k) rfl ((HS.out.drop (ao := _) (k := k) hk (by simp) (fun _ g' o' h => by cases h; rfl)).keep (balloc (Below.refl _ _) _)) (by first | (rw [← List.map_drop]; exact ints_one _) | simp) ?h1a ?h1b ?h1c ?_)
          try case h1a => unfold maxLen; first | omega | (simp <;> omega)
          try case h1b => first | omega | (simp <;> omega)
          try case h1c => first | exact Nat.le_refl _ | omega | (simp <;> omega)
          intro v1 w1 hown1 hgrow1 _
          have hb1 : Below w.heap.size w w1 := (balloc (Below.refl _ _) _).grown hgrow1 (by simp) (fun j hj => by cases hj; exact Nat.le_refl _)
          replace hown1 := own_iv hown1 M (by rw [HM.out]; simp)
          have hown1' := Lib.hid hown1
          obtain ⟨a1, c1, rfl⟩ := own_shape hown1
          clear hown1 hgrow1
          go_wp2_with (at_builtin; refine wpList_app _ rfl _ _ 22 rfl w1.heap.size 3 i0 (.int .i64 0) 8 Try.underlying22 hi hz0 hz1 hz2 rfl _ _ _ rfl (own_lit w1 [] 3 _ (Nat.le_refl _) (by simp)) _ ((iv L).take k) rfl ((HS.out.take hk).keep (balloc hb1 _)) (by first | (rw [← List.map_take]; exact ints_one _) | simp) ?h2a ?h2b ?h2c ?_)
          try case h2a => unfold maxLen; first | omega | (simp <;> omega)
          try case h2b => first | omega | (simp <;> omega)
          try case h2c => first | exact Nat.le_refl _ | omega | (simp <;> omega)
          intro v2 w2 hown2 hgrow2 _
          have hb2 : Below w1.heap.size w1 w2 := (balloc (Below.refl _ _) _).grown hgrow2 (by simp) (fun j hj => by cases hj; exact Nat.le_refl _)
          have hs1 := (own_src hown1'.out (by simp)).keep hb2
          replace hown2 := own_iv hown2 T (by rw [HT.out]; first | rfl | (simp only [List.nil_append, ← List.map_take]; done) | (simp only [List.nil_append, ← List.map_take, List.take_length]; done) | (rw [List.take_of_length_le (by simp)]; simp))
          obtain ⟨a2, c2, rfl⟩ := own_shape hown2
          have hsz2 := hb2.size
          go_wp2_with (at_builtin; refine wpList_app _ rfl _ _ 22 rfl w1.heap.size 3 i0 (.int .i64 0) 8 Try.underlying22 hi hz0 hz1 hz2 rfl _ _ _ rfl hown2 _ _ rfl hs1 (ints_one _) ?h3a ?h3b ?h3c ?_)
          try case h3a => unfold maxLen; first | omega | (simp <;> omega)
          try case h3b => first | omega | (simp <;> omega)
          try case h3c => first | exact Nat.le_refl _ | omega | (simp <;> omega)
          intro v3 w3 hown3 hgrow3 _
          have hb3 : Below w1.heap.size w1 w3 := hb2.grown hgrow3 (by have := hb2.size; omega) (fun j hj => (hown2.lt j hj).1)
          replace hown3 := own_iv hown3 (T ++ M) (by simp)
          have hs3 := own_src hown3 (by simp)
          obtain ⟨a3, c3, rfl⟩ := own_shape hown3
          have HS3 := Lib.hid hs3
          clear hs3 hown2 hs1
          go_wp2
          go_ret
          have HE : Hid (SP.put n L = T ++ M) := Lib.hid (by rw [HP3.out, HM.out, HT.out] <;> simp)
          rw [HE.out]
          exact ⟨_, _, rfl, HS3.out, own_cap hown3, bnext hb1 hb3⟩
    · have HP3 : Hid (SP.put n L = L.take k ++ n :: L.drop k) := Lib.hid (by
        have := SP.put_at n L k hk hlow.out (fun h => absurd h hkl)
        rw [dif_neg hkl] at this
        rw [this, List.take_of_length_le (by omega), List.drop_of_length_le (by omega)])
      clear hlow
      obtain rfl : k = L.length := by omega
      by_cases hL0 : L = []
      · subst hL0
        simp only [List.length_nil] at *
        rcases a with _ | p
        · obtain rfl : cap = 0 := by
            obtain ⟨a', c', he, h⟩ := HS.out.out
            injection he with h1 h2 h3
            subst h1 h3
            rcases h with ⟨h, h'⟩ | ⟨g, o, h, _⟩
            · exact h' rfl
            · cases h
          obtain ⟨M, HM⟩ : ∃ M, Hid (M = n :: []) := ⟨_, Lib.hid rfl⟩
          obtain ⟨T, HT⟩ : ∃ T : List Int, Hid (T = []) := ⟨_, Lib.hid rfl⟩
          have hMl : M.length ≤ 1000000001 := by rw [HM.out]; simp <;> omega
          have hTl : T.length ≤ 1000000000 := by rw [HT.out]; simp <;> omega
          obtain ⟨i0, hi, hz0, hz1, hz2⟩ := info_parts info_int
          go_wp2_with (at_builtin; refine wpList_app _ rfl _ _ 22 rfl w.heap.size 3 i0 (.int .i64 0) 8 Try.underlying22 hi hz0 hz1 hz2 rfl _ _ _ rfl (own_lit w [.int .i64 n] 3 _ (Nat.le_refl _) (by simp [maxLen])) _ (([] : List Value)) rfl (Src.emp _ (by simp)) (by first | (rw [← List.map_drop]; exact ints_one _) | simp) ?h4a ?h4b ?h4c ?_)
          try case h4a => unfold maxLen; first | omega | (simp <;> omega)
          try case h4b => first | omega | (simp <;> omega)
          try case h4c => first | exact Nat.le_refl _ | omega | (simp <;> omega)
          intro v1 w1 hown1 hgrow1 _
          have hb1 : Below w.heap.size w w1 := (balloc (Below.refl _ _) _).grown hgrow1 (by simp) (fun j hj => by cases hj; exact Nat.le_refl _)
          replace hown1 := own_iv hown1 M (by rw [HM.out]; simp)
          have hown1' := Lib.hid hown1
          obtain ⟨a1, c1, rfl⟩ := own_shape hown1
          clear hown1 hgrow1
          go_wp2_with (at_builtin; refine wpList_app _ rfl _ _ 22 rfl w1.heap.size 3 i0 (.int .i64 0) 8 Try.underlying22 hi hz0 hz1 hz2 rfl _ _ _ rfl (own_lit w1 [] 3 _ (Nat.le_refl _) (by simp)) _ ([] : List Value) rfl (Src.emp _ (by simp)) (by first | (rw [← List.map_take]; exact ints_one _) | simp) ?h5a ?h5b ?h5c ?_)
          try case h5a => unfold maxLen; first | omega | (simp <;> omega)
          try case h5b => first | omega | (simp <;> omega)
          try case h5c => first | exact Nat.le_refl _ | omega | (simp <;> omega)
          intro v2 w2 hown2 hgrow2 _
          have hb2 : Below w1.heap.size w1 w2 := (balloc (Below.refl _ _) _).grown hgrow2 (by simp) (fun j hj => by cases hj; exact Nat.le_refl _)
          have hs1 := (own_src hown1'.out (by simp)).keep hb2
          replace hown2 := own_iv hown2 T (by rw [HT.out]; first | rfl | (simp only [List.nil_append, ← List.map_take]; done) | (simp only [List.nil_append, ← List.map_take, List.take_length]; done) | (rw [List.take_of_length_le (by simp)]; simp))
          obtain ⟨a2, c2, rfl⟩ := own_shape hown2
          have hsz2 := hb2.size
          go_wp2_with (at_builtin; refine wpList_app _ rfl _ _ 22 rfl w1.heap.size 3 i0 (.int .i64 0) 8 Try.underlying22 hi hz0 hz1 hz2 rfl _ _ _ rfl hown2 _ _ rfl hs1 (ints_one _) ?h6a ?h6b ?h6c ?_)
          try case h6a => unfold maxLen; first | omega | (simp <;> omega)
          try case h6b => first | omega | (simp <;> omega)
          try case h6c => first | exact Nat.le_refl _ | omega | (simp <;> omega)
          intro v3 w3 hown3 hgrow3 _
          have hb3 : Below w1.heap.size w1 w3 := hb2.grown hgrow3 (by have := hb2.size; omega) (fun j hj => (hown2.lt j hj).1)
          replace hown3 := own_iv hown3 (T ++ M) (by simp)
          have hs3 := own_src hown3 (by simp)
          obtain ⟨a3, c3, rfl⟩ := own_shape hown3
          have HS3 := Lib.hid hs3
          clear hs3 hown2 hs1
          go_wp2
          go_ret
          have HE : Hid (SP.put n [] = T ++ M) := Lib.hid (by rw [HP3.out, HM.out, HT.out] <;> simp)
          rw [HE.out]
          exact ⟨_, _, rfl, HS3.out, own_cap hown3, bnext hb1 hb3⟩
        · by_cases hck : cap = 0
          · subst hck
            obtain ⟨M, HM⟩ : ∃ M, Hid (M = n :: []) := ⟨_, Lib.hid rfl⟩
            obtain ⟨T, HT⟩ : ∃ T : List Int, Hid (T = []) := ⟨_, Lib.hid rfl⟩
            have hMl : M.length ≤ 1000000001 := by rw [HM.out]; simp <;> omega
            have hTl : T.length ≤ 1000000000 := by rw [HT.out]; simp <;> omega
            obtain ⟨i0, hi, hz0, hz1, hz2⟩ := info_parts info_int
            go_wp2_with (at_builtin; refine wpList_app _ rfl _ _ 22 rfl w.heap.size 3 i0 (.int .i64 0) 8 Try.underlying22 hi hz0 hz1 hz2 rfl _ _ _ rfl (own_lit w [.int .i64 n] 3 _ (Nat.le_refl _) (by simp [maxLen])) _ (([] : List Value)) rfl (Src.emp _ (by simp)) (by first | (rw [← List.map_drop]; exact ints_one _) | simp) ?h7a ?h7b ?h7c ?_)
            try case h7a => unfold maxLen; first | omega | (simp <;> omega)
            try case h7b => first | omega | (simp <;> omega)
            try case h7c => first | exact Nat.le_refl _ | omega | (simp <;> omega)
            intro v1 w1 hown1 hgrow1 _
            have hb1 : Below w.heap.size w w1 := (balloc (Below.refl _ _) _).grown hgrow1 (by simp) (fun j hj => by cases hj; exact Nat.le_refl _)
            replace hown1 := own_iv hown1 M (by rw [HM.out]; simp)
            have hown1' := Lib.hid hown1
            obtain ⟨a1, c1, rfl⟩ := own_shape hown1
            clear hown1 hgrow1
            go_wp2_with (at_builtin; refine wpList_app _ rfl _ _ 22 rfl w1.heap.size 3 i0 (.int .i64 0) 8 Try.underlying22 hi hz0 hz1 hz2 rfl _ _ _ rfl (own_lit w1 [] 3 _ (Nat.le_refl _) (by simp)) _ ([] : List Value) rfl (Src.emp _ (by simp)) (by first | (rw [← List.map_take]; exact ints_one _) | simp) ?h8a ?h8b ?h8c ?_)
            try case h8a => unfold maxLen; first | omega | (simp <;> omega)
            try case h8b => first | omega | (simp <;> omega)
            try case h8c => first | exact Nat.le_refl _ | omega | (simp <;> omega)
            intro v2 w2 hown2 hgrow2 _
            have hb2 : Below w1.heap.size w1 w2 := (balloc (Below.refl _ _) _).grown hgrow2 (by simp) (fun j hj => by cases hj; exact Nat.le_refl _)
            have hs1 := (own_src hown1'.out (by simp)).keep hb2
            replace hown2 := own_iv hown2 T (by rw [HT.out]; first | rfl | (simp only [List.nil_append, ← List.map_take]; done) | (simp only [List.nil_append, ← List.map_take, List.take_length]; done) | (rw [List.take_of_length_le (by simp)]; simp))
            obtain ⟨a2, c2, rfl⟩ := own_shape hown2
            have hsz2 := hb2.size
            go_wp2_with (at_builtin; refine wpList_app _ rfl _ _ 22 rfl w1.heap.size 3 i0 (.int .i64 0) 8 Try.underlying22 hi hz0 hz1 hz2 rfl _ _ _ rfl hown2 _ _ rfl hs1 (ints_one _) ?h9a ?h9b ?h9c ?_)
            try case h9a => unfold maxLen; first | omega | (simp <;> omega)
            try case h9b => first | omega | (simp <;> omega)
            try case h9c => first | exact Nat.le_refl _ | omega | (simp <;> omega)
            intro v3 w3 hown3 hgrow3 _
            have hb3 : Below w1.heap.size w1 w3 := hb2.grown hgrow3 (by have := hb2.size; omega) (fun j hj => (hown2.lt j hj).1)
            replace hown3 := own_iv hown3 (T ++ M) (by simp)
            have hs3 := own_src hown3 (by simp)
            obtain ⟨a3, c3, rfl⟩ := own_shape hown3
            have HS3 := Lib.hid hs3
            clear hs3 hown2 hs1
            go_wp2
            go_ret
            have HE : Hid (SP.put n [] = T ++ M) := Lib.hid (by rw [HP3.out, HM.out, HT.out] <;> simp)
            rw [HE.out]
            exact ⟨_, _, rfl, HS3.out, own_cap hown3, bnext hb1 hb3⟩
          · obtain ⟨M, HM⟩ : ∃ M, Hid (M = n :: []) := ⟨_, Lib.hid rfl⟩
            obtain ⟨T, HT⟩ : ∃ T : List Int, Hid (T = []) := ⟨_, Lib.hid rfl⟩
            have hMl : M.length ≤ 1000000001 := by rw [HM.out]; simp <;> omega
            have hTl : T.length ≤ 1000000000 := by rw [HT.out]; simp <;> omega
            obtain ⟨i0, hi, hz0, hz1, hz2⟩ := info_parts info_int
            go_wp2_with (at_builtin; refine wpList_app _ rfl _ _ 22 rfl w.heap.size 3 i0 (.int .i64 0) 8 Try.underlying22 hi hz0 hz1 hz2 rfl _ _ _ rfl (own_lit w [.int .i64 n] 3 _ (Nat.le_refl _) (by simp [maxLen])) _ (([] : List Value)) rfl (Src.emp _ (by simp)) (by first | (rw [← List.map_drop]; exact ints_one _) | simp) ?h10a ?h10b ?h10c ?_)
            try case h10a => unfold maxLen; first | omega | (simp <;> omega)
            try case h10b => first | omega | (simp <;> omega)
            try case h10c => first | exact Nat.le_refl _ | omega | (simp <;> omega)
            intro v1 w1 hown1 hgrow1 _
            have hb1 : Below w.heap.size w w1 := (balloc (Below.refl _ _) _).grown hgrow1 (by simp) (fun j hj => by cases hj; exact Nat.le_refl _)
            replace hown1 := own_iv hown1 M (by rw [HM.out]; simp)
            have hown1' := Lib.hid hown1
            obtain ⟨a1, c1, rfl⟩ := own_shape hown1
            clear hown1 hgrow1
            go_wp2_with (at_builtin; refine wpList_app _ rfl _ _ 22 rfl w1.heap.size 3 i0 (.int .i64 0) 8 Try.underlying22 hi hz0 hz1 hz2 rfl _ _ _ rfl (own_lit w1 [] 3 _ (Nat.le_refl _) (by simp)) _ ([] : List Value) rfl (Src.emp _ (by simp)) (by first | (rw [← List.map_take]; exact ints_one _) | simp) ?h11a ?h11b ?h11c ?_)
            try case h11a => unfold maxLen; first | omega | (simp <;> omega)
            try case h11b => first | omega | (simp <;> omega)
            try case h11c => first | exact Nat.le_refl _ | omega | (simp <;> omega)
            intro v2 w2 hown2 hgrow2 _
            have hb2 : Below w1.heap.size w1 w2 := (balloc (Below.refl _ _) _).grown hgrow2 (by simp) (fun j hj => by cases hj; exact Nat.le_refl _)
            have hs1 := (own_src hown1'.out (by simp)).keep hb2
            replace hown2 := own_iv hown2 T (by rw [HT.out]; first | rfl | (simp only [List.nil_append, ← List.map_take]; done) | (simp only [List.nil_append, ← List.map_take, List.take_length]; done) | (rw [List.take_of_length_le (by simp)]; simp))
            obtain ⟨a2, c2, rfl⟩ := own_shape hown2
            have hsz2 := hb2.size
            go_wp2_with (at_builtin; refine wpList_app _ rfl _ _ 22 rfl w1.heap.size 3 i0 (.int .i64 0) 8 Try.underlying22 hi hz0 hz1 hz2 rfl _ _ _ rfl hown2 _ _ rfl hs1 (ints_one _) ?h12a ?h12b ?h12c ?_)
            try case h12a => unfold maxLen; first | omega | (simp <;> omega)
            try case h12b => first | omega | (simp <;> omega)
            try case h12c => first | exact Nat.le_refl _ | omega | (simp <;> omega)
            intro v3 w3 hown3 hgrow3 _
            have hb3 : Below w1.heap.size w1 w3 := hb2.grown hgrow3 (by have := hb2.size; omega) (fun j hj => (hown2.lt j hj).1)
            replace hown3 := own_iv hown3 (T ++ M) (by simp)
            have hs3 := own_src hown3 (by simp)
            obtain ⟨a3, c3, rfl⟩ := own_shape hown3
            have HS3 := Lib.hid hs3
            clear hs3 hown2 hs1
            go_wp2
            go_ret
            have HE : Hid (SP.put n [] = T ++ M) := Lib.hid (by rw [HP3.out, HM.out, HT.out] <;> simp)
            rw [HE.out]
            exact ⟨_, _, rfl, HS3.out, own_cap hown3, bnext hb1 hb3⟩
      · have hl1 : 0 < L.length := List.length_pos_iff.2 hL0
        rcases a with _ | p
        · exfalso
          obtain ⟨a', c', he, h⟩ := HS.out.out
          injection he with h1 h2 h3
          subst h1 h3
          rcases h with ⟨h, h'⟩ | ⟨g, o, h, _⟩
          · simp at h
            exact hL0 h
          · cases h
        · by_cases hck : cap = L.length
          · subst hck
            obtain ⟨M, HM⟩ : ∃ M, Hid (M = n :: []) := ⟨_, Lib.hid rfl⟩
            obtain ⟨T, HT⟩ : ∃ T : List Int, Hid (T = (L.take L.length)) := ⟨_, Lib.hid rfl⟩
            have hMl : M.length ≤ 1000000001 := by rw [HM.out]; simp <;> omega
            have hTl : T.length ≤ 1000000000 := by rw [HT.out]; simp <;> omega
            obtain ⟨i0, hi, hz0, hz1, hz2⟩ := info_parts info_int
            go_wp2_with (at_builtin; refine wpList_app _ rfl _ _ 22 rfl w.heap.size 3 i0 (.int .i64 0) 8 Try.underlying22 hi hz0 hz1 hz2 rfl _ _ _ rfl (own_lit w [.int .i64 n] 3 _ (Nat.le_refl _) (by simp [maxLen])) _ (([] : List Value)) rfl (Src.emp _ (by simp)) (by first | (rw [← List.map_drop]; exact ints_one _) | simp) ?h13a ?h13b ?h13c ?_)
            try case h13a => unfold maxLen; first | omega | (simp <;> omega)
            try case h13b => first | omega | (simp <;> omega)
            try case h13c => first | exact Nat.le_refl _ | omega | (simp <;> omega)
            intro v1 w1 hown1 hgrow1 _
            have hb1 : Below w.heap.size w w1 := (balloc (Below.refl _ _) _).grown hgrow1 (by simp) (fun j hj => by cases hj; exact Nat.le_refl _)
            replace hown1 := own_iv hown1 M (by rw [HM.out]; simp)
            have hown1' := Lib.hid hown1
            obtain ⟨a1, c1, rfl⟩ := own_shape hown1
            clear hown1 hgrow1
            go_wp2_with (at_builtin; refine wpList_app _ rfl _ _ 22 rfl w1.heap.size 3 i0 (.int .i64 0) 8 Try.underlying22 hi hz0 hz1 hz2 rfl _ _ _ rfl (own_lit w1 [] 3 _ (Nat.le_refl _) (by simp)) _ ((iv L).take L.length) rfl ((HS.out.take hk).keep (balloc hb1 _)) (by first | (rw [← List.map_take]; exact ints_one _) | simp) ?h14a ?h14b ?h14c ?_)
            try case h14a => unfold maxLen; first | omega | (simp <;> omega)
            try case h14b => first | omega | (simp <;> omega)
            try case h14c => first | exact Nat.le_refl _ | omega | (simp <;> omega)
            intro v2 w2 hown2 hgrow2 _
            have hb2 : Below w1.heap.size w1 w2 := (balloc (Below.refl _ _) _).grown hgrow2 (by simp) (fun j hj => by cases hj; exact Nat.le_refl _)
            have hs1 := (own_src hown1'.out (by simp)).keep hb2
            replace hown2 := own_iv hown2 T (by rw [HT.out]; first | rfl | (simp only [List.nil_append, ← List.map_take]; done) | (simp only [List.nil_append, ← List.map_take, List.take_length]; done) | (rw [List.take_of_length_le (by simp)]; simp))
            obtain ⟨a2, c2, rfl⟩ := own_shape hown2
            have hsz2 := hb2.size
            go_wp2_with (at_builtin; refine wpList_app _ rfl _ _ 22 rfl w1.heap.size 3 i0 (.int .i64 0) 8 Try.underlying22 hi hz0 hz1 hz2 rfl _ _ _ rfl hown2 _ _ rfl hs1 (ints_one _) ?h15a ?h15b ?h15c ?_)
            try case h15a => unfold maxLen; first | omega | (simp <;> omega)
            try case h15b => first | omega | (simp <;> omega)
            try case h15c => first | exact Nat.le_refl _ | omega | (simp <;> omega)
            intro v3 w3 hown3 hgrow3 _
            have hb3 : Below w1.heap.size w1 w3 := hb2.grown hgrow3 (by have := hb2.size; omega) (fun j hj => (hown2.lt j hj).1)
            replace hown3 := own_iv hown3 (T ++ M) (by simp)
            have hs3 := own_src hown3 (by simp)
            obtain ⟨a3, c3, rfl⟩ := own_shape hown3
            have HS3 := Lib.hid hs3
            clear hs3 hown2 hs1
            go_wp2
            go_ret
            have HE : Hid (SP.put n L = T ++ M) := Lib.hid (by rw [HP3.out, HM.out, HT.out] <;> simp)
            rw [HE.out]
            exact ⟨_, _, rfl, HS3.out, own_cap hown3, bnext hb1 hb3⟩
          · obtain ⟨M, HM⟩ : ∃ M, Hid (M = n :: []) := ⟨_, Lib.hid rfl⟩
            obtain ⟨T, HT⟩ : ∃ T : List Int, Hid (T = (L.take L.length)) := ⟨_, Lib.hid rfl⟩
            have hMl : M.length ≤ 1000000001 := by rw [HM.out]; simp <;> omega
            have hTl : T.length ≤ 1000000000 := by rw [HT.out]; simp <;> omega
            obtain ⟨i0, hi, hz0, hz1, hz2⟩ := info_parts info_int
            go_wp2_with (at_builtin; refine wpList_app _ rfl _ _ 22 rfl w.heap.size 3 i0 (.int .i64 0) 8 Try.underlying22 hi hz0 hz1 hz2 rfl _ _ _ rfl (own_lit w [.int .i64 n] 3 _ (Nat.le_refl _) (by simp [maxLen])) _ (([] : List Value)) rfl (Src.emp _ (by simp)) (by first | (rw [← List.map_drop]; exact ints_one _) | simp) ?h16a ?h16b ?h16c ?_)
            try case h16a => unfold maxLen; first | omega | (simp <;> omega)
            try case h16b => first | omega | (simp <;> omega)
            try case h16c => first | exact Nat.le_refl _ | omega | (simp <;> omega)
            intro v1 w1 hown1 hgrow1 _
            have hb1 : Below w.heap.size w w1 := (balloc (Below.refl _ _) _).grown hgrow1 (by simp) (fun j hj => by cases hj; exact Nat.le_refl _)
            replace hown1 := own_iv hown1 M (by rw [HM.out]; simp)
            have hown1' := Lib.hid hown1
            obtain ⟨a1, c1, rfl⟩ := own_shape hown1
            clear hown1 hgrow1
            go_wp2_with (at_builtin; refine wpList_app _ rfl _ _ 22 rfl w1.heap.size 3 i0 (.int .i64 0) 8 Try.underlying22 hi hz0 hz1 hz2 rfl _ _ _ rfl (own_lit w1 [] 3 _ (Nat.le_refl _) (by simp)) _ ((iv L).take L.length) rfl ((HS.out.take hk).keep (balloc hb1 _)) (by first | (rw [← List.map_take]; exact ints_one _) | simp) ?h17a ?h17b ?h17c ?_)
            try case h17a => unfold maxLen; first | omega | (simp <;> omega)
            try case h17b => first | omega | (simp <;> omega)
            try case h17c => first | exact Nat.le_refl _ | omega | (simp <;> omega)
            intro v2 w2 hown2 hgrow2 _
            have hb2 : Below w1.heap.size w1 w2 := (balloc (Below.refl _ _) _).grown hgrow2 (by simp) (fun j hj => by cases hj; exact Nat.le_refl _)
            have hs1 := (own_src hown1'.out (by simp)).keep hb2
            replace hown2 := own_iv hown2 T (by rw [HT.out]; first | rfl | (simp only [List.nil_append, ← List.map_take]; done) | (simp only [List.nil_append, ← List.map_take, List.take_length]; done) | (rw [List.take_of_length_le (by simp)]; simp))
            obtain ⟨a2, c2, rfl⟩ := own_shape hown2
            have hsz2 := hb2.size
            go_wp2_with (at_builtin; refine wpList_app _ rfl _ _ 22 rfl w1.heap.size 3 i0 (.int .i64 0) 8 Try.underlying22 hi hz0 hz1 hz2 rfl _ _ _ rfl hown2 _ _ rfl hs1 (ints_one _) ?h18a ?h18b ?h18c ?_)
            try case h18a => unfold maxLen; first | omega | (simp <;> omega)
            try case h18b => first | omega | (simp <;> omega)
            try case h18c => first | exact Nat.le_refl _ | omega | (simp <;> omega)
            intro v3 w3 hown3 hgrow3 _
            have hb3 : Below w1.heap.size w1 w3 := hb2.grown hgrow3 (by have := hb2.size; omega) (fun j hj => (hown2.lt j hj).1)
            replace hown3 := own_iv hown3 (T ++ M) (by simp)
            have hs3 := own_src hown3 (by simp)
            obtain ⟨a3, c3, rfl⟩ := own_shape hown3
            have HS3 := Lib.hid hs3
            clear hs3 hown2 hs1
            go_wp2
            go_ret
            have HE : Hid (SP.put n L = T ++ M) := Lib.hid (by rw [HP3.out, HM.out, HT.out] <;> simp)
            rw [HE.out]
            exact ⟨_, _, rfl, HS3.out, own_cap hown3, bnext hb1 hb3⟩
end Go.Proofs.Ytamhhbgakaokgaa
