/- For every eight strings and every count DigestTrees returns true: the root and the last proof elements are those of the tree built by hand. No conditions. -/
import Derived.Test.YtfikbcgadpbblaaDigTrees0
import Derived.ChangeMaps5
namespace Go.Proofs.Ytfikbcgadpbblaa.digestTrees
open Go.ChangeShapes Go.WideShapes Go.ChangeAt Go.RowKit Go.Joins Go.Deep Go.ChangeMaps
set_option linter.unusedVariables false

set_option maxRecDepth 100000 in
set_option maxHeartbeats 16000000 in
theorem walk (t0a : ByteArray) (t0b : ByteArray) (t0c : ByteArray) (t0d : ByteArray) (t0e : ByteArray) (t0f : ByteArray) (t0g : ByteArray) (t0k : ByteArray) (a1 : Int) (wt0a : t0a.size ≤ maxLen) (wt0b : t0b.size ≤ maxLen) (wt0c : t0c.size ≤ maxLen) (wt0d : t0d.size ≤ maxLen) (wt0e : t0e.size ≤ maxLen) (wt0f : t0f.size ≤ maxLen) (wt0g : t0g.size ≤ maxLen) (wt0k : t0k.size ≤ maxLen) (wa1 : (Lit.int .u8 a1).wf = true) (w : World) :
    Calls Try.prog 10 #[.agg #[.string t0a, .string t0b, .string t0c, .string t0d, .string t0e, .string t0f, .string t0g, .string t0k], .int .u8 a1] w fun e w' => e = .returned (.bool true) ∧ Below w.heap.size w w' := by
  obtain ⟨i0, hif, hz0, hz1, hz2⟩ := info_parts info_string
  obtain ⟨X8, hX8⟩ : ∃ X8 : List ByteArray, [t0a, t0b, t0c, t0d, t0e, t0f, t0g, t0k] = X8 := ⟨_, rfl⟩
  have hl8 : X8.length = 8 := by rw [← hX8]; rfl
  have hs8 : ∀ x, x ∈ X8 → x.size ≤ maxLen := by rw [← hX8]; intro x hx; simp only [List.mem_cons, List.not_mem_nil, or_false] at hx; rcases hx with rfl | rfl | rfl | rfl | rfl | rfl | rfl | rfl <;> assumption
  have HS8 := Lib.hid hs8
  have HL8 := Lib.hid hl8
  have HX8 := Lib.hid hX8
  have HA1 := Lib.hid wa1
  have acc : Below w.heap.size w w := Below.refl _ _
  clear hs8 hl8 hX8 wt0a wt0b wt0c wt0d wt0e wt0f wt0g wt0k wa1
  go_enter Try.func10, Try.ntmps10
  go_wp2_with fail
  have hbx := heap_alloc_new w (.cells #[.string t0a, .string t0b, .string t0c, .string t0d, .string t0e, .string t0f, .string t0g, .string t0k] 43)
  have hac := Below.alloc (Below.refl w.heap.size w) (Nat.le_refl _) (.cells #[.string t0a, .string t0b, .string t0c, .string t0d, .string t0e, .string t0f, .string t0g, .string t0k] 43)
  have hsz : w.heap.size < (w.alloc (.cells #[.string t0a, .string t0b, .string t0c, .string t0d, .string t0e, .string t0f, .string t0g, .string t0k] 43)).heap.size := by simp
  obtain ⟨B, hB⟩ : ∃ B, w.heap.size = B := ⟨_, rfl⟩
  rw [hB] at hbx hsz ⊢
  generalize w.alloc (.cells #[.string t0a, .string t0b, .string t0c, .string t0d, .string t0e, .string t0f, .string t0g, .string t0k] 43) = W0 at hbx hac hsz ⊢
  have HC0 : Hid (∀ V, Below W0.heap.size W0 V → ∀ k : Nat, k < 8 → V.cell? ⟨B, k, none⟩ = some (.string (X8.getD k ⟨#[]⟩))) := Lib.hid fun V hV k hk => by
    have hc := (hV.block B hsz).trans hbx
    rw [← HX8.out]
    match k, hk with
    | 0, _ => simp [World.cell?, hc]
    | 1, _ => simp [World.cell?, hc]
    | 2, _ => simp [World.cell?, hc]
    | 3, _ => simp [World.cell?, hc]
    | 4, _ => simp [World.cell?, hc]
    | 5, _ => simp [World.cell?, hc]
    | 6, _ => simp [World.cell?, hc]
    | 7, _ => simp [World.cell?, hc]
  have HBE := Lib.hid hB
  replace acc := hac
  clear hbx hac hB
  refine (sane_any _).mono ?_
  rintro e w1 ⟨rfl, k1⟩
  have HC : Hid (∀ V, Below w1.heap.size w1 V → ∀ k : Nat, k < 8 → V.cell? ⟨B, k, none⟩ = some (.string (X8.getD k ⟨#[]⟩))) := by
    have hac := k1
    exact Lib.hid fun V hV => HC0.out V (bnext hac hV)
  have HB1 := Lib.hid (Nat.lt_of_lt_of_le hsz k1.size)
  replace acc := bnext acc k1
  clear k1 HC0 hsz
  go_upto_region 2 with (fail)
  go_cut [6] from 16 to 18 (fun s6 wx => wx = w1 ∧ ∃ m H : Nat, s6 = .int .i64 (m : Int) ∧ m = 2 ^ H ∧ 1 ≤ H ∧ H ≤ 3)
  case first =>
    have hwf := bd8 HA1.out
    have htm : a1.tmod 3 = a1 % 3 := Int.tmod_eq_emod_of_nonneg hwf.1
    obtain hq | hq | hq : a1 % 3 = 0 ∨ a1 % 3 = 1 ∨ a1 % 3 = 2 := by omega
    · rw [hq] at htm
      go_wp2
      all_goals
        go_meet
        case rel => exact ⟨rfl, 2, 1, by first | rfl | simp | omega, rfl, by omega, by omega⟩
    · rw [hq] at htm
      go_wp2
      all_goals
        go_meet
        case rel => exact ⟨rfl, 4, 2, by first | rfl | simp | omega, rfl, by omega, by omega⟩
    · rw [hq] at htm
      go_wp2
      all_goals
        go_meet
        case rel => exact ⟨rfl, 8, 3, by first | rfl | simp | omega, rfl, by omega, by omega⟩
  case rest =>
    obtain ⟨rfl, m, H, rfl, hm, hH1, hH3⟩ := hcut
    have hm8 : m ≤ 8 := by rw [hm]; exact Nat.le_trans (Nat.pow_le_pow_right (by omega) hH3) (by decide)
    have hm2 : 2 ≤ m := by rw [hm]; exact Nat.le_trans (by decide) (Nat.pow_le_pow_right (by omega) hH1)
    have HM := Lib.hid hm
    have hfl : (DG.few X8 m).length = 2 ^ H := by rw [DG.few_length (by rw [HL8.out]; exact hm8), hm]
    obtain ⟨M, hM⟩ : ∃ M, DG.few X8 m = M := ⟨_, rfl⟩
    have hMs : ∀ s ∈ M, s.size < 2147483648 := by rw [← hM]; exact few_small _ _
    rw [hM] at hfl
    have HFL := Lib.hid hfl
    have HMS := Lib.hid hMs
    have HMF := Lib.hid hM
    clear hm hfl hMs hM HA1 HX8
    go_wp2
    go_loopw [7, 8] (fun v7 v8 wr => ∃ k : Nat, v8 = .int .i64 (k : Int) ∧ k ≤ m ∧ wr.ownsRow wc.heap.size 9 1 v7 k ((DG.few X8 k).map Value.string) ∧ Below wc.heap.size wc wr) (fun _ v _ => m - (intOf v).toNat)
    case atStart => exact ⟨0, rfl, Nat.zero_le _, World.ownsRow_nil _ _ _ _, Below.refl _ _⟩
    case round =>
      obtain ⟨k, rfl, hk, hown, hb⟩ := hrel
      obtain ⟨va, vc, rfl⟩ := own_shape hown
      have hwr := hb.size
      by_cases hkm : k < m
      · have hki : (k : Int) < (m : Int) := by omega
        have hk0 : (0 : Int) ≤ (k : Int) := by omega
        have hk8 : (k : Int) < 8 := by omega
        have hkt : ((k : Int)).toNat = k := by omega
        have hkX : k < X8.length := by rw [HL8.out]; omega
        have hcell0 := HC.out _ hb k (by omega)
        have hX : X8.getD k ⟨#[]⟩ = X8[k] := by simp [List.getD, hkX]
        rw [hX] at hcell0
        have hnx := DG.few_next X8 k hkX
        have hxz := HS8.out X8[k] (List.getElem_mem _)
        obtain ⟨X, hXe⟩ : ∃ X, X8[k] = X := ⟨_, rfl⟩
        rw [hXe] at hcell0 hnx hxz
        obtain ⟨z, hz⟩ : ∃ z, X.size = z := ⟨_, rfl⟩
        have hmx : maxLen = 9223372036854775807 := rfl
        rw [hmx, hz] at hxz
        obtain ⟨mn, hmn⟩ : ∃ mn, min z 40 = mn := ⟨_, rfl⟩
        have hsl := fun V => slice_head X mn (by omega) V
        have HNX : Hid (DG.few X8 (k + 1) = DG.few X8 k ++ [X.extract 0 mn]) := Lib.hid (by rw [hnx, ← hmn, ← hz]; rfl)
        obtain ⟨Y, hY⟩ : ∃ Y, X.extract 0 mn = Y := ⟨_, rfl⟩
        rw [hY] at hsl HNX
        have hmi1 : (if 40 < (z : Int) then 40 else (z : Int)) = (mn : Int) := by split <;> omega
        have hmi2 : min (z : Int) 40 = (mn : Int) := by omega
        have hmz : (mn : Int) ≤ (z : Int) := by omega
        have hBne : Value.ownBlock (.slice va k vc) ≠ some B := fun e => by have := (hown.lt B e).1; have := HB1.out; omega
        have hBl : B < wr.heap.size := Nat.lt_of_lt_of_le HB1.out hb.size
        have HOW := Lib.hid hown
        have HBW := Lib.hid hb
        clear hX hnx hXe hmn hY hown hb hkX
        go_wp2_with fail
        go_region_held3 (fun w' => w'.cell? ⟨B, k, none⟩ = some (.string X))
          (first | go_keep | (rw [hgrow.cell_far _ (by simp; omega) (Ne.symm hBne)]; assumption))
          ((refine step_append_lies _ (by rfl) _ _ _ (by rfl) wc.heap.size 9 i0 _ 1 16 Try.underlying26 hif hz0 hz1 hz2 rfl (by omega) (.slice va k vc) _ _ (by rfl) ((HOW.out.alloc _).drew)
              ⟨wr.heap.size, 0, none⟩ 1 1 [.string Y] (by rfl) (by rfl) (World.news_of_block (cs := #[.string Y]) (t := 9) (fr := (0, 0)) (heap_alloc_new wr _)) (by simp [Value.oneCell'])
              (by omega) (by unfold maxLen; omega) (by omega) (by simp; omega) (wr.heap.size + 1) (by simp) ?_; intro gg cap' w1 hown1 hgrow hat hlt))
        have hB : Below wc.heap.size wc w1 := by
          have h0 : Below wc.heap.size wc ((wr.alloc (.cells #[.string Y] 9)).drew) := ((HBW.out.alloc hwr _).drew)
          exact h0.grown hgrow (by simp; omega) (fun j hj => (HOW.out.lt j hj).1)
        clear hgrow hat hlt
        go_wp2
        go_roundw
        case rel => exact ⟨k + 1, by go_num, by omega, by rw [HNX.out, List.map_append]; exact hown1, hB⟩
        case measure => simp [intOf]; omega
      · have hki : ¬ (k : Int) < (m : Int) := by omega
        obtain rfl : m = k := by omega
        have HOW := Lib.hid hown
        have HBW := Lib.hid hb
        rw [HMF.out] at HOW
        have hsrc := own_src HOW.out (by rw [List.length_map, HFL.out, HM.out])
        have HSR := Lib.hid hsrc
        have hone := strs_one M
        clear hown hb hk hwr hsrc
        go_wp2_with (at_builtin; refine wpList_app _ rfl _ _ 26 rfl wr.heap.size 9 i0 (.string ⟨#[]⟩) 16 Try.underlying26 hif hz0 hz1 hz2 rfl _ _ _ rfl (own_lit wr [] 9 wr.heap.size (Nat.le_refl _) (by simp)) _ (M.map Value.string) rfl (HSR.out.keep (balloc (Below.refl _ _) _)) hone ?c1 ?c2 ?c3 ?_)
        case c1 => have := HFL.out; have := HM.out; (try unfold maxLen); (try simp only [List.length_map, List.length_nil]); omega
        case c2 => have := HFL.out; have := HM.out; (try simp only [List.length_map, List.length_nil]); omega
        try case c3 => exact (balloc (Below.refl _ _) _).size
        intro v6 w6 hown6 hgrow6 _
        have hb6 : Below wr.heap.size wr w6 := ((Below.refl _ wr).alloc (Nat.le_refl _) _).grown hgrow6 (by simp) (fun k e => by cases e; simp)
        replace hown6 : w6.ownsRow wr.heap.size 9 1 v6 m (M.map Value.string) := by have h1 := HFL.out; rw [← HM.out] at h1; subst h1; simpa using hown6
        have hrow6 : RowAt w6 (.slice va m vc) (M.map Value.string) := (row_own HOW.out (by rw [List.length_map, HFL.out, HM.out])).keep hb6
        have HB6 := Lib.hid (bnext HBW.out hb6)
        have hwh := row_own hown6 (by rw [List.length_map, HFL.out, HM.out])
        obtain ⟨qa, qc, rfl⟩ := own_shape hown6
        have HWH := Lib.hid hwh
        have HR6 := Lib.hid hrow6
        clear hgrow6 hb6 hown6 hone hrow6 hwh HOW HBW HSR
        go_wp2_with fail
        go_loopw [7, 10] (fun v7 v10 wl => ∃ (t n : Nat) (ra : Option Addr) (rc : Nat), v10 = .int .i64 (t : Int) ∧ t ≤ H ∧ n = 2 ^ (H - t) ∧ v7 = .slice ra n rc ∧ RowAt wl (.slice ra n rc) ((DG.T M H t).map Value.string) ∧ Below w6.heap.size w6 wl) (fun _ v _ => H - (intOf v).toNat)
        case atStart => exact ⟨0, m, va, vc, rfl, Nat.zero_le _, by rw [HM.out]; rfl, rfl, by rw [DG.T_whole HFL.out]; exact HR6.out, Below.refl _ _⟩
        case round =>
          obtain ⟨t, n, ra, rc, rfl, ht, hn, rfl, hrow, hb⟩ := hrel
          obtain ⟨wo, rfl⟩ : ∃ wo, wo = wr := ⟨_, rfl⟩
          have hIs : DG.IsH M.length H := by rw [HFL.out]; exact DG.IsH.pow H
          obtain ⟨E, hE⟩ : ∃ E, DG.T M H t = E := ⟨_, rfl⟩
          have hEl : E.length = n := by rw [← hE, DG.T_len hIs ht, hn]
          have hEs : ∀ s ∈ E, s.size < 2147483648 := by rw [← hE]; exact DG.T_sizes HMS.out H t
          have hn0 : 0 < n := by rw [hn]; exact Nat.two_pow_pos _
          have hn8 : n ≤ 8 := by rw [hn]; exact Nat.le_trans (Nat.pow_le_pow_right (by omega) (show H - t ≤ 3 by omega)) (by decide)
          rw [hE] at hrow
          obtain ⟨g, o, rfl, hg, hc0⟩ := hrow.cell (k := 0) (by rw [List.length_map, hEl]; exact hn0)
          clear hc0
          have HCE : Hid (∀ V, Below wo.heap.size wo V → ∀ k, k < n → V.cell? ⟨g, o + k, none⟩ = some (.string (E.getD k ⟨#[]⟩))) := Lib.hid fun V hV k hk => by
            have hk' : k < (E.map Value.string).length := by rw [List.length_map, hEl]; exact hk
            obtain ⟨g1, o1, e1, _, d1⟩ := (hrow.keep hV).cell hk'
            injection e1 with e1
            injection e1 with e1 e2
            subst e1 e2
            rw [d1]
            simp [List.getD, hEl, hk]
          have HEZ : Hid (∀ k, k < n → (E.getD k ⟨#[]⟩).size < 2147483648) := Lib.hid fun k hk => by
            have hk' : k < E.length := by rw [hEl]; exact hk
            have : E.getD k ⟨#[]⟩ = E[k] := by simp [List.getD, hk']
            rw [this]
            exact hEs _ (List.getElem_mem _)
          have HBO := Lib.hid hb
          have HE := Lib.hid hE
          have HIS := Lib.hid hIs
          by_cases htH : t < H
          · obtain ⟨p, hp, hp2, hp0, hp1⟩ := DG.pos_le htH
            have hnp : n = 2 * p := hn.trans hp2
            have hnx := DG.T_next hIs htH
            rw [hE, hp] at hnx
            have HNX := Lib.hid hnx
            have HP := Lib.hid hp
            have hgt : (1 : Int) < (n : Int) := by omega
            have HNP := Lib.hid hnp
            have hp4 : p ≤ 4 := by omega
            clear hnp hn hp hp2 hnx hb hE hEl hEs hrow hIs hg
            go_wp2
            go_loopw [11, 12] (fun v11 v12 wl => ∃ j : Nat, v12 = .int .i64 (2 * (j : Int)) ∧ j ≤ p ∧ wl.ownsRow wo.heap.size 9 1 v11 j ((DG.prs E j).map Value.string) ∧ Below wo.heap.size wo wl) (fun _ v _ => n - (intOf v).toNat)
            case atStart => exact ⟨0, rfl, by omega, World.ownsRow_nil _ _ _ _, Below.refl _ _⟩
            case round =>
              have hnp := HNP.out
              obtain ⟨j, rfl, hj, hown, hbq⟩ := hrel
              obtain ⟨wq, rfl⟩ : ∃ wq, wq = wr := ⟨_, rfl⟩
              obtain ⟨ya, yc, rfl⟩ := own_shape hown
              have HROW := Lib.hid hown
              have HBQ := Lib.hid hbq
              have hqs := hbq.size
              by_cases hjp : j < p
              · have i1 : 2 * (j : Int) + 1 < (n : Int) := by omega
                have i2 : 2 * (j : Int) < (n : Int) := by omega
                have i3 : (0 : Int) ≤ 2 * (j : Int) := by omega
                have i4 : (0 : Int) ≤ 2 * (j : Int) + 1 := by omega
                have t1 : (2 * (j : Int)).toNat = 2 * j := by omega
                have t2 : (2 * (j : Int) + 1).toNat = 2 * j + 1 := by omega
                have xw : IntKind.i64.wrap (2 * (j : Int) + 1) = 2 * (j : Int) + 1 := by rw [IntKind.wrap_i64]; omega
                have sx := HEZ.out (2 * j) (by omega)
                have sy := HEZ.out (2 * j + 1) (by omega)
                obtain ⟨x, hx⟩ : ∃ x, E.getD (2 * j) ⟨#[]⟩ = x := ⟨_, rfl⟩
                obtain ⟨y, hy⟩ : ∃ y, E.getD (2 * j + 1) ⟨#[]⟩ = y := ⟨_, rfl⟩
                obtain ⟨z, hz⟩ : ∃ z, DG.Pair x y = z := ⟨_, rfl⟩
                have HZ : Hid (DG.prs E (j + 1) = DG.prs E j ++ [z]) := Lib.hid (by rw [DG.prs_succ, ← hz, ← hx, ← hy]; rfl)
                have HKD : Hid (∀ V, Below wo.heap.size wo V → V.cell? ⟨g, o + 2 * j, none⟩ = some (.string x) ∧ V.cell? ⟨g, o + (2 * j + 1), none⟩ = some (.string y)) := Lib.hid fun V hV => by
                  rw [← hx, ← hy]
                  exact ⟨HCE.out V hV (2 * j) (by omega), HCE.out V hV (2 * j + 1) (by omega)⟩
                have HKC : Hid (∀ V, Below wq.heap.size wq V → V.cell? ⟨g, o + 2 * j, none⟩ = some (.string x) ∧ V.cell? ⟨g, o + (2 * j + 1), none⟩ = some (.string y)) := Lib.hid fun V hV => by
                  rw [← hx, ← hy]
                  exact ⟨HCE.out V (bnext HBQ.out hV) (2 * j) (by omega), HCE.out V (bnext HBQ.out hV) (2 * j + 1) (by omega)⟩
                rw [hx] at sx
                rw [hy] at sy
                have HPP : Hid (∀ W, Below wq.heap.size wq W → Calls Try.prog 15 #[.string x, .string y] W fun e w' => e = .returned (.string z) ∧ Below wq.heap.size wq w') := Lib.hid fun W hW => (pair_c hz (by omega) (by unfold maxLen; omega) W).mono (fun e w' h => ⟨h.1, bnext hW h.2⟩)
                obtain ⟨c1, c2⟩ := HKC.out wq (Below.refl _ _)
                clear hown hbq hx hy hz hnp
                go_wp2_with fail
                go_region_held3 (fun w' => w'.cell? ⟨g, o + 2 * j, none⟩ = some (.string x) ∧ w'.cell? ⟨g, o + (2 * j + 1), none⟩ = some (.string y))
                  (first | (refine HKC.out _ ?_; (repeat' (first | exact Below.refl _ _ | (with_reducible assumption) | (refine bnext ?_ (by with_reducible assumption)) | (refine balloc ?_ _) | (refine below_drewN ?_ _) | (refine Below.drew ?_))); done) | (exact HKD.out _ (((HB2.out.alloc hbs2 _)).grown hgrow (by simp; omega) (fun j hj => (HROW2.out.lt j hj).1))))
                  (first | (go_at_call 15; refine (HPP.out _ (by (repeat' (first | exact Below.refl _ _ | (with_reducible assumption) | (refine bnext ?_ (by with_reducible assumption)) | (refine balloc ?_ _) | (refine below_drewN ?_ _) | (refine Below.drew ?_))))).mono ?_; rintro e w2 ⟨rfl, hb2⟩; have HROW2 := Lib.hid (own_kept HROW.out hb2); have HB2 := Lib.hid (bnext HBQ.out hb2); have hbs2 := HB2.out.size) | (refine step_append_lies _ (by rfl) _ _ _ (by rfl) wo.heap.size 9 i0 _ 1 16 Try.underlying26 hif hz0 hz1 hz2 rfl (by omega) (.slice ya j yc) _ _ (by rfl) (HROW2.out.alloc _) ⟨w2.heap.size, 0, none⟩ 1 1 [.string z] (by rfl) (by rfl) (World.news_of_block (cs := #[.string z]) (t := 9) (fr := (0, 0)) (heap_alloc_new w2 _)) (by simp [Value.oneCell']) (by omega) (by unfold maxLen; omega) (by omega) (by simp; omega) (w2.heap.size + 1) (by simp) ?_; intro gg cap' w1 hown1 hgrow hat hlt; have hBW1 : Below wo.heap.size wo w1 := ((HB2.out.alloc hbs2 _).grown hgrow (by simp; omega) (fun j hj => (HROW2.out.lt j hj).1))))
                have HOWN := Lib.hid hown1
                clear hgrow hat hlt hown1
                go_wp2
                go_roundw
                case rel => exact ⟨j + 1, by go_num, by omega, by rw [HZ.out, List.map_append]; exact HOWN.out, hBW1⟩
                case measure => have := HNP.out; simp [intOf]; omega
              · obtain rfl : p = j := by omega
                have i1 : ¬ 2 * (p : Int) + 1 < (n : Int) := by omega
                have hrow2 := row_own hown (by rw [List.length_map, DG.prs_len])
                rw [HNX.out] at hrow2
                have HR2 := Lib.hid hrow2
                clear hown hrow2 hbq HROW HEZ hnp
                have HCR : Hid (∀ V, Below wq.heap.size wq V → ∀ k, k < n → V.cell? ⟨g, o + k, none⟩ = some (.string (E.getD k ⟨#[]⟩))) := Lib.hid fun V hV => HCE.out V (bnext HBQ.out hV)
                have HB9 := Lib.hid (bnext HBO.out HBQ.out)
                clear HBQ hqs HBO HCE
                by_cases hp11 : p = 1
                · have htt := hp1.1 hp11
                  subst hp11
                  have hiM : M.length = m := HFL.out.trans HM.out.symm
                  have hll := DG.last_nbr (L := M) htt
                  rw [HE.out] at hll
                  obtain ⟨l0, hl0⟩ : ∃ l, DG.prf M 0 H = l := ⟨_, rfl⟩
                  obtain ⟨l1, hl1⟩ : ∃ l, DG.prf M (m - 1) H = l := ⟨_, rfl⟩
                  have h21 : 2 ^ H - 1 = m - 1 := by rw [HM.out]
                  rw [h21, hl0, hl1] at hll
                  have hq0 : DG.proof M H 0 = l0 := by unfold DG.proof; rw [if_pos (by omega), ← hl0]; rfl
                  have hq1 : DG.proof M H ((m : Int) - 1) = l1 := by unfold DG.proof; rw [if_pos (by omega), ← hl1]; congr 1; omega
                  have hc0 : l0.length = H := by rw [← hl0, DG.prf_len]
                  have hc1 : l1.length = H := by rw [← hl1, DG.prf_len]
                  have HQ0 : Hid (∀ V, Below wq.heap.size wq V → Calls Try.prog 19 #[.slice qa m qc, .int .i64 0] V fun e W' => ∃ pa pc, e = .returned (.slice pa H pc) ∧ H ≤ pc ∧ RowAt W' (.slice pa H pc) (l0.map Value.string) ∧ Below V.heap.size V W') := Lib.hid fun V hV => proof_c hiM hq0 hc0 ((HWH.out.keep HB9.out).keep hV) (by omega) HMS.out HIS.out
                  have HQ1 : Hid (∀ V, Below wq.heap.size wq V → Calls Try.prog 19 #[.slice qa m qc, .int .i64 ((m : Int) - 1)] V fun e W' => ∃ pa pc, e = .returned (.slice pa H pc) ∧ H ≤ pc ∧ RowAt W' (.slice pa H pc) (l1.map Value.string) ∧ Below V.heap.size V W') := Lib.hid fun V hV => proof_c hiM hq1 hc1 ((HWH.out.keep HB9.out).keep hV) (by omega) HMS.out HIS.out
                  have HC0 := Lib.hid hc0
                  have HC1 := Lib.hid hc1
                  have HLL := Lib.hid hll
                  have HTT := Lib.hid htt
                  clear hiM hll hl0 hl1 h21 hq0 hq1 hc0 hc1 htt hp1
                  go_wp2_with fail
                  refine (HQ0.out _ (Below.refl _ _)).mono ?_
                  rintro e w10 ⟨pa, pc, rfl, hpc0, hr0, k10⟩
                  have HR0 := Lib.hid hr0
                  clear hr0 hpc0
                  go_wp2_with fail
                  refine (HQ1.out _ k10).mono ?_
                  rintro e w11 ⟨pb, pd, rfl, hpc1, hr1, k11⟩
                  have hr0 := HR0.out.keep k11
                  have htl : t < H := htH
                  obtain ⟨g0, o0, rfl, hg0, d0⟩ := hr0.cell (k := t) (by rw [List.length_map, HC0.out]; exact htH)
                  obtain ⟨g1, o1, rfl, hg1, d1⟩ := hr1.cell (k := t) (by rw [List.length_map, HC1.out]; exact htH)
                  obtain ⟨hll0, hll1⟩ := HLL.out
                  obtain ⟨_, hx0⟩ := List.getElem?_eq_some_iff.1 hll0
                  obtain ⟨_, hx1⟩ := List.getElem?_eq_some_iff.1 hll1
                  rw [List.getElem_map, hx0] at d0
                  rw [List.getElem_map, hx1] at d1
                  obtain ⟨x0, hy0⟩ : ∃ x, E.getD 0 ⟨#[]⟩ = x := ⟨_, rfl⟩
                  obtain ⟨x1, hy1⟩ : ∃ x, E.getD 1 ⟨#[]⟩ = x := ⟨_, rfl⟩
                  rw [hy1] at d0
                  rw [hy0] at d1
                  have hn2 : n = 2 := by rw [HNP.out]
                  have KK : Hid (∀ V, Below w11.heap.size w11 V → V.cell? ⟨g0, o0 + t, none⟩ = some (.string x1) ∧ V.cell? ⟨g1, o1 + t, none⟩ = some (.string x0) ∧ V.cell? ⟨g, o + 1, none⟩ = some (.string x1) ∧ V.cell? ⟨g, o, none⟩ = some (.string x0)) := Lib.hid fun V hV => by
                    have c0 := HCR.out V (bnext (bnext k10 k11) hV) 0 (by omega)
                    have c1 := HCR.out V (bnext (bnext k10 k11) hV) 1 (by omega)
                    rw [hy0] at c0
                    rw [hy1] at c1
                    exact ⟨(hV.cell (p := ⟨g0, o0 + t, none⟩) hg0).trans d0, (hV.cell (p := ⟨g1, o1 + t, none⟩) hg1).trans d1, c1, c0⟩
                  obtain ⟨e1, e2, e3, e4⟩ := KK.out w11 (Below.refl _ _)
                  have hnn : (1 : Int) < (n : Int) := by omega
                  have hn00 : (0 : Int) < (n : Int) := by omega
                  have hti : (t : Int) < (H : Int) := by omega
                  have ht0 : (0 : Int) ≤ (t : Int) := by omega
                  have htn : ((t : Int)).toNat = t := by omega
                  have hth : (t : Int) + 1 = (H : Int) := by have := HTT.out; omega
                  have hwt : IntKind.i64.wrap ((t : Int) + 1) = (H : Int) := by rw [IntKind.wrap_i64]; omega
                  have hwH : IntKind.i64.wrap (H : Int) = (H : Int) := by rw [IntKind.wrap_i64]; omega
                  have HB10 := Lib.hid (bnext (bnext k10 k11) (Below.refl _ _))
                  clear hll0 hll1 hx0 hx1 hr0 hr1 d0 d1 hg0 hg1 k10 k11 hn2 htl hy0 hy1
                  go_wp2_with fail
                  go_region_held3 (fun w' => w'.cell? ⟨g0, o0 + t, none⟩ = some (.string x1) ∧ w'.cell? ⟨g1, o1 + t, none⟩ = some (.string x0) ∧ w'.cell? ⟨g, o + 1, none⟩ = some (.string x1) ∧ w'.cell? ⟨g, o, none⟩ = some (.string x0))
                    (first | (refine KK.out _ ?_; (repeat' (first | exact Below.refl _ _ | (with_reducible assumption) | (refine bnext ?_ (by with_reducible assumption)) | (refine balloc ?_ _) | (refine below_drewN ?_ _) | (refine Below.drew ?_))); done))
                    (fail)
                  go_wp2
                  go_roundw
                  case rel => exact ⟨t + 1, 1, ya, yc, by first | go_num | (congr 1; omega), htH, HP.out.symm, rfl, HR2.out.keep (Below.drew HB10.out), bnext HB9.out (Below.drew HB10.out)⟩
                  case measure => simp [intOf]; omega
                · have hpi : ¬ (p : Int) = 1 := by omega
                  have hpe : ((p : Int) == 1) = false := by simpa using hpi
                  have hpd : decide ((p : Int) = 1) = false := by simpa using hpi
                  have hpn : (p == 1) = false := by simpa using hp11
                  go_wp2
                  go_roundw
                  case rel => exact ⟨t + 1, p, ya, yc, by go_num, htH, HP.out.symm, rfl, HR2.out, HB9.out⟩
                  case measure => simp [intOf]; omega
          · have hteq : t = H := by omega
            have htop : (DG.T M H H).getD 0 ⟨#[]⟩ = E.getD 0 ⟨#[]⟩ := by rw [← HE.out, hteq]
            have hn1 : n = 1 := by rw [hn, hteq]; simp
            obtain ⟨x, hx⟩ : ∃ x, E.getD 0 ⟨#[]⟩ = x := ⟨_, rfl⟩
            rw [hx] at htop
            have HTOP := Lib.hid htop
            have hro := DG.root_of htop
            obtain ⟨R, hR⟩ : ∃ R, DG.root M H = R := ⟨_, rfl⟩
            rw [hR] at hro
            have HRO := Lib.hid hro
            have HRR := Lib.hid hR
            have HX0 : Hid (∀ V, Below wo.heap.size wo V → V.cell? ⟨g, o, none⟩ = some (.string x)) := Lib.hid fun V hV => by have := HCE.out V hV 0 hn0; rw [hx] at this; exact this
            have hxs := HEZ.out 0 hn0
            rw [hx] at hxs
            have hni : (n : Int) = 1 := by omega
            have hgt : ¬ (1 : Int) < (n : Int) := by omega
            clear hn htop hro hR hx hn1 HEZ HCE hE hEl hEs hrow hIs hb hg
            have HRC : Hid (∀ V, Below wo.heap.size wo V → Calls Try.prog 21 #[.slice qa m qc] V fun e W' => e = .returned (.string R) ∧ Below V.heap.size V W') := Lib.hid fun V hV => root_c (HFL.out.trans HM.out.symm) HRR.out ((HWH.out.keep HBO.out).keep hV) (by have := HFL.out; have := HM.out; omega) HMS.out HIS.out
            obtain ⟨D, hD⟩ : ∃ D, DG.S [UInt8.ofNat H] = D := ⟨_, rfl⟩
            have hcv0 := fun V b h => conv_one V b H (by omega) h
            have hro := HRO.out
            rw [hD] at hcv0 hro
            have hDs : D.size = 1 := by rw [← hD, DG.S_size]; rfl
            have z1 : (⟨#[2]⟩ : ByteArray).size = 1 := rfl
            have z2 : ((⟨#[2]⟩ : ByteArray) ++ D).size = 2 := by rw [ByteArray.size_append, hDs]; rfl
            have HOF : Hid (∀ V, Calls Try.prog 13 #[.string (⟨#[2]⟩ ++ D ++ x)] V fun e W' => e = .returned (.string R) ∧ Below V.heap.size V W') := Lib.hid fun V => of_c hro (by rw [ByteArray.size_append, z2]; unfold maxLen; omega) V
            have hcvA : ∀ W : World, Sem.run Try.prog (convert 40 9 (.slice (some ⟨W.heap.size, 0, none⟩) 1 1)) (W.alloc (.cells #[.int .u8 (H : Int)] 5)) = .ok (.string D) (W.alloc (.cells #[.int .u8 (H : Int)] 5)) := fun W => hcv0 _ _ (World.cell?_alloc_at _ _ _ _ rfl)
            have hcvC : ∀ W : World, Sem.run Try.prog (convert 40 9 (.slice (some ⟨W.heap.size, 0, none⟩) 1 1)) ((W.alloc (.cells #[.int .u8 (H : Int)] 5)).drew) = .ok (.string D) ((W.alloc (.cells #[.int .u8 (H : Int)] 5)).drew) := fun W => hcv0 _ _ (World.cell?_alloc_at _ _ _ _ rfl)
            have HCV := Lib.hid hcv0
            have hHi : (H : Int) < 256 := by omega
            have hw8 : IntKind.u8.wrap (H : Int) = (H : Int) := by rw [IntKind.wrap_u8]; omega
            have hH0 : (0 : Int) ≤ (H : Int) := by omega
            have cx := HX0.out wo (Below.refl _ _)
            have hz3 : ¬ 9223372036854775807 < 2 + x.size := by omega
            have hacw := bnext (bnext acc HB6.out) HBO.out
            clear hro hcv0 hD
            go_wp2_with fail
            refine wp_region_held_drew (S := (fun w' => w'.cell? ⟨g, o, none⟩ = some (.string x))) (by kernel_rfl) ?_ (fun hHeld => ?_)
            · (refine HX0.out _ ?_; (repeat' (first | exact Below.refl _ _ | (with_reducible assumption) | (refine bnext ?_ (by with_reducible assumption)) | (refine balloc ?_ _) | (refine below_drewN ?_ _) | (refine Below.drew ?_))); done)
            refine wpAnyH_take (i := 0) (oi := { dst := some 106, op := Op.move (Operand.tmp 5), type := 4, pos := "law.go:188", after := #[], guard := none }) (v := ?_) rfl (by kernel_rfl) (by kernel_rfl) (by kernel_rfl) (fun _ _ _ h => h) (Or.inl ⟨by rfl, ?_⟩) (by assumption) ?_
            rotate_left
            · ((intro w hSw; (try dsimp only at hSw); go_simp); try with_reducible rfl)
            (try simp only [Act.put, List.setIfInBounds_toArray, List.set_cons_zero, List.set_cons_succ])
            refine wpAnyH_take (i := 1) (oi := { dst := some 107, op := Op.move (Operand.tmp 106), type := 4, pos := "law.go:188", after := #[{ on := 0, ground := Ground.data }], guard := none }) (v := ?_) rfl (by kernel_rfl) (by kernel_rfl) (by kernel_rfl) (fun _ _ _ h => h) (Or.inl ⟨by rfl, ?_⟩) (by assumption) ?_
            rotate_left
            · ((intro w hSw; (try dsimp only at hSw); go_simp); try with_reducible rfl)
            (try simp only [Act.put, List.setIfInBounds_toArray, List.set_cons_zero, List.set_cons_succ])
            refine wpAnyH_take (i := 2) (oi := { dst := some 108, op := Op.move (Operand.tmp 9), type := 26, pos := "law.go:188", after := #[{ on := 1, ground := Ground.guard }], guard := some (1, true) }) (v := ?_) rfl (by kernel_rfl) (by kernel_rfl) (by kernel_rfl) (fun _ _ _ h => h) (Or.inl ⟨by rfl, ?_⟩) (by assumption) ?_
            rotate_left
            · ((intro w hSw; (try dsimp only at hSw); go_simp); try with_reducible rfl)
            (try simp only [Act.put, List.setIfInBounds_toArray, List.set_cons_zero, List.set_cons_succ])
            refine wpAnyH_take (i := 4) (oi := { dst := some 110, op := Op.move (Operand.tmp 10), type := 3, pos := "law.go:188", after := #[{ on := 1, ground := Ground.guard }], guard := some (1, true) }) (v := ?_) rfl (by kernel_rfl) (by kernel_rfl) (by kernel_rfl) (fun _ _ _ h => h) (Or.inl ⟨by rfl, ?_⟩) (by assumption) ?_
            rotate_left
            · ((intro w hSw; (try dsimp only at hSw); go_simp); try with_reducible rfl)
            (try simp only [Act.put, List.setIfInBounds_toArray, List.set_cons_zero, List.set_cons_succ])
            refine wpAnyH_take (i := 5) (oi := { dst := some 111, op := Op.convert 3 5 (Operand.tmp 110), type := 5, pos := "law.go:188", after := #[{ on := 4, ground := Ground.data }, { on := 1, ground := Ground.guard }], guard := some (1, true) }) (v := ?_) rfl (by kernel_rfl) (by kernel_rfl) (by kernel_rfl) (fun _ _ _ h => h) (Or.inl ⟨by rfl, ?_⟩) (by assumption) ?_
            rotate_left
            · ((intro w hSw; (try dsimp only at hSw); go_simp); try with_reducible rfl)
            (try simp only [Act.put, List.setIfInBounds_toArray, List.set_cons_zero, List.set_cons_succ])
            refine wpAnyH_take (i := 9) (oi := { dst := some 115, op := Op.move (Operand.tmp 7), type := 26, pos := "law.go:188", after := #[{ on := 1, ground := Ground.guard }], guard := some (1, true) }) (v := ?_) rfl (by kernel_rfl) (by kernel_rfl) (by kernel_rfl) (fun _ _ _ h => h) (Or.inl ⟨by rfl, ?_⟩) (by assumption) ?_
            rotate_left
            · ((intro w hSw; (try dsimp only at hSw); go_simp); try with_reducible rfl)
            (try simp only [Act.put, List.setIfInBounds_toArray, List.set_cons_zero, List.set_cons_succ])
            refine wpAnyH_take (i := 10) (oi := { dst := some 116, op := Op.indexAddr 26 (Operand.tmp 115) (Operand.const (Value.int IntKind.i64 0)), type := 0, pos := "law.go:188", after := #[{ on := 9, ground := Ground.data }, { on := 1, ground := Ground.guard }], guard := some (1, true) }) (v := ?_) rfl (by kernel_rfl) (by kernel_rfl) (by kernel_rfl) (fun _ _ _ h => h) (Or.inl ⟨by rfl, ?_⟩) (by assumption) ?_
            rotate_left
            · ((intro w hSw; (try dsimp only at hSw); go_simp); try with_reducible rfl)
            (try simp only [Act.put, List.setIfInBounds_toArray, List.set_cons_zero, List.set_cons_succ])
            refine wpAnyH_take (i := 11) (oi := { dst := some 117, op := Op.load 9 (Operand.tmp 116), type := 9, pos := "law.go:188", after := #[{ on := 10, ground := Ground.data }, { on := 1, ground := Ground.guard }], guard := some (1, true) }) (v := ?_) rfl (by kernel_rfl) (by kernel_rfl) (by kernel_rfl) (fun _ _ _ h => h) (Or.inl ⟨by rfl, ?_⟩) (by assumption) ?_
            rotate_left
            · ((intro w hSw; (try dsimp only at hSw); go_simp); try with_reducible rfl)
            (try simp only [Act.put, List.setIfInBounds_toArray, List.set_cons_zero, List.set_cons_succ])
            refine wpAnyH_ready (rs := [3, 6]) (by kernel_rfl) (by simp) ?_
            refine AllReadyH.cons (o := { dst := some 109, op := Op.call { callee := Callee.value (Operand.func 21), args := #[Operand.tmp 108], argTypes := #[26] }, type := 9, pos := "law.go:188", after := #[{ on := 2, ground := Ground.data }, { on := 1, ground := Ground.chain }, { on := 1, ground := Ground.guard }], guard := some (1, true) }) rfl (fun K hK => ?_) ?_
            · go_simp
              refine (HRC.out _ (by (repeat' (first | exact Below.refl _ _ | (with_reducible assumption) | (refine bnext ?_ (by with_reducible assumption)) | (refine balloc ?_ _) | (refine below_drewN ?_ _) | (refine Below.drew ?_))))).mono ?_
              rintro e w2 ⟨rfl, hb2⟩
              (try have hcvB : Sem.run Try.prog (convert 40 9 (.slice (some ⟨wo.heap.size, 0, none⟩) 1 1)) w2 = .ok (.string D) w2 := HCV.out _ _ ((hb2.cell (p := ⟨wo.heap.size, 0, none⟩) (by simp)).trans (World.cell?_alloc_at _ _ _ _ rfl)))
              refine hK.out _ _ ?_ (fun hHeld => ?_)
              · (refine HX0.out _ ?_; (repeat' (first | exact Below.refl _ _ | (with_reducible assumption) | (refine bnext ?_ (by with_reducible assumption)) | (refine balloc ?_ _) | (refine below_drewN ?_ _) | (refine Below.drew ?_))); done)
              clear hK K
              (try simp only [Act.put, List.setIfInBounds_toArray, List.set_cons_zero, List.set_cons_succ])
              refine wpAnyH_ready (rs := [6]) (by kernel_rfl) (by simp) ?_
              refine AllReadyH.cons (o := { dst := some 112, op := Op.buildSlice 40 1 #[(0, Operand.tmp 111)], type := 40, pos := "law.go:188", after := #[{ on := 5, ground := Ground.data }, { on := 1, ground := Ground.guard }], guard := some (1, true) }) rfl (fun K hK => ?_) ?_
              · go_simp
                refine hK.out _ _ ?_ (fun hHeld => ?_)
                · (refine HX0.out _ ?_; (repeat' (first | exact Below.refl _ _ | (with_reducible assumption) | (refine bnext ?_ (by with_reducible assumption)) | (refine balloc ?_ _) | (refine below_drewN ?_ _) | (refine Below.drew ?_))); done)
                clear hK K
                (try simp only [Act.put, List.setIfInBounds_toArray, List.set_cons_zero, List.set_cons_succ])
                refine wpAnyH_ready (rs := [7]) (by kernel_rfl) (by simp) ?_
                refine AllReadyH.cons (o := { dst := some 113, op := Op.convert 40 9 (Operand.tmp 112), type := 9, pos := "law.go:188", after := #[{ on := 6, ground := Ground.data }, { on := 1, ground := Ground.guard }], guard := some (1, true) }) rfl (fun K hK => ?_) ?_
                · go_simp
                  refine hK.out _ _ ?_ (fun hHeld => ?_)
                  · (refine HX0.out _ ?_; (repeat' (first | exact Below.refl _ _ | (with_reducible assumption) | (refine bnext ?_ (by with_reducible assumption)) | (refine balloc ?_ _) | (refine below_drewN ?_ _) | (refine Below.drew ?_))); done)
                  clear hK K
                  (try simp only [Act.put, List.setIfInBounds_toArray, List.set_cons_zero, List.set_cons_succ])
                  refine wpAnyH_take (i := 8) (oi := { dst := some 114, op := Op.binOp BinOp.add 9 (Operand.const (Value.string { data := #[2] })) (Operand.tmp 113) 9, type := 9, pos := "law.go:188", after := #[{ on := 7, ground := Ground.data }, { on := 1, ground := Ground.guard }], guard := some (1, true) }) (v := ?_) rfl (by kernel_rfl) (by kernel_rfl) (by kernel_rfl) (fun _ _ _ h => h) (Or.inl ⟨by rfl, ?_⟩) (by assumption) ?_
                  rotate_left
                  · ((intro w hSw; (try dsimp only at hSw); go_simp); try with_reducible rfl)
                  (try simp only [Act.put, List.setIfInBounds_toArray, List.set_cons_zero, List.set_cons_succ])
                  refine wpAnyH_take (i := 12) (oi := { dst := some 118, op := Op.binOp BinOp.add 9 (Operand.tmp 114) (Operand.tmp 117) 9, type := 9, pos := "law.go:188", after := #[{ on := 8, ground := Ground.data }, { on := 11, ground := Ground.data }, { on := 1, ground := Ground.guard }], guard := some (1, true) }) (v := ?_) rfl (by kernel_rfl) (by kernel_rfl) (by kernel_rfl) (fun _ _ _ h => h) (Or.inl ⟨by rfl, ?_⟩) (by assumption) ?_
                  rotate_left
                  · ((intro w hSw; (try dsimp only at hSw); go_simp); try with_reducible rfl)
                  (try simp only [Act.put, List.setIfInBounds_toArray, List.set_cons_zero, List.set_cons_succ])
                  refine wpAnyH_ready (rs := [13]) (by kernel_rfl) (by simp) ?_
                  refine AllReadyH.cons (o := { dst := some 119, op := Op.call { callee := Callee.value (Operand.func 13), args := #[Operand.tmp 118], argTypes := #[9] }, type := 9, pos := "law.go:188", after := #[{ on := 12, ground := Ground.data }, { on := 3, ground := Ground.chain }, { on := 1, ground := Ground.guard }], guard := some (1, true) }) rfl (fun K hK => ?_) ?_
                  · go_simp
                    refine (HOF.out _).mono ?_
                    rintro e w3 ⟨rfl, hb3⟩
                    refine hK.out _ _ ?_ (fun hHeld => ?_)
                    · (refine HX0.out _ ?_; (repeat' (first | exact Below.refl _ _ | (with_reducible assumption) | (refine bnext ?_ (by with_reducible assumption)) | (refine balloc ?_ _) | (refine below_drewN ?_ _) | (refine Below.drew ?_))); done)
                    clear hK K
                    (try simp only [Act.put, List.setIfInBounds_toArray, List.set_cons_zero, List.set_cons_succ])
                    refine wpAnyH_take (i := 14) (oi := { dst := some 120, op := Op.binOp BinOp.eql 9 (Operand.tmp 109) (Operand.tmp 119) 9, type := 4, pos := "law.go:188", after := #[{ on := 3, ground := Ground.data }, { on := 13, ground := Ground.data }, { on := 1, ground := Ground.guard }], guard := some (1, true) }) (v := ?_) rfl (by kernel_rfl) (by kernel_rfl) (by kernel_rfl) (fun _ _ _ h => h) (Or.inl ⟨by rfl, ?_⟩) (by assumption) ?_
                    rotate_left
                    · ((intro w hSw; (try dsimp only at hSw); go_simp); try with_reducible rfl)
                    (try simp only [Act.put, List.setIfInBounds_toArray, List.set_cons_zero, List.set_cons_succ])
                    refine wpAnyH_take (i := 15) (oi := { dst := some 121, op := Op.pick (Operand.tmp 107) (Operand.tmp 120) (Operand.const (Value.bool false)), type := 4, pos := "law.go:188", after := #[{ on := 1, ground := Ground.data }, { on := 14, ground := Ground.data }], guard := none }) (v := ?_) rfl (by kernel_rfl) (by kernel_rfl) (by kernel_rfl) (fun _ _ _ h => h) (Or.inl ⟨by rfl, ?_⟩) (by assumption) ?_
                    rotate_left
                    · ((intro w hSw; (try dsimp only at hSw); go_simp); try with_reducible rfl)
                    (try simp only [Act.put, List.setIfInBounds_toArray, List.set_cons_zero, List.set_cons_succ])
                    refine wpAnyH_take (i := 16) (oi := { dst := some 4, op := Op.assign (Operand.tmp 121), type := 4, pos := "law.go:188", after := #[{ on := 15, ground := Ground.data }, { on := 13, ground := Ground.chain }, { on := 0, ground := Ground.phase }, { on := 1, ground := Ground.phase }, { on := 2, ground := Ground.phase }, { on := 3, ground := Ground.phase }, { on := 4, ground := Ground.phase }, { on := 5, ground := Ground.phase }, { on := 6, ground := Ground.phase }, { on := 7, ground := Ground.phase }, { on := 8, ground := Ground.phase }, { on := 9, ground := Ground.phase }, { on := 10, ground := Ground.phase }, { on := 11, ground := Ground.phase }, { on := 12, ground := Ground.phase }, { on := 13, ground := Ground.phase }, { on := 14, ground := Ground.phase }, { on := 15, ground := Ground.phase }], guard := none }) (v := ?_) rfl (by kernel_rfl) (by kernel_rfl) (by kernel_rfl) (fun _ _ _ h => h) (Or.inl ⟨by rfl, ?_⟩) (by assumption) ?_
                    rotate_left
                    · ((intro w hSw; (try dsimp only at hSw); go_simp); try with_reducible rfl)
                    (try simp only [Act.put, List.setIfInBounds_toArray, List.set_cons_zero, List.set_cons_succ])
                    refine wpAnyH_done (by kernel_rfl) ?_ _
                    go_wp2
                    go_ret
                    exact ⟨rfl, by (repeat' (first | exact Below.refl _ _ | (with_reducible assumption) | (refine bnext ?_ (by with_reducible assumption)) | (refine balloc ?_ _) | (refine below_drewN ?_ _) | (refine Below.drew ?_)))⟩
                  exact AllReadyH.nil
                exact AllReadyH.nil
              exact AllReadyH.nil
            refine AllReadyH.cons (o := { dst := some 112, op := Op.buildSlice 40 1 #[(0, Operand.tmp 111)], type := 40, pos := "law.go:188", after := #[{ on := 5, ground := Ground.data }, { on := 1, ground := Ground.guard }], guard := some (1, true) }) rfl (fun K hK => ?_) ?_
            · go_simp
              refine hK.out _ _ ?_ (fun hHeld => ?_)
              · (refine HX0.out _ ?_; (repeat' (first | exact Below.refl _ _ | (with_reducible assumption) | (refine bnext ?_ (by with_reducible assumption)) | (refine balloc ?_ _) | (refine below_drewN ?_ _) | (refine Below.drew ?_))); done)
              clear hK K
              (try simp only [Act.put, List.setIfInBounds_toArray, List.set_cons_zero, List.set_cons_succ])
              refine wpAnyH_ready (rs := [3, 7]) (by kernel_rfl) (by simp) ?_
              refine AllReadyH.cons (o := { dst := some 109, op := Op.call { callee := Callee.value (Operand.func 21), args := #[Operand.tmp 108], argTypes := #[26] }, type := 9, pos := "law.go:188", after := #[{ on := 2, ground := Ground.data }, { on := 1, ground := Ground.chain }, { on := 1, ground := Ground.guard }], guard := some (1, true) }) rfl (fun K hK => ?_) ?_
              · go_simp
                refine (HRC.out _ (by (repeat' (first | exact Below.refl _ _ | (with_reducible assumption) | (refine bnext ?_ (by with_reducible assumption)) | (refine balloc ?_ _) | (refine below_drewN ?_ _) | (refine Below.drew ?_))))).mono ?_
                rintro e w2 ⟨rfl, hb2⟩
                (try have hcvB : Sem.run Try.prog (convert 40 9 (.slice (some ⟨wo.heap.size, 0, none⟩) 1 1)) w2 = .ok (.string D) w2 := HCV.out _ _ ((hb2.cell (p := ⟨wo.heap.size, 0, none⟩) (by simp)).trans (World.cell?_alloc_at _ _ _ _ rfl)))
                refine hK.out _ _ ?_ (fun hHeld => ?_)
                · (refine HX0.out _ ?_; (repeat' (first | exact Below.refl _ _ | (with_reducible assumption) | (refine bnext ?_ (by with_reducible assumption)) | (refine balloc ?_ _) | (refine below_drewN ?_ _) | (refine Below.drew ?_))); done)
                clear hK K
                (try simp only [Act.put, List.setIfInBounds_toArray, List.set_cons_zero, List.set_cons_succ])
                refine wpAnyH_ready (rs := [7]) (by kernel_rfl) (by simp) ?_
                refine AllReadyH.cons (o := { dst := some 113, op := Op.convert 40 9 (Operand.tmp 112), type := 9, pos := "law.go:188", after := #[{ on := 6, ground := Ground.data }, { on := 1, ground := Ground.guard }], guard := some (1, true) }) rfl (fun K hK => ?_) ?_
                · go_simp
                  refine hK.out _ _ ?_ (fun hHeld => ?_)
                  · (refine HX0.out _ ?_; (repeat' (first | exact Below.refl _ _ | (with_reducible assumption) | (refine bnext ?_ (by with_reducible assumption)) | (refine balloc ?_ _) | (refine below_drewN ?_ _) | (refine Below.drew ?_))); done)
                  clear hK K
                  (try simp only [Act.put, List.setIfInBounds_toArray, List.set_cons_zero, List.set_cons_succ])
                  refine wpAnyH_take (i := 8) (oi := { dst := some 114, op := Op.binOp BinOp.add 9 (Operand.const (Value.string { data := #[2] })) (Operand.tmp 113) 9, type := 9, pos := "law.go:188", after := #[{ on := 7, ground := Ground.data }, { on := 1, ground := Ground.guard }], guard := some (1, true) }) (v := ?_) rfl (by kernel_rfl) (by kernel_rfl) (by kernel_rfl) (fun _ _ _ h => h) (Or.inl ⟨by rfl, ?_⟩) (by assumption) ?_
                  rotate_left
                  · ((intro w hSw; (try dsimp only at hSw); go_simp); try with_reducible rfl)
                  (try simp only [Act.put, List.setIfInBounds_toArray, List.set_cons_zero, List.set_cons_succ])
                  refine wpAnyH_take (i := 12) (oi := { dst := some 118, op := Op.binOp BinOp.add 9 (Operand.tmp 114) (Operand.tmp 117) 9, type := 9, pos := "law.go:188", after := #[{ on := 8, ground := Ground.data }, { on := 11, ground := Ground.data }, { on := 1, ground := Ground.guard }], guard := some (1, true) }) (v := ?_) rfl (by kernel_rfl) (by kernel_rfl) (by kernel_rfl) (fun _ _ _ h => h) (Or.inl ⟨by rfl, ?_⟩) (by assumption) ?_
                  rotate_left
                  · ((intro w hSw; (try dsimp only at hSw); go_simp); try with_reducible rfl)
                  (try simp only [Act.put, List.setIfInBounds_toArray, List.set_cons_zero, List.set_cons_succ])
                  refine wpAnyH_ready (rs := [13]) (by kernel_rfl) (by simp) ?_
                  refine AllReadyH.cons (o := { dst := some 119, op := Op.call { callee := Callee.value (Operand.func 13), args := #[Operand.tmp 118], argTypes := #[9] }, type := 9, pos := "law.go:188", after := #[{ on := 12, ground := Ground.data }, { on := 3, ground := Ground.chain }, { on := 1, ground := Ground.guard }], guard := some (1, true) }) rfl (fun K hK => ?_) ?_
                  · go_simp
                    refine (HOF.out _).mono ?_
                    rintro e w3 ⟨rfl, hb3⟩
                    refine hK.out _ _ ?_ (fun hHeld => ?_)
                    · (refine HX0.out _ ?_; (repeat' (first | exact Below.refl _ _ | (with_reducible assumption) | (refine bnext ?_ (by with_reducible assumption)) | (refine balloc ?_ _) | (refine below_drewN ?_ _) | (refine Below.drew ?_))); done)
                    clear hK K
                    (try simp only [Act.put, List.setIfInBounds_toArray, List.set_cons_zero, List.set_cons_succ])
                    refine wpAnyH_take (i := 14) (oi := { dst := some 120, op := Op.binOp BinOp.eql 9 (Operand.tmp 109) (Operand.tmp 119) 9, type := 4, pos := "law.go:188", after := #[{ on := 3, ground := Ground.data }, { on := 13, ground := Ground.data }, { on := 1, ground := Ground.guard }], guard := some (1, true) }) (v := ?_) rfl (by kernel_rfl) (by kernel_rfl) (by kernel_rfl) (fun _ _ _ h => h) (Or.inl ⟨by rfl, ?_⟩) (by assumption) ?_
                    rotate_left
                    · ((intro w hSw; (try dsimp only at hSw); go_simp); try with_reducible rfl)
                    (try simp only [Act.put, List.setIfInBounds_toArray, List.set_cons_zero, List.set_cons_succ])
                    refine wpAnyH_take (i := 15) (oi := { dst := some 121, op := Op.pick (Operand.tmp 107) (Operand.tmp 120) (Operand.const (Value.bool false)), type := 4, pos := "law.go:188", after := #[{ on := 1, ground := Ground.data }, { on := 14, ground := Ground.data }], guard := none }) (v := ?_) rfl (by kernel_rfl) (by kernel_rfl) (by kernel_rfl) (fun _ _ _ h => h) (Or.inl ⟨by rfl, ?_⟩) (by assumption) ?_
                    rotate_left
                    · ((intro w hSw; (try dsimp only at hSw); go_simp); try with_reducible rfl)
                    (try simp only [Act.put, List.setIfInBounds_toArray, List.set_cons_zero, List.set_cons_succ])
                    refine wpAnyH_take (i := 16) (oi := { dst := some 4, op := Op.assign (Operand.tmp 121), type := 4, pos := "law.go:188", after := #[{ on := 15, ground := Ground.data }, { on := 13, ground := Ground.chain }, { on := 0, ground := Ground.phase }, { on := 1, ground := Ground.phase }, { on := 2, ground := Ground.phase }, { on := 3, ground := Ground.phase }, { on := 4, ground := Ground.phase }, { on := 5, ground := Ground.phase }, { on := 6, ground := Ground.phase }, { on := 7, ground := Ground.phase }, { on := 8, ground := Ground.phase }, { on := 9, ground := Ground.phase }, { on := 10, ground := Ground.phase }, { on := 11, ground := Ground.phase }, { on := 12, ground := Ground.phase }, { on := 13, ground := Ground.phase }, { on := 14, ground := Ground.phase }, { on := 15, ground := Ground.phase }], guard := none }) (v := ?_) rfl (by kernel_rfl) (by kernel_rfl) (by kernel_rfl) (fun _ _ _ h => h) (Or.inl ⟨by rfl, ?_⟩) (by assumption) ?_
                    rotate_left
                    · ((intro w hSw; (try dsimp only at hSw); go_simp); try with_reducible rfl)
                    (try simp only [Act.put, List.setIfInBounds_toArray, List.set_cons_zero, List.set_cons_succ])
                    refine wpAnyH_done (by kernel_rfl) ?_ _
                    go_wp2
                    go_ret
                    exact ⟨rfl, by (repeat' (first | exact Below.refl _ _ | (with_reducible assumption) | (refine bnext ?_ (by with_reducible assumption)) | (refine balloc ?_ _) | (refine below_drewN ?_ _) | (refine Below.drew ?_)))⟩
                  exact AllReadyH.nil
                exact AllReadyH.nil
              refine AllReadyH.cons (o := { dst := some 113, op := Op.convert 40 9 (Operand.tmp 112), type := 9, pos := "law.go:188", after := #[{ on := 6, ground := Ground.data }, { on := 1, ground := Ground.guard }], guard := some (1, true) }) rfl (fun K hK => ?_) ?_
              · go_simp
                refine hK.out _ _ ?_ (fun hHeld => ?_)
                · (refine HX0.out _ ?_; (repeat' (first | exact Below.refl _ _ | (with_reducible assumption) | (refine bnext ?_ (by with_reducible assumption)) | (refine balloc ?_ _) | (refine below_drewN ?_ _) | (refine Below.drew ?_))); done)
                clear hK K
                (try simp only [Act.put, List.setIfInBounds_toArray, List.set_cons_zero, List.set_cons_succ])
                refine wpAnyH_take (i := 8) (oi := { dst := some 114, op := Op.binOp BinOp.add 9 (Operand.const (Value.string { data := #[2] })) (Operand.tmp 113) 9, type := 9, pos := "law.go:188", after := #[{ on := 7, ground := Ground.data }, { on := 1, ground := Ground.guard }], guard := some (1, true) }) (v := ?_) rfl (by kernel_rfl) (by kernel_rfl) (by kernel_rfl) (fun _ _ _ h => h) (Or.inl ⟨by rfl, ?_⟩) (by assumption) ?_
                rotate_left
                · ((intro w hSw; (try dsimp only at hSw); go_simp); try with_reducible rfl)
                (try simp only [Act.put, List.setIfInBounds_toArray, List.set_cons_zero, List.set_cons_succ])
                refine wpAnyH_take (i := 12) (oi := { dst := some 118, op := Op.binOp BinOp.add 9 (Operand.tmp 114) (Operand.tmp 117) 9, type := 9, pos := "law.go:188", after := #[{ on := 8, ground := Ground.data }, { on := 11, ground := Ground.data }, { on := 1, ground := Ground.guard }], guard := some (1, true) }) (v := ?_) rfl (by kernel_rfl) (by kernel_rfl) (by kernel_rfl) (fun _ _ _ h => h) (Or.inl ⟨by rfl, ?_⟩) (by assumption) ?_
                rotate_left
                · ((intro w hSw; (try dsimp only at hSw); go_simp); try with_reducible rfl)
                (try simp only [Act.put, List.setIfInBounds_toArray, List.set_cons_zero, List.set_cons_succ])
                refine wpAnyH_ready (rs := [3]) (by kernel_rfl) (by simp) ?_
                refine AllReadyH.cons (o := { dst := some 109, op := Op.call { callee := Callee.value (Operand.func 21), args := #[Operand.tmp 108], argTypes := #[26] }, type := 9, pos := "law.go:188", after := #[{ on := 2, ground := Ground.data }, { on := 1, ground := Ground.chain }, { on := 1, ground := Ground.guard }], guard := some (1, true) }) rfl (fun K hK => ?_) ?_
                · go_simp
                  refine (HRC.out _ (by (repeat' (first | exact Below.refl _ _ | (with_reducible assumption) | (refine bnext ?_ (by with_reducible assumption)) | (refine balloc ?_ _) | (refine below_drewN ?_ _) | (refine Below.drew ?_))))).mono ?_
                  rintro e w2 ⟨rfl, hb2⟩
                  (try have hcvB : Sem.run Try.prog (convert 40 9 (.slice (some ⟨wo.heap.size, 0, none⟩) 1 1)) w2 = .ok (.string D) w2 := HCV.out _ _ ((hb2.cell (p := ⟨wo.heap.size, 0, none⟩) (by simp)).trans (World.cell?_alloc_at _ _ _ _ rfl)))
                  refine hK.out _ _ ?_ (fun hHeld => ?_)
                  · (refine HX0.out _ ?_; (repeat' (first | exact Below.refl _ _ | (with_reducible assumption) | (refine bnext ?_ (by with_reducible assumption)) | (refine balloc ?_ _) | (refine below_drewN ?_ _) | (refine Below.drew ?_))); done)
                  clear hK K
                  (try simp only [Act.put, List.setIfInBounds_toArray, List.set_cons_zero, List.set_cons_succ])
                  refine wpAnyH_ready (rs := [13]) (by kernel_rfl) (by simp) ?_
                  refine AllReadyH.cons (o := { dst := some 119, op := Op.call { callee := Callee.value (Operand.func 13), args := #[Operand.tmp 118], argTypes := #[9] }, type := 9, pos := "law.go:188", after := #[{ on := 12, ground := Ground.data }, { on := 3, ground := Ground.chain }, { on := 1, ground := Ground.guard }], guard := some (1, true) }) rfl (fun K hK => ?_) ?_
                  · go_simp
                    refine (HOF.out _).mono ?_
                    rintro e w3 ⟨rfl, hb3⟩
                    refine hK.out _ _ ?_ (fun hHeld => ?_)
                    · (refine HX0.out _ ?_; (repeat' (first | exact Below.refl _ _ | (with_reducible assumption) | (refine bnext ?_ (by with_reducible assumption)) | (refine balloc ?_ _) | (refine below_drewN ?_ _) | (refine Below.drew ?_))); done)
                    clear hK K
                    (try simp only [Act.put, List.setIfInBounds_toArray, List.set_cons_zero, List.set_cons_succ])
                    refine wpAnyH_take (i := 14) (oi := { dst := some 120, op := Op.binOp BinOp.eql 9 (Operand.tmp 109) (Operand.tmp 119) 9, type := 4, pos := "law.go:188", after := #[{ on := 3, ground := Ground.data }, { on := 13, ground := Ground.data }, { on := 1, ground := Ground.guard }], guard := some (1, true) }) (v := ?_) rfl (by kernel_rfl) (by kernel_rfl) (by kernel_rfl) (fun _ _ _ h => h) (Or.inl ⟨by rfl, ?_⟩) (by assumption) ?_
                    rotate_left
                    · ((intro w hSw; (try dsimp only at hSw); go_simp); try with_reducible rfl)
                    (try simp only [Act.put, List.setIfInBounds_toArray, List.set_cons_zero, List.set_cons_succ])
                    refine wpAnyH_take (i := 15) (oi := { dst := some 121, op := Op.pick (Operand.tmp 107) (Operand.tmp 120) (Operand.const (Value.bool false)), type := 4, pos := "law.go:188", after := #[{ on := 1, ground := Ground.data }, { on := 14, ground := Ground.data }], guard := none }) (v := ?_) rfl (by kernel_rfl) (by kernel_rfl) (by kernel_rfl) (fun _ _ _ h => h) (Or.inl ⟨by rfl, ?_⟩) (by assumption) ?_
                    rotate_left
                    · ((intro w hSw; (try dsimp only at hSw); go_simp); try with_reducible rfl)
                    (try simp only [Act.put, List.setIfInBounds_toArray, List.set_cons_zero, List.set_cons_succ])
                    refine wpAnyH_take (i := 16) (oi := { dst := some 4, op := Op.assign (Operand.tmp 121), type := 4, pos := "law.go:188", after := #[{ on := 15, ground := Ground.data }, { on := 13, ground := Ground.chain }, { on := 0, ground := Ground.phase }, { on := 1, ground := Ground.phase }, { on := 2, ground := Ground.phase }, { on := 3, ground := Ground.phase }, { on := 4, ground := Ground.phase }, { on := 5, ground := Ground.phase }, { on := 6, ground := Ground.phase }, { on := 7, ground := Ground.phase }, { on := 8, ground := Ground.phase }, { on := 9, ground := Ground.phase }, { on := 10, ground := Ground.phase }, { on := 11, ground := Ground.phase }, { on := 12, ground := Ground.phase }, { on := 13, ground := Ground.phase }, { on := 14, ground := Ground.phase }, { on := 15, ground := Ground.phase }], guard := none }) (v := ?_) rfl (by kernel_rfl) (by kernel_rfl) (by kernel_rfl) (fun _ _ _ h => h) (Or.inl ⟨by rfl, ?_⟩) (by assumption) ?_
                    rotate_left
                    · ((intro w hSw; (try dsimp only at hSw); go_simp); try with_reducible rfl)
                    (try simp only [Act.put, List.setIfInBounds_toArray, List.set_cons_zero, List.set_cons_succ])
                    refine wpAnyH_done (by kernel_rfl) ?_ _
                    go_wp2
                    go_ret
                    exact ⟨rfl, by (repeat' (first | exact Below.refl _ _ | (with_reducible assumption) | (refine bnext ?_ (by with_reducible assumption)) | (refine balloc ?_ _) | (refine below_drewN ?_ _) | (refine Below.drew ?_)))⟩
                  exact AllReadyH.nil
                exact AllReadyH.nil
              exact AllReadyH.nil
            exact AllReadyH.nil

set_option maxRecDepth 100000 in
theorem lifted (os : Os) (started : os.Started) (H : Type) (enc : TypeId × Value → H) :
    ReturnsInHanded {} Try.checked os 10 .any (Rows.digestTreesSpec.pre6 enc Try.prog Try.f10 Rows.digestTreesRow.domain false) (Rows.digestTreesSpec.post enc Try.prog Try.f10 false true false false) := by
  refine returnsInHanded_of_change (C := Try.checked) own started (by kernel_rfl) Try.func10
    (ChangeSpec.witness6 (enc := enc) (C := Try.checked) false ⟨#[], #[.agg #[.string ByteArray.empty, .string ByteArray.empty, .string ByteArray.empty, .string ByteArray.empty, .string ByteArray.empty, .string ByteArray.empty, .string ByteArray.empty, .string ByteArray.empty], .int .u8 0], []⟩ 8 (by kernel_rfl) (by kernel_rfl) (by kernel_rfl) (by kernel_rfl)) ?_
  intro W base args ds gs before hval0 hW hcnd _
  have hval : ∀ (j : Nat) t v, Try.f10.params[j]? = some t → args[j]? = some v → Value.okWide Try.prog W .any base t v := hval0
  have hW' := hW
  obtain ⟨p, q, hA0, hV, rfl, hfz, hnd⟩ := hW
  have hA : DataW.TrodAll enc Try.prog W 0 (fun _ => true) true Try.f10.params.toList args.toList ds p := hA0
  rw [Try.params10] at hA hval
  obtain ⟨v0, vs0, d0, ds0, p0, q0, hargs, rfl, rfl, h0, r0⟩ := trodAll_cons hA
  obtain ⟨v1, vs1, d1, ds1, p1, q1, rfl, rfl, rfl, h1, r1⟩ := trodAll_cons r0
  obtain ⟨rfl, rfl, rfl⟩ := trodAll_nil r1
  obtain rfl : args = #[v0, v1] := by cases args; simp_all
  obtain ⟨rfl, rfl⟩ := trodVars_none hV
  have k0 := h0
  have lt0 : ∀ x ∈ p0, x.block < W.heap.size := by obtain ⟨m, hm⟩ := k0; exact DataW.trod_lt m _ _ _ hm
  have k1 := h1
  have lt1 : ∀ x ∈ p1, x.block < W.heap.size := by obtain ⟨m, hm⟩ := k1; exact DataW.trod_lt m _ _ _ hm
  obtain ⟨t0a, t0b, t0c, t0d, t0e, t0f, t0g, t0k, rfl, wt0a, wt0b, wt0c, wt0d, wt0e, wt0f, wt0g, wt0k⟩ := open_arr8s Try.underlying43 Try.underlying9 (by kernel_rfl) (by kernel_rfl) (hval 0 43 v0 rfl rfl) h0
  obtain ⟨a1, rfl, rfl, rfl, wa1⟩ := open_int Try.underlying5 (hval 1 5 v1 rfl rfl) h1
  clear hA0 hval0
  refine (walk t0a t0b t0c t0d t0e t0f t0g t0k a1 wt0a wt0b wt0c wt0d wt0e wt0f wt0g wt0k wa1 W).mono fun e W' ⟨he, bel⟩ => ?_
  subst he
  exact ⟨_, rfl, _, _, _, [], _, [], hW', trodAll_mk1 (shut_bool Try.underlying4 _), (trodAll_cons_mk (Below.trod laidOut (by kernel_rfl) (of_decide_eq_true (by kernel_rfl)) k0 bel lt0) (trodAll_cons_mk (Below.trod laidOut (by kernel_rfl) (of_decide_eq_true (by kernel_rfl)) k1 bel lt1) trodAll_mk0)), rfl, bel.frame _, fun h => by cases h⟩

theorem over : Rows.digestTreesRow.holds Try.pinned (OpenSpec.ofChange Rows.digestTreesSpec) :=
  OpenClaim.holds_of_wide 10 Try.f10 rfl rfl rfl rfl rfl rfl rfl ⟨rfl, rfl, rfl, rfl, rfl⟩ rfl rfl rfl rfl rfl (by kernel_rfl) Try.func10 (by kernel_rfl)
    (of_decide_eq_true (by kernel_rfl)) (by unfold Func.isWrapper; first | (rw [if_pos (by decide +kernel)]; kernel_rfl) | (rw [if_neg (by decide +kernel)]; exact ⟨rfl, rfl⟩))
    (fun os started H enc _ => lifted os started H enc)

end Go.Proofs.Ytfikbcgadpbblaa.digestTrees
namespace Go.Proofs.Ytfikbcgadpbblaa
theorem digestTrees_proved : Rows.DigestTreesSaid := digestTrees.over
#print axioms digestTrees_proved
end Go.Proofs.Ytfikbcgadpbblaa
