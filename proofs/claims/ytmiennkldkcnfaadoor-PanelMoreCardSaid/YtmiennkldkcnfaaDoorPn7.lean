/- The reference's panel: New, Fail, Pixels, Updates, Within, Same. No conditions. -/
import Derived.Test.YtmiennkldkcnfaaDoorPn6
namespace Go.Proofs.YtmiennkldkcnfaaDoor
set_option maxRecDepth 100000
set_option linter.unusedVariables false
open Go.RowKit Go.Deep
def Pn.lv (P : Pn) : Int := if P.fa = true then (P.left : Int) else -1
structure RfAt (V : World) (b g : Nat) (P : Pn) : Prop where
  hd : V.heap[b]? = some (.cells #[.int .i64 (P.w : Int), .slice (some ⟨g, 0, none⟩) P.R.length P.R.length, .int .i64 P.lv, .int .i64 (P.upd : Int)] 74 (0, 0))
  row : V.heap[g]? = some (.cells (P.R.map U6).toArray 63 (0, 0))
  ne : b ≠ g
theorem rnew_any (W : World) (w h : Nat) (hw : 1 ≤ w ∧ w ≤ 64) (hh : 1 ≤ h ∧ h ≤ 64) : Calls Tryd.prog 13 #[.int .i64 (w : Int), .int .i64 (h : Int)] W fun e w' => ∃ b g, e = .returned (.pointer (some ⟨b, 0, none⟩)) ∧ RfAt w' b g ⟨w, List.replicate h 0, 0, false, 0⟩ ∧ W.heap.size ≤ b ∧ W.heap.size ≤ g ∧ Below W.heap.size W w' := by
  have hm := make_u64 W h (by omega)
  have hx := heap_alloc_new W (.cells ((List.replicate h (0 : Nat)).map U6).toArray 63)
  have hb := balloc (Below.refl _ W) (.cells ((List.replicate h (0 : Nat)).map U6).toArray 63)
  obtain ⟨g, hg⟩ : ∃ g, W.heap.size = g := ⟨_, rfl⟩
  obtain ⟨W1, hW1⟩ : ∃ W1, W.alloc (.cells ((List.replicate h (0 : Nat)).map U6).toArray 63) = W1 := ⟨_, rfl⟩
  have hsz : W1.heap.size = g + 1 := by rw [← hW1]; simp [hg]
  rw [hW1] at hm hx hb
  rw [hg] at hm hx hb
  have HE : Hid (RfAt (W1.alloc (.cells #[.int .i64 (w : Int), .slice (some ⟨g, 0, none⟩) h h, .int .i64 (-1), .int .i64 0] 74)) W1.heap.size g ⟨w, List.replicate h 0, 0, false, 0⟩ ∧ g ≤ W1.heap.size ∧ Below g W (W1.alloc (.cells #[.int .i64 (w : Int), .slice (some ⟨g, 0, none⟩) h h, .int .i64 (-1), .int .i64 0] 74))) := Lib.hid (by
    have hb2 := balloc (Below.refl _ W1) (.cells #[.int .i64 (w : Int), .slice (some ⟨g, 0, none⟩) h h, .int .i64 (-1), .int .i64 0] 74)
    refine ⟨⟨?_, (hb2.block g (by omega)).trans hx, by omega⟩, by omega, ?_⟩
    · rw [heap_alloc_new]
      simp [Pn.lv]
    · have hb0 : Below W.heap.size W W1 := by rw [hg]; exact hb
      have hb3 := bnext hb0 hb2
      rw [hg] at hb3
      exact hb3)
  rw [hg]
  clear hx hb hW1 hg hsz
  go_enter Tryd.func13, Tryd.ntmps13
  go_wp2
  go_ret
  exact ⟨_, g, rfl, HE.out.1, HE.out.2.1, Nat.le_refl _, HE.out.2.2⟩
section
variable {V V' : World} {b g : Nat} {P : Pn}
theorem RfAt.below (h : RfAt V b g P) (hb : Below V.heap.size V V') : RfAt V' b g P := ⟨(hb.block b (Array.getElem?_eq_some_iff.1 h.hd).1).trans h.hd, (hb.block g (Array.getElem?_eq_some_iff.1 h.row).1).trans h.row, h.ne⟩
theorem RfAt.frame {S : Nat → Prop} (h : RfAt V b g P) (hf : FrS S V V') (h1 : ¬ S b) (h2 : ¬ S g) : RfAt V' b g P := ⟨hf.nd h.hd h1, hf.nd h.row h2, h.ne⟩
theorem RfAt.cell (h : RfAt V b g P) {k x : Nat} (hk : P.R[k]? = some x) : V.cell? ⟨g, k, none⟩ = some (U6 x) := nd_cell h.row (by simp [hk])
theorem RfAt.ua (h : RfAt V b g P) : UA V (.slice (some ⟨g, 0, none⟩) P.R.length P.R.length) P.R :=
  ⟨_, _, rfl, by simp, .inr ⟨g, 0, rfl, (Array.getElem?_eq_some_iff.1 h.row).1, fun j u hu => by rw [Nat.zero_add]; exact nd_cell h.row (by simpa using hu)⟩⟩
theorem rnone_any (h : RfAt V b g P) (ho : PnOk P) : Calls Tryd.prog 39 #[.pointer (some ⟨b, 0, none⟩)] V fun e w' => e = .returned (.bool false) ∧ w' = V := by
  have c0 : V.cell? ⟨b, 0, none⟩ = some (.int .i64 (P.w : Int)) := nd_cell h.hd rfl
  have h1 := ho.w1
  obtain ⟨n, hn⟩ : ∃ n, P.w = n := ⟨_, rfl⟩
  rw [hn] at c0 h1
  have hnz : ((n : Int) == 0) = false := by simp; omega
  clear hn h ho
  go_enter Tryd.func39, Tryd.ntmps39
  go_wp2
  go_ret
  exact ⟨rfl, rfl⟩
theorem rfail_any (h : RfAt V b g P) (ho : PnOk P) (n : Int) : Calls Tryd.prog 35 #[.pointer (some ⟨b, 0, none⟩), .int .i64 n] V fun e w' => e = .returned (.tuple #[]) ∧ RfAt w' b g { P with fa := decide (0 ≤ n), left := n.toNat } ∧ FrS (FP b g) V w' := by
  have HZ := Lib.hid (rnone_any h ho)
  have c2 : V.cell? ⟨b, 2, none⟩ = some (.int .i64 P.lv) := nd_cell h.hd rfl
  have f2 := nd_froz h.hd 2
  obtain ⟨m, hm⟩ : ∃ m : Int, max n (-1) = m := ⟨_, rfl⟩
  have hm2 : (if n < -1 then -1 else n) = m := by omega
  have hm3 : (if -1 < n then n else -1) = m := by omega
  have hm4 : max (-1) n = m := by omega
  have hm5 : (if -1 ≤ n then n else -1) = m := by omega
  have HE : Hid (RfAt (V.setCell ⟨b, 2, none⟩ (.int .i64 m)) b g { P with fa := decide (0 ≤ n), left := n.toNat } ∧ FrS (FP b g) V (V.setCell ⟨b, 2, none⟩ (.int .i64 m))) := Lib.hid (by
    refine ⟨⟨?_, ?_, h.ne⟩, FrS.set V (.inl rfl) _⟩
    · rw [heap_setCell_same _ b 2 _ _ _ h.hd]
      have : (({ P with fa := decide (0 ≤ n), left := n.toNat } : Pn).lv) = m := by
        unfold Pn.lv
        simp only [decide_eq_true_eq]
        split <;> omega
      rw [this]
      rfl
    · rw [Below.heap_setCell _ ⟨b, 2, none⟩ _ g (fun e => h.ne e.symm)]
      exact h.row)
  clear h ho
  go_enter Tryd.func35, Tryd.ntmps35
  go_wp2_with fail
  go_at_call 39
  refine HZ.out.mono ?_
  rintro e wz ⟨rfl, he⟩
  have he' := he.symm
  subst he'
  go_wp2
  refine bodyPost_end (v := .tuple #[]) (results_none Tryd.results35 _ _ _) rfl ⟨rfl, HE.out⟩
theorem rupdates_any (h : RfAt V b g P) : Calls Tryd.prog 19 #[.pointer (some ⟨b, 0, none⟩)] V fun e w' => e = .returned (.int .i64 (P.upd : Int)) ∧ w' = V := by
  have c3 : V.cell? ⟨b, 3, none⟩ = some (.int .i64 (P.upd : Int)) := nd_cell h.hd rfl
  clear h
  go_enter Tryd.func19, Tryd.ntmps19
  go_wp2
  go_ret
  exact ⟨rfl, rfl⟩
theorem rpixels_any (h : RfAt V b g P) (ho : PnOk P) : Calls Tryd.prog 17 #[.pointer (some ⟨b, 0, none⟩)] V fun e w' => ∃ v', e = .returned v' ∧ w'.ownsRow V.heap.size 63 1 v' P.R.length (P.R.map U6) ∧ Below V.heap.size V w' := by
  obtain ⟨i0, hi0, hz0, hz1, hz2⟩ := info_parts info_u64
  have HZ := Lib.hid (rnone_any h ho)
  have HC : Hid (∀ U, Below V.heap.size V U → U.cell? ⟨b, 1, none⟩ = some (.slice (some ⟨g, 0, none⟩) P.R.length P.R.length) ∧ SrcN 1 U (.slice (some ⟨g, 0, none⟩) P.R.length P.R.length) P.R.length (P.R.map U6)) := Lib.hid fun U hU => ⟨nd_cell (h.below hU).hd rfl, (h.below hU).ua⟩
  have h64 := ho.h64
  obtain ⟨n, hn⟩ : ∃ n, P.R.length = n := ⟨_, rfl⟩
  rw [hn] at HC h64 ⊢
  have hc1 := (HC.out V (Below.refl _ _)).1
  have hc2 := (HC.out _ (balloc (Below.refl _ V) (.cells #[] 63))).1
  clear h ho hn
  go_enter Tryd.func17, Tryd.ntmps17
  go_wp2_with fail
  go_at_call 39
  refine HZ.out.mono ?_
  rintro e wz ⟨rfl, he⟩
  have he' := he.symm
  subst he'
  go_wp2_with (at_builtin; refine wpList_appN _ rfl _ _ 32 rfl V.heap.size 63 i0 _ 1 8 Tryd.underlying32 hi0 hz0 hz1 hz2 rfl (by decide) _ 0 [] rfl (own_empty V 63 1 V.heap.size (Nat.le_refl _)) _ n (P.R.map U6) (by rfl) (HC.out _ (balloc (Below.refl _ _) _)).2 (u64_cells P.R) (by unfold maxLen; omega) (by omega) (by simp) ?_; intro v' w1 hown hgrow _; obtain ⟨va, vc, rfl⟩ := own_shape hown)
  have hb : Below V.heap.size V w1 := (balloc (Below.refl _ V) (.cells #[] 63)).grown hgrow (by simp) (fun k e => by have : V.heap.size = k := Option.some.inj e; omega)
  rw [Nat.zero_add, List.nil_append] at hown
  go_wp2
  go_ret
  exact ⟨_, rfl, hown, hb⟩
end
theorem within_any (W : World) (c : Rc) (w h : Int) (hc : rcOk c) (hw : 0 ≤ w ∧ w ≤ 1000000000) (hh : 0 ≤ h ∧ h ≤ 1000000000) :
    Calls Tryd.prog 32 #[rcV c, .int .i64 w, .int .i64 h] W fun e w' => e = .returned (.bool (decide (wiP c w h))) ∧ Below W.heap.size W w' := by
  obtain ⟨x, y, cw, ch⟩ := c
  obtain ⟨h1, h2, h3, h4⟩ := hc
  dsimp only at h1 h2 h3 h4
  obtain ⟨B, hB⟩ : ∃ B, decide (wiP ⟨x, y, cw, ch⟩ w h) = B := ⟨_, rfl⟩
  have HB := Lib.hid hB
  rw [hB]
  clear hB
  go_enter Tryd.func32, Tryd.ntmps32
  go_wp2
  all_goals
    go_ret
    refine ⟨retb ?_, balloc (Below.refl _ _) _⟩
    rw [← HB.out]
    first
      | exact (decide_eq_true (show wiP _ _ _ by unfold wiP; dsimp only; omega)).symm
      | exact (decide_eq_false (show ¬ wiP _ _ _ by unfold wiP; dsimp only; omega)).symm
      | (rw [Bool.eq_iff_iff, decide_eq_true_eq, decide_eq_true_eq]; unfold wiP; dsimp only; omega)
      | (rw [Bool.eq_iff_iff, Bool.and_eq_true, decide_eq_true_eq, decide_eq_true_eq, decide_eq_true_eq]; unfold wiP; dsimp only; omega)
set_option maxHeartbeats 1000000 in
theorem same_any (u v : Value) (A B : List Nat) (w : World) (hu : UA w u A) (hv : UA w v B) (hA : A.length ≤ 1000000) (hB : B.length ≤ 1000000) :
    Calls Tryd.prog 15 #[u, v] w fun e w' => e = .returned (.bool (decide (A = B))) ∧ Below w.heap.size w w' := by
  obtain ⟨a1, c1, rfl⟩ := hu.shape
  obtain ⟨a2, c2, rfl⟩ := hv.shape
  obtain ⟨n, hn⟩ : ∃ n, A.length = n := ⟨_, rfl⟩
  obtain ⟨m, hm⟩ : ∃ m, B.length = m := ⟨_, rfl⟩
  rw [hn] at hu hA ⊢
  rw [hm] at hv hB ⊢
  have HU := Lib.hid hu
  have HV := Lib.hid hv
  have HN := Lib.hid hn
  have HM := Lib.hid hm
  clear hu hv hn hm
  go_enter Tryd.func15, Tryd.ntmps15
  by_cases hnm : n = m
  · subst hnm
    have hne : ((n : Int) != (n : Int)) = false := by simp
    go_upto_region 4 with fail
    go_loopw [5] (fun i wr => ∃ k : Nat, k ≤ n ∧ i = .int .i64 k ∧ Hid (∀ j, j < k → A[j]? = B[j]?) ∧ Below w.heap.size w wr) (fun i _ => n - (intOf i).toNat)
    case atStart => exact ⟨0, Nat.zero_le _, rfl, Lib.hid (fun j h => by omega), Below.refl _ _⟩
    case round =>
      obtain ⟨k, hk, rfl, HJ, hb⟩ := hrel
      by_cases hkl : k < n
      · obtain ⟨x, hx⟩ : ∃ x, A[k]? = some x := ⟨_, List.getElem?_eq_getElem (by rw [HN.out]; exact hkl)⟩
        obtain ⟨y, hy⟩ : ∃ y, B[k]? = some y := ⟨_, List.getElem?_eq_getElem (by rw [HM.out]; exact hkl)⟩
        obtain ⟨g1, o1, rfl, hg1, hc1⟩ := (HU.out.keep hb).cell hx
        obtain ⟨g2, o2, rfl, hg2, hc2⟩ := (HV.out.keep hb).cell hy
        have hki : (k : Int) < (n : Int) := by omega
        have HX := Lib.hid hx
        have HY := Lib.hid hy
        clear hx hy
        by_cases hxy : x = y
        · have hq : ((x : Int) != (y : Int)) = false := by simp; omega
          have HJ2 : Hid (∀ j, j < k + 1 → A[j]? = B[j]?) := Lib.hid fun j hj => by
            by_cases e : j = k
            · subst e
              rw [HX.out, HY.out, hxy]
            · exact HJ.out j (by omega)
          clear hxy
          go_wp2
          go_quiet (fail)
          go_wp2
          go_roundw
          case rel => exact ⟨k + 1, by omega, by go_num, HJ2, below_drewN hb _⟩
          case measure => simp [intOf]; omega
        · have hq : ((x : Int) != (y : Int)) = true := by simp; omega
          have HD : Hid (decide (A = B) = false) := Lib.hid (decide_eq_false (fun e => hxy (by have h1 := HX.out; rw [e, HY.out] at h1; injection h1 with h1; exact h1.symm)))
          clear hxy
          go_wp2
          go_quiet (fail)
          go_wp2
          go_ret
          exact ⟨retb HD.out.symm, below_drewN hb _⟩
      · have hki : ¬ (k : Int) < (n : Int) := by omega
        have HD : Hid (decide (A = B) = true) := Lib.hid (decide_eq_true (List.ext_getElem? fun j => by
          by_cases h : j < k
          · exact HJ.out j h
          · rw [List.getElem?_eq_none (by rw [HN.out]; omega), List.getElem?_eq_none (by rw [HM.out]; omega)]))
        clear hkl
        go_wp2
        go_ret
        exact ⟨retb HD.out.symm, hb⟩
  · have hne : ((n : Int) != (m : Int)) = true := by simp; omega
    have HD : Hid (decide (A = B) = false) := Lib.hid (decide_eq_false (fun e => hnm (by rw [← HN.out, ← HM.out, e])))
    clear hnm
    go_wp2
    go_ret
    exact ⟨retb HD.out.symm, Below.refl _ _⟩
end Go.Proofs.YtmiennkldkcnfaaDoor
