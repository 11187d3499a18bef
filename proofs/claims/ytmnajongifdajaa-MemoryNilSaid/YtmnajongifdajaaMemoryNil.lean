/- For every budget, key and size MemoryNil returns true: there is no memory with another budget, and nil and zero memories have nothing. No conditions. -/
import Derived.Test.YtmnajongifdajaaMem35
namespace Go.Proofs.Ytmnajongifdajaa.memoryNil
open Go.ChangeShapes Go.WideShapes Go.ChangeAt Go.RowKit Go.Joins Go.Deep ME
set_option linter.unusedVariables false

set_option maxRecDepth 100000 in
set_option maxHeartbeats 4000000 in
theorem walk (a0 : Int) (a1 : Int) (b1 : Int) (c1 : Int) (d1 : Int) (a2 : Int) (wa0 : (Lit.int .i64 a0).wf = true) (wa2 : (Lit.int .i64 a2).wf = true) (w : World) (H1 : (Lit.int .i64 a1).wf = true ∧ (Lit.int .i64 b1).wf = true ∧ (Lit.int .i64 c1).wf = true ∧ (Lit.int .i64 d1).wf = true) :
    Calls Try.prog 9 #[.int .i64 a0, .agg #[.int .i64 a1, .int .i64 b1, .int .i64 c1, .int .i64 d1], .int .i64 a2] w fun e w' => e = .returned (.bool true) ∧ Below w.heap.size w w' := by
  have g0 : (0 : Int) ≤ a0 ∨ ¬ (0 : Int) ≤ a0 := by omega
  go_enter Try.func9, Try.ntmps9
  go_wp2_with fail
  have HT1 := Lib.hid (balloc (Below.refl _ w) (.cells #[.int .i64 a1, .int .i64 b1, .int .i64 c1, .int .i64 d1] 34))
  have HX1 := Lib.hid (heap_alloc_new w (.cells #[.int .i64 a1, .int .i64 b1, .int .i64 c1, .int .i64 d1] 34))
  refine (sanity_any _).mono ?_
  rintro e w2 ⟨rfl, k2⟩
  have HB2 := Lib.hid (bnext HT1.out k2)
  have HT2 := Lib.hid k2
  clear k2
  by_cases h : 0 ≤ a0 ∧ a0 ≤ 1073741824
  · have g1 := h.1
    have g2 := h.2
    clear g0
    go_upto_region 4 with (refine (new_yes _ a0 h.1 h.2).mono ?_; rintro e w3 ⟨M, mb, root, rfl, -, k3⟩)
    have HB3 := Lib.hid (bnext HB2.out k3)
    have HT3 := Lib.hid (bnext HT2.out k3)
    clear k3
    go_upto_region 5 with fail
    obtain ⟨Z, hZ⟩ : ∃ Z, w3.heap.size = Z := ⟨_, rfl⟩
    have hb4 := balloc (Below.refl _ w3) (.cells #[.int .i64 0, .int .i64 0, .int .i64 0, .map none, .pointer none] 65)
    have b4 := heap_alloc_new w3 (.cells #[.int .i64 0, .int .i64 0, .int .i64 0, .map none, .pointer none] 65)
    have e4 : (w3.alloc (.cells #[.int .i64 0, .int .i64 0, .int .i64 0, .map none, .pointer none] 65)).heap.size = Z + 1 := by rw [← hZ]; simp
    rw [hZ] at b4
    rw [hZ]
    obtain ⟨W4, hW4⟩ : ∃ W4, w3.alloc (.cells #[.int .i64 0, .int .i64 0, .int .i64 0, .map none, .pointer none] 65) = W4 := ⟨_, rfl⟩
    rw [hW4] at hb4 b4 e4
    rw [hW4]
    have hb5 := balloc (Below.refl _ W4) (.cells #[.pointer none, .pointer (some ⟨Z, 0, none⟩)] 24)
    have b5 := heap_alloc_new W4 (.cells #[.pointer none, .pointer (some ⟨Z, 0, none⟩)] 24)
    rw [e4] at b5
    obtain ⟨W5, hW5⟩ : ∃ W5, W4.alloc (.cells #[.pointer none, .pointer (some ⟨Z, 0, none⟩)] 24) = W5 := ⟨_, rfl⟩
    rw [hW5] at hb5 b5
    rw [hW5]
    have hZ4 := (hb5.block Z (Array.getElem?_eq_some_iff.1 b4).1).trans b4
    have HB5 := Lib.hid (bnext (bnext HB3.out hb4) hb5)
    have HM : Hid (∀ V, Below W5.heap.size W5 V → ∀ i : Nat, i < 2 → ∃ v, V.cell? ⟨Z + 1, i, none⟩ = some v ∧ NoM V v) := Lib.hid fun V hV i hi => by
      have q5 := (hV.block (Z + 1) (Array.getElem?_eq_some_iff.1 b5).1).trans b5
      have q4 := (hV.block Z (Array.getElem?_eq_some_iff.1 hZ4).1).trans hZ4
      rcases (show i = 0 ∨ i = 1 by omega) with rfl | rfl
      · exact ⟨_, nd_cell q5 rfl, .inl rfl⟩
      · exact ⟨_, nd_cell q5 rfl, .inr ⟨Z, rfl, q4⟩⟩
    have HO : Hid (∀ V, Below W5.heap.size W5 V → V.cell? ⟨w.heap.size, 0, none⟩ = some (.int .i64 a1) ∧ V.cell? ⟨w.heap.size, 1, none⟩ = some (.int .i64 b1) ∧ V.cell? ⟨w.heap.size, 2, none⟩ = some (.int .i64 c1) ∧ V.cell? ⟨w.heap.size, 3, none⟩ = some (.int .i64 d1)) := Lib.hid fun V hV => by
      have q := ((bnext (bnext (bnext HT3.out hb4) hb5) hV).block w.heap.size (by simp)).trans HX1.out
      exact ⟨nd_cell q rfl, nd_cell q rfl, nd_cell q rfl, nd_cell q rfl⟩
    clear hb4 b4 e4 hb5 b5 hZ4 hW4 hW5 hZ
    go_loopw [27] (fun v27 wr => ∃ i : Nat, v27 = .int .i64 (i : Int) ∧ i ≤ 2 ∧ Hid (Below W5.heap.size W5 wr)) (fun v _ => 2 - (intOf v).toNat)
    case atStart => exact ⟨0, rfl, by omega, Lib.hid (Below.refl _ _)⟩
    case round =>
      obtain ⟨i, rfl, hi, HP⟩ := hrel
      by_cases hin : i < 2
      · have hii : (i : Int) < 2 := by omega
        have hi0 : (0 : Int) ≤ (i : Int) := by omega
        obtain ⟨v, hv, hn⟩ := HM.out _ HP.out i hin
        have HN := Lib.hid hn
        clear hn
        obtain ⟨o0, o1, o2, o3⟩ := HO.out _ HP.out
        go_upto_region 7 with fail
        clear hv
        go_upto_region 8 with (go_at_call 17; refine (nput_any wr v (a1, b1, c1, d1) a2 HN.out).mono ?_; rintro x w6 ⟨rfl, b6⟩)
        have HP6 := Lib.hid (bnext HP.out b6)
        have HN6 := Lib.hid (HN.out.below b6)
        clear b6 o0 o1 o2 o3
        obtain ⟨o0, o1, o2, o3⟩ := HO.out _ HP6.out
        go_wp2_with fail
        go_at_call 14
        refine (nuse_any w6 v (a1, b1, c1, d1) HN6.out).mono ?_
        rintro x w7 ⟨rfl, b7⟩
        have HP7 := Lib.hid (bnext HP6.out b7)
        have HN7 := Lib.hid (HN6.out.below b7)
        clear b7 o0 o1 o2 o3
        obtain ⟨o0, o1, o2, o3⟩ := HO.out _ HP7.out
        go_wp2_with fail
        go_at_call 15
        refine (npin_any w7 v (a1, b1, c1, d1) true HN7.out).mono ?_
        rintro x w8 ⟨rfl, b8⟩
        have HP8 := Lib.hid (bnext HP7.out b8)
        have HN8 := Lib.hid (HN7.out.below b8)
        clear b8 o0 o1 o2 o3
        obtain ⟨o0, o1, o2, o3⟩ := HO.out _ HP8.out
        go_wp2_with fail
        go_at_call 16
        refine (ndrop_any w8 v (a1, b1, c1, d1) HN8.out).mono ?_
        rintro x w9 ⟨rfl, b9⟩
        have HP9 := Lib.hid (bnext HP8.out b9)
        have HN9 := Lib.hid (HN8.out.below b9)
        clear b9 o0 o1 o2 o3
        go_wp2_with fail
        go_at_call 19
        refine (nused_any w9 v HN9.out).mono ?_
        rintro x w10 ⟨rfl, he⟩
        have he' := he.symm
        subst he'
        go_wp2_with fail
        go_at_call 18
        refine (nlist_any w9 v HN9.out).mono ?_
        rintro x w10 ⟨rfl, he⟩
        have he' := he.symm
        subst he'
        go_wp2
        go_roundw
        case rel => exact ⟨i + 1, by go_num, by omega, HP9⟩
        case measure => simp [intOf]; omega
      · have hii : ¬ (i : Int) < 2 := by omega
        clear hi hin
        go_wp2
        go_ret
        exact ⟨rfl, bnext HB5.out HP.out⟩
  
  · by_cases g1 : 0 ≤ a0
    · have g2 : ¬ a0 ≤ 1073741824 := fun g => h ⟨g1, g⟩
      clear g0
      go_upto_region 4 with (refine (new_no _ a0 (by omega)).mono ?_; rintro e w3 ⟨rfl, he⟩; have k3 : Below w2.heap.size w2 w3 := he ▸ Below.refl _ _; clear he)
      have HB3 := Lib.hid (bnext HB2.out k3)
      have HT3 := Lib.hid (bnext HT2.out k3)
      clear k3
      go_upto_region 5 with fail
      obtain ⟨Z, hZ⟩ : ∃ Z, w3.heap.size = Z := ⟨_, rfl⟩
      have hb4 := balloc (Below.refl _ w3) (.cells #[.int .i64 0, .int .i64 0, .int .i64 0, .map none, .pointer none] 65)
      have b4 := heap_alloc_new w3 (.cells #[.int .i64 0, .int .i64 0, .int .i64 0, .map none, .pointer none] 65)
      have e4 : (w3.alloc (.cells #[.int .i64 0, .int .i64 0, .int .i64 0, .map none, .pointer none] 65)).heap.size = Z + 1 := by rw [← hZ]; simp
      rw [hZ] at b4
      rw [hZ]
      obtain ⟨W4, hW4⟩ : ∃ W4, w3.alloc (.cells #[.int .i64 0, .int .i64 0, .int .i64 0, .map none, .pointer none] 65) = W4 := ⟨_, rfl⟩
      rw [hW4] at hb4 b4 e4
      rw [hW4]
      have hb5 := balloc (Below.refl _ W4) (.cells #[.pointer none, .pointer (some ⟨Z, 0, none⟩)] 24)
      have b5 := heap_alloc_new W4 (.cells #[.pointer none, .pointer (some ⟨Z, 0, none⟩)] 24)
      rw [e4] at b5
      obtain ⟨W5, hW5⟩ : ∃ W5, W4.alloc (.cells #[.pointer none, .pointer (some ⟨Z, 0, none⟩)] 24) = W5 := ⟨_, rfl⟩
      rw [hW5] at hb5 b5
      rw [hW5]
      have hZ4 := (hb5.block Z (Array.getElem?_eq_some_iff.1 b4).1).trans b4
      have HB5 := Lib.hid (bnext (bnext HB3.out hb4) hb5)
      have HM : Hid (∀ V, Below W5.heap.size W5 V → ∀ i : Nat, i < 2 → ∃ v, V.cell? ⟨Z + 1, i, none⟩ = some v ∧ NoM V v) := Lib.hid fun V hV i hi => by
        have q5 := (hV.block (Z + 1) (Array.getElem?_eq_some_iff.1 b5).1).trans b5
        have q4 := (hV.block Z (Array.getElem?_eq_some_iff.1 hZ4).1).trans hZ4
        rcases (show i = 0 ∨ i = 1 by omega) with rfl | rfl
        · exact ⟨_, nd_cell q5 rfl, .inl rfl⟩
        · exact ⟨_, nd_cell q5 rfl, .inr ⟨Z, rfl, q4⟩⟩
      have HO : Hid (∀ V, Below W5.heap.size W5 V → V.cell? ⟨w.heap.size, 0, none⟩ = some (.int .i64 a1) ∧ V.cell? ⟨w.heap.size, 1, none⟩ = some (.int .i64 b1) ∧ V.cell? ⟨w.heap.size, 2, none⟩ = some (.int .i64 c1) ∧ V.cell? ⟨w.heap.size, 3, none⟩ = some (.int .i64 d1)) := Lib.hid fun V hV => by
        have q := ((bnext (bnext (bnext HT3.out hb4) hb5) hV).block w.heap.size (by simp)).trans HX1.out
        exact ⟨nd_cell q rfl, nd_cell q rfl, nd_cell q rfl, nd_cell q rfl⟩
      clear hb4 b4 e4 hb5 b5 hZ4 hW4 hW5 hZ
      go_loopw [27] (fun v27 wr => ∃ i : Nat, v27 = .int .i64 (i : Int) ∧ i ≤ 2 ∧ Hid (Below W5.heap.size W5 wr)) (fun v _ => 2 - (intOf v).toNat)
      case atStart => exact ⟨0, rfl, by omega, Lib.hid (Below.refl _ _)⟩
      case round =>
        obtain ⟨i, rfl, hi, HP⟩ := hrel
        by_cases hin : i < 2
        · have hii : (i : Int) < 2 := by omega
          have hi0 : (0 : Int) ≤ (i : Int) := by omega
          obtain ⟨v, hv, hn⟩ := HM.out _ HP.out i hin
          have HN := Lib.hid hn
          clear hn
          obtain ⟨o0, o1, o2, o3⟩ := HO.out _ HP.out
          go_upto_region 7 with fail
          clear hv
          go_upto_region 8 with (go_at_call 17; refine (nput_any wr v (a1, b1, c1, d1) a2 HN.out).mono ?_; rintro x w6 ⟨rfl, b6⟩)
          have HP6 := Lib.hid (bnext HP.out b6)
          have HN6 := Lib.hid (HN.out.below b6)
          clear b6 o0 o1 o2 o3
          obtain ⟨o0, o1, o2, o3⟩ := HO.out _ HP6.out
          go_wp2_with fail
          go_at_call 14
          refine (nuse_any w6 v (a1, b1, c1, d1) HN6.out).mono ?_
          rintro x w7 ⟨rfl, b7⟩
          have HP7 := Lib.hid (bnext HP6.out b7)
          have HN7 := Lib.hid (HN6.out.below b7)
          clear b7 o0 o1 o2 o3
          obtain ⟨o0, o1, o2, o3⟩ := HO.out _ HP7.out
          go_wp2_with fail
          go_at_call 15
          refine (npin_any w7 v (a1, b1, c1, d1) true HN7.out).mono ?_
          rintro x w8 ⟨rfl, b8⟩
          have HP8 := Lib.hid (bnext HP7.out b8)
          have HN8 := Lib.hid (HN7.out.below b8)
          clear b8 o0 o1 o2 o3
          obtain ⟨o0, o1, o2, o3⟩ := HO.out _ HP8.out
          go_wp2_with fail
          go_at_call 16
          refine (ndrop_any w8 v (a1, b1, c1, d1) HN8.out).mono ?_
          rintro x w9 ⟨rfl, b9⟩
          have HP9 := Lib.hid (bnext HP8.out b9)
          have HN9 := Lib.hid (HN8.out.below b9)
          clear b9 o0 o1 o2 o3
          go_wp2_with fail
          go_at_call 19
          refine (nused_any w9 v HN9.out).mono ?_
          rintro x w10 ⟨rfl, he⟩
          have he' := he.symm
          subst he'
          go_wp2_with fail
          go_at_call 18
          refine (nlist_any w9 v HN9.out).mono ?_
          rintro x w10 ⟨rfl, he⟩
          have he' := he.symm
          subst he'
          go_wp2
          go_roundw
          case rel => exact ⟨i + 1, by go_num, by omega, HP9⟩
          case measure => simp [intOf]; omega
        · have hii : ¬ (i : Int) < 2 := by omega
          clear hi hin
          go_wp2
          go_ret
          exact ⟨rfl, bnext HB5.out HP.out⟩
  
    · clear g0
      go_upto_region 4 with (refine (new_no _ a0 (by omega)).mono ?_; rintro e w3 ⟨rfl, he⟩; have k3 : Below w2.heap.size w2 w3 := he ▸ Below.refl _ _; clear he)
      have HB3 := Lib.hid (bnext HB2.out k3)
      have HT3 := Lib.hid (bnext HT2.out k3)
      clear k3
      go_upto_region 5 with fail
      obtain ⟨Z, hZ⟩ : ∃ Z, w3.heap.size = Z := ⟨_, rfl⟩
      have hb4 := balloc (Below.refl _ w3) (.cells #[.int .i64 0, .int .i64 0, .int .i64 0, .map none, .pointer none] 65)
      have b4 := heap_alloc_new w3 (.cells #[.int .i64 0, .int .i64 0, .int .i64 0, .map none, .pointer none] 65)
      have e4 : (w3.alloc (.cells #[.int .i64 0, .int .i64 0, .int .i64 0, .map none, .pointer none] 65)).heap.size = Z + 1 := by rw [← hZ]; simp
      rw [hZ] at b4
      rw [hZ]
      obtain ⟨W4, hW4⟩ : ∃ W4, w3.alloc (.cells #[.int .i64 0, .int .i64 0, .int .i64 0, .map none, .pointer none] 65) = W4 := ⟨_, rfl⟩
      rw [hW4] at hb4 b4 e4
      rw [hW4]
      have hb5 := balloc (Below.refl _ W4) (.cells #[.pointer none, .pointer (some ⟨Z, 0, none⟩)] 24)
      have b5 := heap_alloc_new W4 (.cells #[.pointer none, .pointer (some ⟨Z, 0, none⟩)] 24)
      rw [e4] at b5
      obtain ⟨W5, hW5⟩ : ∃ W5, W4.alloc (.cells #[.pointer none, .pointer (some ⟨Z, 0, none⟩)] 24) = W5 := ⟨_, rfl⟩
      rw [hW5] at hb5 b5
      rw [hW5]
      have hZ4 := (hb5.block Z (Array.getElem?_eq_some_iff.1 b4).1).trans b4
      have HB5 := Lib.hid (bnext (bnext HB3.out hb4) hb5)
      have HM : Hid (∀ V, Below W5.heap.size W5 V → ∀ i : Nat, i < 2 → ∃ v, V.cell? ⟨Z + 1, i, none⟩ = some v ∧ NoM V v) := Lib.hid fun V hV i hi => by
        have q5 := (hV.block (Z + 1) (Array.getElem?_eq_some_iff.1 b5).1).trans b5
        have q4 := (hV.block Z (Array.getElem?_eq_some_iff.1 hZ4).1).trans hZ4
        rcases (show i = 0 ∨ i = 1 by omega) with rfl | rfl
        · exact ⟨_, nd_cell q5 rfl, .inl rfl⟩
        · exact ⟨_, nd_cell q5 rfl, .inr ⟨Z, rfl, q4⟩⟩
      have HO : Hid (∀ V, Below W5.heap.size W5 V → V.cell? ⟨w.heap.size, 0, none⟩ = some (.int .i64 a1) ∧ V.cell? ⟨w.heap.size, 1, none⟩ = some (.int .i64 b1) ∧ V.cell? ⟨w.heap.size, 2, none⟩ = some (.int .i64 c1) ∧ V.cell? ⟨w.heap.size, 3, none⟩ = some (.int .i64 d1)) := Lib.hid fun V hV => by
        have q := ((bnext (bnext (bnext HT3.out hb4) hb5) hV).block w.heap.size (by simp)).trans HX1.out
        exact ⟨nd_cell q rfl, nd_cell q rfl, nd_cell q rfl, nd_cell q rfl⟩
      clear hb4 b4 e4 hb5 b5 hZ4 hW4 hW5 hZ
      go_loopw [27] (fun v27 wr => ∃ i : Nat, v27 = .int .i64 (i : Int) ∧ i ≤ 2 ∧ Hid (Below W5.heap.size W5 wr)) (fun v _ => 2 - (intOf v).toNat)
      case atStart => exact ⟨0, rfl, by omega, Lib.hid (Below.refl _ _)⟩
      case round =>
        obtain ⟨i, rfl, hi, HP⟩ := hrel
        by_cases hin : i < 2
        · have hii : (i : Int) < 2 := by omega
          have hi0 : (0 : Int) ≤ (i : Int) := by omega
          obtain ⟨v, hv, hn⟩ := HM.out _ HP.out i hin
          have HN := Lib.hid hn
          clear hn
          obtain ⟨o0, o1, o2, o3⟩ := HO.out _ HP.out
          go_upto_region 7 with fail
          clear hv
          go_upto_region 8 with (go_at_call 17; refine (nput_any wr v (a1, b1, c1, d1) a2 HN.out).mono ?_; rintro x w6 ⟨rfl, b6⟩)
          have HP6 := Lib.hid (bnext HP.out b6)
          have HN6 := Lib.hid (HN.out.below b6)
          clear b6 o0 o1 o2 o3
          obtain ⟨o0, o1, o2, o3⟩ := HO.out _ HP6.out
          go_wp2_with fail
          go_at_call 14
          refine (nuse_any w6 v (a1, b1, c1, d1) HN6.out).mono ?_
          rintro x w7 ⟨rfl, b7⟩
          have HP7 := Lib.hid (bnext HP6.out b7)
          have HN7 := Lib.hid (HN6.out.below b7)
          clear b7 o0 o1 o2 o3
          obtain ⟨o0, o1, o2, o3⟩ := HO.out _ HP7.out
          go_wp2_with fail
          go_at_call 15
          refine (npin_any w7 v (a1, b1, c1, d1) true HN7.out).mono ?_
          rintro x w8 ⟨rfl, b8⟩
          have HP8 := Lib.hid (bnext HP7.out b8)
          have HN8 := Lib.hid (HN7.out.below b8)
          clear b8 o0 o1 o2 o3
          obtain ⟨o0, o1, o2, o3⟩ := HO.out _ HP8.out
          go_wp2_with fail
          go_at_call 16
          refine (ndrop_any w8 v (a1, b1, c1, d1) HN8.out).mono ?_
          rintro x w9 ⟨rfl, b9⟩
          have HP9 := Lib.hid (bnext HP8.out b9)
          have HN9 := Lib.hid (HN8.out.below b9)
          clear b9 o0 o1 o2 o3
          go_wp2_with fail
          go_at_call 19
          refine (nused_any w9 v HN9.out).mono ?_
          rintro x w10 ⟨rfl, he⟩
          have he' := he.symm
          subst he'
          go_wp2_with fail
          go_at_call 18
          refine (nlist_any w9 v HN9.out).mono ?_
          rintro x w10 ⟨rfl, he⟩
          have he' := he.symm
          subst he'
          go_wp2
          go_roundw
          case rel => exact ⟨i + 1, by go_num, by omega, HP9⟩
          case measure => simp [intOf]; omega
        · have hii : ¬ (i : Int) < 2 := by omega
          clear hi hin
          go_wp2
          go_ret
          exact ⟨rfl, bnext HB5.out HP.out⟩

set_option maxRecDepth 100000 in
theorem lifted (os : Os) (started : os.Started) (H : Type) (enc : TypeId × Value → H) :
    ReturnsInHanded {} Try.checked os 9 .any (Rows.memoryNilSpec.pre6 enc Try.prog Try.f9 Rows.memoryNilRow.domain false) (Rows.memoryNilSpec.post enc Try.prog Try.f9 false true false false) := by
  refine returnsInHanded_of_change (C := Try.checked) own started (by kernel_rfl) Try.func9
    (ChangeSpec.witness6 (enc := enc) (C := Try.checked) false ⟨#[], #[.int .i64 0, .agg #[.int .i64 0, .int .i64 0, .int .i64 0, .int .i64 0], .int .i64 0], []⟩ 8 (by kernel_rfl) (by kernel_rfl) (by kernel_rfl) (by kernel_rfl)) ?_
  intro W base args ds gs before hval0 hW hcnd _
  have hval : ∀ (j : Nat) t v, Try.f9.params[j]? = some t → args[j]? = some v → Value.okWide Try.prog W .any base t v := hval0
  have hW' := hW
  obtain ⟨p, q, hA0, hV, rfl, hfz, hnd⟩ := hW
  have hA : DataW.TrodAll enc Try.prog W 0 (fun _ => true) true Try.f9.params.toList args.toList ds p := hA0
  rw [Try.params9] at hA hval
  obtain ⟨v0, vs0, d0, ds0, p0, q0, hargs, rfl, rfl, h0, r0⟩ := trodAll_cons hA
  obtain ⟨v1, vs1, d1, ds1, p1, q1, rfl, rfl, rfl, h1, r1⟩ := trodAll_cons r0
  obtain ⟨v2, vs2, d2, ds2, p2, q2, rfl, rfl, rfl, h2, r2⟩ := trodAll_cons r1
  obtain ⟨rfl, rfl, rfl⟩ := trodAll_nil r2
  obtain rfl : args = #[v0, v1, v2] := by cases args; simp_all
  obtain ⟨rfl, rfl⟩ := trodVars_none hV
  have k0 := h0
  have lt0 : ∀ x ∈ p0, x.block < W.heap.size := by obtain ⟨m, hm⟩ := k0; exact DataW.trod_lt m _ _ _ hm
  have k1 := h1
  have lt1 : ∀ x ∈ p1, x.block < W.heap.size := by obtain ⟨m, hm⟩ := k1; exact DataW.trod_lt m _ _ _ hm
  have k2 := h2
  have lt2 : ∀ x ∈ p2, x.block < W.heap.size := by obtain ⟨m, hm⟩ := k2; exact DataW.trod_lt m _ _ _ hm
  obtain ⟨a0, rfl, rfl, rfl, wa0⟩ := open_int Try.underlying3 (hval 0 3 v0 rfl rfl) h0
  obtain ⟨a1, b1, c1, d1, rfl, H1⟩ := open_owned (hval 1 34 v1 rfl rfl) h1
  obtain ⟨a2, rfl, rfl, rfl, wa2⟩ := open_int Try.underlying3 (hval 2 3 v2 rfl rfl) h2
  clear hA0 hval0
  refine (walk a0 a1 b1 c1 d1 a2 wa0 wa2 W H1).mono fun e W' ⟨he, bel⟩ => ?_
  subst he
  exact ⟨_, rfl, _, _, _, [], _, [], hW', trodAll_mk1 (shut_bool Try.underlying4 _), (trodAll_cons_mk (Below.trod laidOut (by kernel_rfl) (of_decide_eq_true (by kernel_rfl)) k0 bel lt0) (trodAll_cons_mk (Below.trod laidOut (by kernel_rfl) (of_decide_eq_true (by kernel_rfl)) k1 bel lt1) (trodAll_cons_mk (Below.trod laidOut (by kernel_rfl) (of_decide_eq_true (by kernel_rfl)) k2 bel lt2) trodAll_mk0))), rfl, bel.frame _, fun h => by cases h⟩

theorem over : Rows.memoryNilRow.holds Try.pinned (OpenSpec.ofChange Rows.memoryNilSpec) :=
  OpenClaim.holds_of_wide 9 Try.f9 rfl rfl rfl rfl rfl rfl rfl ⟨rfl, rfl, rfl, rfl, rfl⟩ rfl rfl rfl rfl rfl (by kernel_rfl) Try.func9 (by kernel_rfl)
    (of_decide_eq_true (by kernel_rfl)) (by unfold Func.isWrapper; first | (rw [if_pos (by decide +kernel)]; kernel_rfl) | (rw [if_neg (by decide +kernel)]; exact ⟨rfl, rfl⟩))
    (fun os started H enc _ => lifted os started H enc)

end Go.Proofs.Ytmnajongifdajaa.memoryNil
namespace Go.Proofs.Ytmnajongifdajaa
theorem memoryNil_proved : Rows.MemoryNilSaid := memoryNil.over
#print axioms memoryNil_proved
end Go.Proofs.Ytmnajongifdajaa
