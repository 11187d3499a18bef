/- The glyphs of the examples. No conditions. -/
import Derived.Test.YtpmmincophaaiaaAttRow
namespace Go.Proofs.Ytpmmincophaaiaa.AT
def gl1 (c : Int) : Dr := if c = 97 then ⟨[(1, 4, 20), (2, 5, -2)], (0, 0, 0), 10⟩ else if c = 109 then ⟨[(1, 1, 8)], (1, 1, 0), 9⟩ else if c = 110 then ⟨[], (2, 0, 3), 0⟩ else ⟨[], (0, 0, 0), 6⟩
def gl (s : ByteArray) : List Dr := s.data.toList.map fun c => gl1 (c.toNat : Int)
theorem gl_len (s : ByteArray) : (gl s).length = s.size := by
  unfold gl
  rw [List.length_map, Array.length_toList]
  rfl
theorem gl_at (s : ByteArray) (k : Nat) (h : k < s.size) : (gl s)[k]? = some (gl1 (s[k].toNat : Int)) := by
  unfold gl
  rw [List.getElem?_map, List.getElem?_eq_getElem (by rw [Array.length_toList]; exact h)]
  rfl
end Go.Proofs.Ytpmmincophaaiaa.AT
namespace Go.Proofs.Ytpmmincophaaiaa
set_option maxRecDepth 100000
set_option linter.unusedVariables false
open Go.RowKit Go.Deep
theorem cells_src (W : World) (us : List Value) (T : TypeId) : ∀ j u, us[j]? = some u → (W.alloc (.cells us.toArray T)).cell? ((⟨W.heap.size, 0, none⟩ : Addr).add j) = some u := by
  intro j u hj
  rw [addr_add']
  have h := heap_alloc_new W (.cells us.toArray T)
  simp only [World.cell?, h]
  simpa using hj
theorem gl_two (wr : World) (d : AT.Dr) (hm : d.anchors.length ≤ 10) : ∃ W1, (wr.alloc (.cells (drv (d, .slice (some ⟨wr.heap.size + 1, 0, none⟩) d.anchors.length d.anchors.length)).toArray 35)).alloc (.cells (anc d.anchors).toArray 33) = W1 ∧ DrB W1 wr.heap.size (.slice none 0 0) (.slice (some ⟨wr.heap.size + 1, 0, none⟩) d.anchors.length d.anchors.length) d ∧
    W1.ownsRow wr.heap.size 33 3 (.slice (some ⟨wr.heap.size + 1, 0, none⟩) d.anchors.length d.anchors.length) d.anchors.length (anc d.anchors) ∧ Below wr.heap.size wr W1 := by
  have hl : (anc d.anchors).length = d.anchors.length * 3 := by
    generalize d.anchors = l
    induction l with
    | nil => rfl
    | cons x l ih => show ((anc l).length + 1 + 1 + 1) = _; rw [ih, List.length_cons]; omega
  refine ⟨_, rfl, DrB.keep (heap_alloc_new wr _) (balloc (Below.refl _ _) _), ⟨hl, .inr ⟨wr.heap.size + 1, d.anchors.length, (anc d.anchors).toArray, rfl, Nat.le_succ _, ?_, Nat.le_refl _, by unfold maxLen; omega, by simp [hl], by simp [← hl]⟩⟩, balloc (balloc (Below.refl _ _) _) _⟩
  have := heap_alloc_new (wr.alloc (.cells (drv (d, .slice (some ⟨wr.heap.size + 1, 0, none⟩) d.anchors.length d.anchors.length)).toArray 35)) (.cells (anc d.anchors).toArray 33)
  rw [World.size_alloc] at this
  exact this
theorem gl_one (wr : World) (d : AT.Dr) (hm : d.anchors = []) : ∃ W1, wr.alloc (.cells (drv (d, .slice none 0 0)).toArray 35) = W1 ∧ DrB W1 wr.heap.size (.slice none 0 0) (.slice none 0 0) d ∧
    W1.ownsRow wr.heap.size 33 3 (.slice none 0 0) d.anchors.length (anc d.anchors) ∧ Below wr.heap.size wr W1 :=
  ⟨_, rfl, heap_alloc_new wr _, by rw [hm]; exact ⟨rfl, .inl ⟨rfl, rfl⟩⟩, balloc (Below.refl _ _) _⟩
set_option maxHeartbeats 8000000 in
theorem glyphs_any (s : ByteArray) (w : World) (hs : s.size ≤ 100) :
    Calls Try.prog 16 #[.string s] w fun e w' => ∃ u X, e = .returned u ∧ OwnD w' w.heap.size u X ∧ X.map Prod.fst = AT.gl s ∧ Below w.heap.size w w' := by
  obtain ⟨i0, hi, hz0, hz1, hz2⟩ := info_parts info_dr
  go_enter Try.func16, Try.ntmps16
  go_wp2_with fail
  go_loopw [3, 4] (fun v3 v4 wr => ∃ k X, v4 = .int .i64 ((k : Nat) : Int) ∧ k ≤ s.size ∧ X.length = k ∧ X.map Prod.fst = (AT.gl s).take k ∧ OwnD wr w.heap.size v3 X ∧ Below w.heap.size w wr) (fun _ v _ => s.size - (intOf v).toNat)
  case atStart => exact ⟨0, [], rfl, Nat.zero_le _, rfl, rfl, OwnD.nil _ _, Below.refl _ _⟩
  case round =>
    obtain ⟨k, X, rfl, hk, hXl, hXm, hown, hb⟩ := hrel
    have HB := Lib.hid hb
    obtain ⟨ra, rc, hv3⟩ := own_shape hown.1
    subst hv3
    have HOWN := Lib.hid hown
    have HXM := Lib.hid hXm
    have HXL := Lib.hid hXl
    clear hb hown hXm
    rw [hXl] at HOWN ⊢
    clear hXl
    by_cases hin : k < s.size
    · have hii : (k : Int) < (s.size : Int) := by omega
      have hi0 : (0 : Int) ≤ (k : Int) := by omega
      have HGL := Lib.hid (AT.gl_at s k hin)
      obtain ⟨c, hc⟩ : ∃ c, (s[k].toNat : Int) = c := ⟨_, rfl⟩
      rw [hc] at HGL
      have HC := Lib.hid hc
      by_cases c97 : c = 97
      · subst c97
        have HG1 : Hid ((AT.gl s)[k]? = some (⟨[(1, 4, 20), (2, 5, -2)], (0, 0, 0), 10⟩ : AT.Dr)) := Lib.hid (by rw [HGL.out]; rfl)
        go_upto_region 13 with fail
        obtain ⟨W1, hW1, hbox, hva, hb1⟩ := gl_two wr (⟨[(1, 4, 20), (2, 5, -2)], (0, 0, 0), 10⟩ : AT.Dr) (by decide)
        have hW2 : (wr.alloc (.cells #[.slice none 0 0, .slice (some ⟨wr.heap.size + 1, 0, none⟩) 2 2, .int .i64 0, .int .i64 0, .int .i64 0, .int .i64 10] 35)).alloc (.cells #[.int .i64 1, .int .i64 4, .int .i64 20, .int .i64 2, .int .i64 5, .int .i64 (-2)] 33) = W1 := hW1
        rw [hW2]
        clear hW1 hW2
        have HVA := Lib.hid hva
        have HB1 := Lib.hid hb1
        have hsz : w.heap.size ≤ W1.heap.size := Nat.le_trans HB.out.size hb1.size
        obtain ⟨d0, d1, d2, d3, d4, d5⟩ := hbox.cells
        clear hva hb1 hbox
        go_upto_region 4 with (at_builtin; refine wpList_append_own_at _ rfl _ _ 24 rfl w.heap.size 35 i0 (.agg #[.slice none 0 0, .slice none 0 0, .int .i64 0, .int .i64 0, .int .i64 0, .int .i64 0]) 6 80 Try.underlying24 hi hz0 hz1 hz2 rfl (by decide) _ _ _ rfl ((own_below HOWN.out.1 HB1.out).alloc _) ⟨W1.heap.size, 0, none⟩ 1 1 (drv ((⟨[(1, 4, 20), (2, 5, -2)], (0, 0, 0), 10⟩ : AT.Dr), .slice (some ⟨wr.heap.size + 1, 0, none⟩) 2 2)) rfl rfl (cells_src W1 _ _) (by simp [drv, Value.oneCell']) (by have := HXL.out; unfold maxLen; omega) (by have := HXL.out; omega) (by simp; omega) ?_; intro v' w1 hown' hgrow _ hat; obtain ⟨g', cap', rfl⟩ := ownsRow_succ hown')
        have hp := OwnD.push HOWN.out (balloc HB1.out _) HB.out.size (own_below HVA.out (balloc (Below.refl _ W1) _)) hown' hgrow hat
        have hbw : Below w.heap.size w w1 := (bnext HB.out (balloc HB1.out _)).grown hgrow (by simp; omega) (fun j ej => by have := (HOWN.out.1.lt j ej).1; omega)
        have HPU := Lib.hid hp
        have HBW := Lib.hid hbw
        clear hp hbw hown' hgrow hat
        go_wp2_with fail
        go_roundw
        case rel => exact ⟨k + 1, X ++ [((⟨[(1, 4, 20), (2, 5, -2)], (0, 0, 0), 10⟩ : AT.Dr), .slice (some ⟨wr.heap.size + 1, 0, none⟩) 2 2)], by go_num, hin, by rw [List.length_append, HXL.out]; rfl, by rw [List.map_append, HXM.out, List.take_add_one, HG1.out]; rfl, HPU.out, HBW.out⟩
        case measure => simp [intOf]; omega
      · by_cases c109 : c = 109
        · subst c109
          have HG1 : Hid ((AT.gl s)[k]? = some (⟨[(1, 1, 8)], (1, 1, 0), 9⟩ : AT.Dr)) := Lib.hid (by rw [HGL.out]; rfl)
          go_upto_region 13 with fail
          obtain ⟨W1, hW1, hbox, hva, hb1⟩ := gl_two wr (⟨[(1, 1, 8)], (1, 1, 0), 9⟩ : AT.Dr) (by decide)
          have hW2 : (wr.alloc (.cells #[.slice none 0 0, .slice (some ⟨wr.heap.size + 1, 0, none⟩) 1 1, .int .i64 1, .int .i64 1, .int .i64 0, .int .i64 9] 35)).alloc (.cells #[.int .i64 1, .int .i64 1, .int .i64 8] 33) = W1 := hW1
          rw [hW2]
          clear hW1 hW2
          have HVA := Lib.hid hva
          have HB1 := Lib.hid hb1
          have hsz : w.heap.size ≤ W1.heap.size := Nat.le_trans HB.out.size hb1.size
          obtain ⟨d0, d1, d2, d3, d4, d5⟩ := hbox.cells
          clear hva hb1 hbox
          go_upto_region 4 with (at_builtin; refine wpList_append_own_at _ rfl _ _ 24 rfl w.heap.size 35 i0 (.agg #[.slice none 0 0, .slice none 0 0, .int .i64 0, .int .i64 0, .int .i64 0, .int .i64 0]) 6 80 Try.underlying24 hi hz0 hz1 hz2 rfl (by decide) _ _ _ rfl ((own_below HOWN.out.1 HB1.out).alloc _) ⟨W1.heap.size, 0, none⟩ 1 1 (drv ((⟨[(1, 1, 8)], (1, 1, 0), 9⟩ : AT.Dr), .slice (some ⟨wr.heap.size + 1, 0, none⟩) 1 1)) rfl rfl (cells_src W1 _ _) (by simp [drv, Value.oneCell']) (by have := HXL.out; unfold maxLen; omega) (by have := HXL.out; omega) (by simp; omega) ?_; intro v' w1 hown' hgrow _ hat; obtain ⟨g', cap', rfl⟩ := ownsRow_succ hown')
          have hp := OwnD.push HOWN.out (balloc HB1.out _) HB.out.size (own_below HVA.out (balloc (Below.refl _ W1) _)) hown' hgrow hat
          have hbw : Below w.heap.size w w1 := (bnext HB.out (balloc HB1.out _)).grown hgrow (by simp; omega) (fun j ej => by have := (HOWN.out.1.lt j ej).1; omega)
          have HPU := Lib.hid hp
          have HBW := Lib.hid hbw
          clear hp hbw hown' hgrow hat
          go_wp2_with fail
          go_roundw
          case rel => exact ⟨k + 1, X ++ [((⟨[(1, 1, 8)], (1, 1, 0), 9⟩ : AT.Dr), .slice (some ⟨wr.heap.size + 1, 0, none⟩) 1 1)], by go_num, hin, by rw [List.length_append, HXL.out]; rfl, by rw [List.map_append, HXM.out, List.take_add_one, HG1.out]; rfl, HPU.out, HBW.out⟩
          case measure => simp [intOf]; omega
        · by_cases c110 : c = 110
          · subst c110
            have HG1 : Hid ((AT.gl s)[k]? = some (⟨[], (2, 0, 3), 0⟩ : AT.Dr)) := Lib.hid (by rw [HGL.out]; rfl)
            go_upto_region 13 with fail
            obtain ⟨W1, hW1, hbox, hva, hb1⟩ := gl_one wr (⟨[], (2, 0, 3), 0⟩ : AT.Dr) (by rfl)
            have hW2 : wr.alloc (.cells #[.slice none 0 0, .slice none 0 0, .int .i64 2, .int .i64 0, .int .i64 3, .int .i64 0] 35) = W1 := hW1
            rw [hW2]
            clear hW1 hW2
            have HVA := Lib.hid hva
            have HB1 := Lib.hid hb1
            have hsz : w.heap.size ≤ W1.heap.size := Nat.le_trans HB.out.size hb1.size
            obtain ⟨d0, d1, d2, d3, d4, d5⟩ := hbox.cells
            clear hva hb1 hbox
            go_upto_region 4 with (at_builtin; refine wpList_append_own_at _ rfl _ _ 24 rfl w.heap.size 35 i0 (.agg #[.slice none 0 0, .slice none 0 0, .int .i64 0, .int .i64 0, .int .i64 0, .int .i64 0]) 6 80 Try.underlying24 hi hz0 hz1 hz2 rfl (by decide) _ _ _ rfl ((own_below HOWN.out.1 HB1.out).alloc _) ⟨W1.heap.size, 0, none⟩ 1 1 (drv ((⟨[], (2, 0, 3), 0⟩ : AT.Dr), .slice none 0 0)) rfl rfl (cells_src W1 _ _) (by simp [drv, Value.oneCell']) (by have := HXL.out; unfold maxLen; omega) (by have := HXL.out; omega) (by simp; omega) ?_; intro v' w1 hown' hgrow _ hat; obtain ⟨g', cap', rfl⟩ := ownsRow_succ hown')
            have hp := OwnD.push HOWN.out (balloc HB1.out _) HB.out.size (own_below HVA.out (balloc (Below.refl _ W1) _)) hown' hgrow hat
            have hbw : Below w.heap.size w w1 := (bnext HB.out (balloc HB1.out _)).grown hgrow (by simp; omega) (fun j ej => by have := (HOWN.out.1.lt j ej).1; omega)
            have HPU := Lib.hid hp
            have HBW := Lib.hid hbw
            clear hp hbw hown' hgrow hat
            go_wp2_with fail
            go_roundw
            case rel => exact ⟨k + 1, X ++ [((⟨[], (2, 0, 3), 0⟩ : AT.Dr), .slice none 0 0)], by go_num, hin, by rw [List.length_append, HXL.out]; rfl, by rw [List.map_append, HXM.out, List.take_add_one, HG1.out]; rfl, HPU.out, HBW.out⟩
            case measure => simp [intOf]; omega
          · have HG1 : Hid ((AT.gl s)[k]? = some (⟨[], (0, 0, 0), 6⟩ : AT.Dr)) := Lib.hid (by rw [HGL.out]; unfold AT.gl1; rw [if_neg c97, if_neg c109, if_neg c110])
            go_upto_region 13 with fail
            obtain ⟨W1, hW1, hbox, hva, hb1⟩ := gl_one wr (⟨[], (0, 0, 0), 6⟩ : AT.Dr) (by rfl)
            have hW2 : wr.alloc (.cells #[.slice none 0 0, .slice none 0 0, .int .i64 0, .int .i64 0, .int .i64 0, .int .i64 6] 35) = W1 := hW1
            rw [hW2]
            clear hW1 hW2
            have HVA := Lib.hid hva
            have HB1 := Lib.hid hb1
            have hsz : w.heap.size ≤ W1.heap.size := Nat.le_trans HB.out.size hb1.size
            obtain ⟨d0, d1, d2, d3, d4, d5⟩ := hbox.cells
            clear hva hb1 hbox
            go_upto_region 4 with (at_builtin; refine wpList_append_own_at _ rfl _ _ 24 rfl w.heap.size 35 i0 (.agg #[.slice none 0 0, .slice none 0 0, .int .i64 0, .int .i64 0, .int .i64 0, .int .i64 0]) 6 80 Try.underlying24 hi hz0 hz1 hz2 rfl (by decide) _ _ _ rfl ((own_below HOWN.out.1 HB1.out).alloc _) ⟨W1.heap.size, 0, none⟩ 1 1 (drv ((⟨[], (0, 0, 0), 6⟩ : AT.Dr), .slice none 0 0)) rfl rfl (cells_src W1 _ _) (by simp [drv, Value.oneCell']) (by have := HXL.out; unfold maxLen; omega) (by have := HXL.out; omega) (by simp; omega) ?_; intro v' w1 hown' hgrow _ hat; obtain ⟨g', cap', rfl⟩ := ownsRow_succ hown')
            have hp := OwnD.push HOWN.out (balloc HB1.out _) HB.out.size (own_below HVA.out (balloc (Below.refl _ W1) _)) hown' hgrow hat
            have hbw : Below w.heap.size w w1 := (bnext HB.out (balloc HB1.out _)).grown hgrow (by simp; omega) (fun j ej => by have := (HOWN.out.1.lt j ej).1; omega)
            have HPU := Lib.hid hp
            have HBW := Lib.hid hbw
            clear hp hbw hown' hgrow hat
            go_wp2_with fail
            go_roundw
            case rel => exact ⟨k + 1, X ++ [((⟨[], (0, 0, 0), 6⟩ : AT.Dr), .slice none 0 0)], by go_num, hin, by rw [List.length_append, HXL.out]; rfl, by rw [List.map_append, HXM.out, List.take_add_one, HG1.out]; rfl, HPU.out, HBW.out⟩
            case measure => simp [intOf]; omega
    · obtain rfl : k = s.size := by omega
      rw [← AT.gl_len, List.take_length] at HXM
      go_wp2
      go_ret
      exact ⟨_, X, rfl, HOWN.out, HXM.out, HB.out⟩
end Go.Proofs.Ytpmmincophaaiaa
