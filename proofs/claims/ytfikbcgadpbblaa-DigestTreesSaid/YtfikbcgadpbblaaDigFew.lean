/- At most twenty strings, of at most 40 bytes each: what the laws make of their lists. -/
import Derived.Test.YtfikbcgadpbblaaDigVerP
import Derived.Deep.RegionHeld3
import Derived.Deep.AppendLies
namespace Go.Proofs.Ytfikbcgadpbblaa
set_option linter.unusedVariables false
open Go.RowKit
theorem slice_head (X : ByteArray) (m : Nat) (h : (m : Int) ≤ (X.size : Int)) (V : World) : (Instr.slice 9 (.string X) none (some (.int .i64 (m : Int))) none).run Try.prog V = .ok (.string (X.extract 0 m)) V := by
  have := run_slice_string_h (P := Try.prog) (w := V) (t := 9) (s := X) Try.underlying9 .i64 (m : Int) (by omega) h
  rw [Int.toNat_natCast] at this
  exact this
def DG.short (s : ByteArray) : ByteArray := s.extract 0 (min s.size 40)
theorem DG.short_size (s : ByteArray) : (DG.short s).size ≤ 40 := by unfold DG.short; rw [ByteArray.size_extract]; omega
def DG.few (L : List ByteArray) (k : Nat) : List ByteArray := (L.take k).map DG.short
theorem DG.few_next (L : List ByteArray) (k : Nat) (h : k < L.length) : DG.few L (k + 1) = DG.few L k ++ [DG.short L[k]] := by
  unfold DG.few
  rw [List.take_add_one, List.getElem?_eq_getElem h, List.map_append]
  rfl
theorem DG.few_len (L : List ByteArray) (k : Nat) : (DG.few L k).length ≤ k := by unfold DG.few; simp; omega
theorem DG.few_all (L : List ByteArray) (k m : Nat) (h : L.length ≤ k) (h2 : L.length ≤ m) : DG.few L m = DG.few L k := by unfold DG.few; rw [List.take_of_length_le h, List.take_of_length_le h2]
set_option maxRecDepth 100000 in
set_option maxHeartbeats 4000000 in
theorem few_any (v : Value) (L : List ByteArray) (w : World) (hv : RowAt w v (L.map Value.string)) (hs : ∀ x, x ∈ L → x.size ≤ maxLen) (hL : L.length ≤ maxLen) :
    Calls Try.prog 17 #[v] w fun e w' => ∃ u, e = .returned u ∧ w'.ownsRow w.heap.size 9 1 u (DG.few L 20).length ((DG.few L 20).map Value.string) ∧ Below w.heap.size w w' := by
  obtain ⟨i0, hi, hz0, hz1, hz2⟩ := info_parts info_string
  obtain ⟨a, cap, rfl, hrow⟩ := hv.out
  have HROW := Lib.hid hrow
  clear hrow hv
  have hml : (L.map Value.string).length = L.length := by simp
  rw [hml]
  have hmx : maxLen = 9223372036854775807 := rfl
  rw [hmx] at hL
  go_enter Try.func17, Try.ntmps17
  go_wp2
  go_loopw [3, 4] (fun v i wr => ∃ k : Nat, k ≤ 20 ∧ i = .int .i64 k ∧ Hid (k ≤ L.length) ∧ wr.ownsRow w.heap.size 9 1 v (DG.few L k).length ((DG.few L k).map Value.string) ∧ Below w.heap.size w wr) (fun _ i _ => 20 - (intOf i).toNat)
  case atStart => exact ⟨0, Nat.zero_le _, rfl, Lib.hid (Nat.zero_le _), World.ownsRow_nil _ _ _ _, Below.refl _ _⟩
  case round =>
    obtain ⟨k, hk, rfl, HkL, hown, hb⟩ := hrel
    obtain ⟨va, vc, rfl⟩ := own_shape hown
    have hwr := hb.size
    have hkL := HkL.out
    by_cases hk20 : k < 20
    · by_cases hkl : k < L.length
      · obtain ⟨g, o, rfl, hg, hc⟩ := HROW.out.resolve_left (by intro h; simp at h; simp [h] at hkl)
        have hcell0 := (hb.cell (p := ⟨g, o + k, none⟩) hg).trans (hc k (by rw [hml]; exact hkl))
        have hX : (L.map Value.string).getD k (.bool false) = .string L[k] := by simp [List.getD, hkl]
        rw [hX] at hcell0
        obtain ⟨X, hXe⟩ : ∃ X, L[k] = X := ⟨_, rfl⟩
        obtain ⟨m, hm⟩ : ∃ m : Nat, m = min X.size 40 := ⟨_, rfl⟩
        have hxm : X.size ≤ 9223372036854775807 := by rw [← hXe]; exact hs _ (by simp)
        have em : min (X.size : Int) 40 = (m : Int) := by omega
        have hmX : m ≤ X.size := by omega
        have hext : Hid (X.extract 0 m = DG.short L[k]) := Lib.hid (by rw [hXe, hm]; rfl)
        have hxs := True.intro
        have hmi : (m : Int) ≤ (X.size : Int) := by omega
        have hm0 : (0 : Int) ≤ (m : Int) := by omega
        have em2 : (if (40 : Int) < (X.size : Int) then (40 : Int) else (X.size : Int)) = (m : Int) := by split <;> omega
        have hsl : ∀ V, (Instr.slice 9 (.string X) none (some (.int .i64 (m : Int))) none).run Try.prog V = .ok (.string (X.extract 0 m)) V := fun V => slice_head X m hmi V
        have hcell : wr.cell? ⟨g, o + k, none⟩ = some (.string X) := by rw [← hXe]; exact hcell0
        clear hcell0 hX hXe hm hxs
        have hki : (k : Int) < (L.length : Int) := by omega
        have hle := DG.few_len L k
        have hown0 := hown
        have hgl : g < wr.heap.size := Nat.lt_of_lt_of_le hg hb.size
        have hne : Value.ownBlock (.slice va (DG.few L k).length vc) ≠ some g := fun e => by have := (hown.lt g e).1; omega
        go_wp2_with fail
        go_region_held3 (fun w' => w'.cell? ⟨g, o + k, none⟩ = some (.string X))
          (first | go_keep | (rw [hgrow.cell_far _ (by simp; omega) (Ne.symm hne)]; assumption))
          ((refine step_append_lies _ (by rfl) _ _ _ (by rfl) w.heap.size 9 i0 _ 1 16 Try.underlying26 hi hz0 hz1 hz2 rfl (by omega) (.slice va (DG.few L k).length vc) _ _ (by rfl) ((hown0.alloc _).drew)
              ⟨wr.heap.size, 0, none⟩ 1 1 [.string (X.extract 0 m)] (by rfl) (by rfl) (World.news_of_block (cs := #[.string (X.extract 0 m)]) (t := 9) (fr := (0, 0)) (heap_alloc_new wr _)) (by simp [Value.oneCell'])
              (by omega) (by unfold maxLen; omega) (by omega) (by simp; omega) (wr.heap.size + 1) (by simp) ?_; intro gg cap' w1 hown1 hgrow hat hlt))
        have hB : Below w.heap.size w w1 := by
          have h0 : Below w.heap.size w ((wr.alloc (.cells #[.string (X.extract 0 m)] 9)).drew) := ((hb.alloc hwr _).drew)
          exact h0.grown hgrow (by simp; omega) (fun j hj => (hown.lt j hj).1)
        clear hgrow hat hlt hown0
        go_wp2
        go_roundw
        case rel => exact ⟨k + 1, by omega, by go_num, Lib.hid (by omega), by rw [DG.few_next L k hkl]; rw [hext.out] at hown1; simpa using hown1, hB⟩
        case measure => simp [intOf]; omega
      · go_wp2
        go_ret
        exact ⟨_, rfl, by rw [DG.few_all L k 20 (by omega) (by omega)]; exact hown, hb⟩
    · obtain rfl : k = 20 := by omega
      by_cases hkl : 20 < L.length
      · go_wp2
        go_ret
        exact ⟨_, rfl, hown, hb⟩
      · go_wp2
        go_ret
        exact ⟨_, rfl, hown, hb⟩
end Go.Proofs.Ytfikbcgadpbblaa
