/- At most twenty strings, of at most 200 bytes each: what the statements make of their strings. -/
import Derived.Test.YtkakjpkgbbpjdaaWireSane
import Derived.Deep.RegionHeld3
import Derived.Deep.AppendLies
namespace Go.Proofs.Ytkakjpkgbbpjdaa
open Go.RowKit
abbrev sv (s : List UInt8) : Value := .string (WP.S s)
def WP.shorts (L : List (List UInt8)) (k : Nat) : List (List UInt8) := (L.take k).map (·.take 200)
theorem WP.shorts_next (L : List (List UInt8)) (k : Nat) (h : k < L.length) : WP.shorts L (k + 1) = WP.shorts L k ++ [L[k].take 200] := by
  unfold WP.shorts
  rw [List.take_add_one, List.getElem?_eq_getElem h, List.map_append]
  rfl
theorem WP.shorts_len (L : List (List UInt8)) (k : Nat) : (WP.shorts L k).length ≤ k := by unfold WP.shorts; simp; omega
theorem WP.shorts_all (L : List (List UInt8)) (k m : Nat) (h : L.length ≤ k) (h2 : L.length ≤ m) : WP.shorts L m = WP.shorts L k := by unfold WP.shorts; rw [List.take_of_length_le h, List.take_of_length_le h2]
theorem own_below {w w' : World} {B e size n : Nat} {v : Value} {xs : List Value} (h : w.ownsRow B e size v n xs) (hb : Below w.heap.size w w') : w'.ownsRow B e size v n xs := by
  refine ⟨h.1, ?_⟩
  rcases h.2 with hn | ⟨g, cap, cur, rfl, hg, hgg, rest⟩
  · exact .inl hn
  · exact .inr ⟨g, cap, cur, rfl, hg, by rw [hb.block g (Array.getElem?_eq_some_iff.1 hgg).1]; exact hgg, rest⟩

set_option maxRecDepth 100000 in
set_option maxHeartbeats 4000000 in
theorem short_any (v : Value) (L : List (List UInt8)) (w : World) (hv : RowAt w v (L.map sv)) (hs : ∀ x, x ∈ L → x.length ≤ maxLen) (hL : L.length ≤ maxLen) :
    Calls Try.prog 17 #[v] w fun e w' => ∃ u, e = .returned u ∧ w'.ownsRow w.heap.size 9 1 u (WP.shorts L 20).length ((WP.shorts L 20).map sv) ∧ Below w.heap.size w w' := by
  obtain ⟨i0, hi, hz0, hz1, hz2⟩ := info_parts info_string
  obtain ⟨a, cap, rfl, hrow⟩ := hv.out
  have HROW := Lib.hid hrow
  clear hrow hv
  have hml : (L.map sv).length = L.length := by simp
  rw [hml]
  have hmx : maxLen = 9223372036854775807 := rfl
  rw [hmx] at hL
  go_enter Try.func17, Try.ntmps17
  go_wp2
  go_loopw [3, 4] (fun v i wr => ∃ k : Nat, k ≤ 20 ∧ i = .int .i64 k ∧ Hid (k ≤ L.length) ∧ wr.ownsRow w.heap.size 9 1 v (WP.shorts L k).length ((WP.shorts L k).map sv) ∧ Below w.heap.size w wr) (fun _ i _ => 20 - (intOf i).toNat)
  case atStart => exact ⟨0, Nat.zero_le _, rfl, Lib.hid (Nat.zero_le _), World.ownsRow_nil _ _ _ _, Below.refl _ _⟩
  case round =>
    obtain ⟨k, hk, rfl, HkL, hown, hb⟩ := hrel
    obtain ⟨va, vc, rfl⟩ := own_shape hown
    have hwr := hb.size
    have hkL := HkL.out
    by_cases hk20 : k < 20
    · by_cases hkl : k < L.length
      · obtain ⟨g, o, rfl, hg, hc⟩ := HROW.out.resolve_left (by intro h; simp at h; simp [h] at hkl)
        have hcell0 := (hb.cell (p := ⟨g, o + k, none⟩) hg).trans (hc k (by rw [hml]; exact hkl))
        have hX : (L.map sv).getD k (.bool false) = .string (WP.S L[k]) := by simp [List.getD, hkl]
        rw [hX] at hcell0
        obtain ⟨X, hXe⟩ : ∃ X, WP.S L[k] = X := ⟨_, rfl⟩
        obtain ⟨m, hm⟩ : ∃ m : Nat, m = min L[k].length 200 := ⟨_, rfl⟩
        have hxs : X.size = L[k].length := by rw [← hXe, WP.S_size]
        have hxm : X.size ≤ 9223372036854775807 := by rw [hxs]; exact hs _ (by simp)
        have em : min (X.size : Int) 200 = (m : Int) := by omega
        have hmX : m ≤ X.size := by omega
        have hext : Hid (X.extract 0 m = WP.S (L[k].take 200)) := Lib.hid (by
          have := S_extract L[k] 0 m
          rw [Nat.zero_add, List.drop_zero] at this
          rw [← hXe, this, hm]
          congr 1
          rcases Nat.le_total L[k].length 200 with h | h
          · rw [Nat.min_eq_left h, List.take_of_length_le (Nat.le_refl _), List.take_of_length_le h]
          · rw [Nat.min_eq_right h])
        have hcell : wr.cell? ⟨g, o + k, none⟩ = some (.string X) := by rw [← hXe]; exact hcell0
        clear hcell0 hX hXe hm hxs
        have hki : (k : Int) < (L.length : Int) := by omega
        have hle := WP.shorts_len L k
        have hown0 := hown
        have hgl : g < wr.heap.size := Nat.lt_of_lt_of_le hg hb.size
        have hne : Value.ownBlock (.slice va (WP.shorts L k).length vc) ≠ some g := fun e => by have := (hown.lt g e).1; omega
        go_wp2_with fail
        go_region_held3 (fun w' => w'.cell? ⟨g, o + k, none⟩ = some (.string X))
          (first | go_keep | (rw [hgrow.cell_far _ (by simp; omega) (Ne.symm hne)]; assumption))
          ((refine step_append_lies _ (by rfl) _ _ _ (by rfl) w.heap.size 9 i0 _ 1 16 Try.underlying29 hi hz0 hz1 hz2 rfl (by omega) (.slice va (WP.shorts L k).length vc) _ _ (by rfl) ((hown0.alloc _).drew)
              ⟨wr.heap.size, 0, none⟩ 1 1 [.string (X.extract 0 m)] (by rfl) (by rfl) (World.news_of_block (cs := #[.string (X.extract 0 m)]) (t := 9) (fr := (0, 0)) (heap_alloc_new wr _)) (by simp [Value.oneCell'])
              (by omega) (by unfold maxLen; omega) (by omega) (by simp; omega) (wr.heap.size + 1) (by simp) ?_; intro gg cap' w1 hown1 hgrow hat hlt))
        have hB : Below w.heap.size w w1 := by
          have h0 : Below w.heap.size w ((wr.alloc (.cells #[.string (X.extract 0 m)] 9)).drew) := ((hb.alloc hwr _).drew)
          exact h0.grown hgrow (by simp; omega) (fun j hj => (hown.lt j hj).1)
        clear hgrow hat hlt hown0
        go_wp2
        go_roundw
        case rel => exact ⟨k + 1, by omega, by go_num, Lib.hid (by omega), by rw [WP.shorts_next L k hkl]; rw [hext.out] at hown1; simpa using hown1, hB⟩
        case measure => simp [intOf]; omega
      · go_wp2
        go_ret
        exact ⟨_, rfl, by rw [WP.shorts_all L k 20 (by omega) (by omega)]; exact hown, hb⟩
    · obtain rfl : k = 20 := by omega
      by_cases hkl : 20 < L.length
      · go_wp2
        go_ret
        exact ⟨_, rfl, hown, hb⟩
      · go_wp2
        go_ret
        exact ⟨_, rfl, hown, hb⟩
end Go.Proofs.Ytkakjpkgbbpjdaa
