/- The reference's reader: its small methods, over the same plain reader. -/
import Derived.Test.YtinkhgmdeldniaaWireMeth
import Derived.Test.YtinkhgmdeldniaaWireCanon
namespace Go.Proofs.Ytinkhgmdeldniaa.W
set_option maxRecDepth 100000
open Go.RowKit

/-- A reader of the reference in block b. -/
def QAt (b : Nat) (r : WP.RS) (w : World) : Prop := w.heap[b]? = some (.cells #[.string (WP.S r.s), .int .i64 r.p, .bool r.bad] 79 (0, 0)) ∧ r.p ≤ r.s.length ∧ r.s.length ≤ 140737488355328
theorem QAt.out {b : Nat} {r : WP.RS} {w : World} (h : QAt b r w) : w.heap[b]? = some (.cells #[.string (WP.S r.s), .int .i64 r.p, .bool r.bad] 79 (0, 0)) ∧ r.p ≤ r.s.length ∧ r.s.length ≤ 140737488355328 := h
theorem QAt.lt {b : Nat} {r : WP.RS} {w : World} (h : QAt b r w) : b < w.heap.size := by
  rcases Nat.lt_or_ge b w.heap.size with h' | h'
  · exact h'
  · have := h.out.1; simp [Array.getElem?_eq_none h'] at this
theorem QAt.keep {b : Nat} {r : WP.RS} {w w' : World} (h : QAt b r w) (hb : Below w.heap.size w w') : QAt b r w' := ⟨(hb.block b h.lt).trans h.1, h.2⟩
theorem QAt.cells {b : Nat} {r : WP.RS} {w : World} (h : QAt b r w) : w.cell? ⟨b, 0, none⟩ = some (.string (WP.S r.s)) ∧ w.cell? ⟨b, 1, none⟩ = some (.int .i64 r.p) ∧ w.cell? ⟨b, 2, none⟩ = some (.bool r.bad) ∧ (∀ j, w.frozen? ⟨b, j, none⟩ = false) :=
  ⟨by rw [Lib.cell_of_heap h.1]; rfl, by rw [Lib.cell_of_heap h.1]; rfl, by rw [Lib.cell_of_heap h.1]; rfl, fun j => Lib.frozen_of_heap h.1 j⟩
theorem QAt.setPlace {b : Nat} {r : WP.RS} {w : World} (h : QAt b r w) (q : Nat) (hq : q ≤ r.s.length) (v : Int) (hv : v = q) : QAt b { r with p := q } (w.setCell ⟨b, 1, none⟩ (.int .i64 v)) := by
  subst hv
  exact ⟨by simp [World.setCell, Array.getElem?_modify, h.1], hq, h.2.2⟩
theorem QAt.setBad {b : Nat} {r : WP.RS} {w : World} (h : QAt b r w) : QAt b r.fail (w.setCell ⟨b, 2, none⟩ (.bool true)) := by
  exact ⟨by simp [World.setCell, Array.getElem?_modify, h.1, WP.RS.fail], h.2⟩

set_option maxHeartbeats 400000 in
theorem qbad_any (b : Nat) (r : WP.RS) (w : World) (h : QAt b r w) : Calls Try.prog 62 #[.pointer (some ⟨b, 0, none⟩)] w fun e w' => e = .returned (.bool r.bad) ∧ w' = w := by
  obtain ⟨c0, c1, c2, _⟩ := h.cells
  go_enter Try.func62, Try.ntmps62
  go_wp2
  go_ret
  exact ⟨rfl, rfl⟩

set_option maxHeartbeats 400000 in
theorem qleft_any (b : Nat) (r : WP.RS) (w : World) (h : QAt b r w) : Calls Try.prog 58 #[.pointer (some ⟨b, 0, none⟩)] w fun e w' => e = .returned (.int .i64 r.left) ∧ Below w.heap.size w w' := by
  obtain ⟨c0, c1, c2, _⟩ := h.cells
  have hp := h.2.1
  have hs := h.2.2
  have hz := WP.S_size r.s
  have hbad := Lib.hid (qbad_any b r w h)
  go_enter Try.func58, Try.ntmps58
  go_wp2_with (go_at_call 62; refine hbad.out.mono ?_; rintro e w1 ⟨rfl, rfl⟩)
  · go_ret
    rename_i hb
    exact ⟨ret1 (by simp [WP.RS.left, hb]), Below.refl _ _⟩
  · go_quiet (fail)
    go_wp2
    go_ret
    rename_i hb
    exact ⟨ret1 (by simp [WP.RS.left, hb]; omega), below_drewN (Below.refl _ _) _⟩
set_option maxHeartbeats 400000 in
theorem qnew_any (s : List UInt8) (w : World) (hs : s.length ≤ 140737488355328) : Calls Try.prog 29 #[.string (WP.S s)] w fun e w' => e = .returned (.pointer (some ⟨w.heap.size, 0, none⟩)) ∧ QAt w.heap.size ⟨s, 0, false⟩ w' ∧ Below w.heap.size w w' := by
  go_enter Try.func29, Try.ntmps29
  go_wp2
  go_ret
  exact ⟨rfl, ⟨by rw [heap_alloc_new]; rfl, Nat.zero_le _, hs⟩, (Below.refl _ _).alloc (Nat.le_refl _) _⟩


set_option maxHeartbeats 400000 in
theorem qfail_any (b : Nat) (r : WP.RS) (w : World) (h : QAt b r w) : Calls Try.prog 59 #[.pointer (some ⟨b, 0, none⟩)] w fun e w' => e = .returned (.tuple #[]) ∧ QAt b r.fail w' ∧ Kept b w w' := by
  obtain ⟨c0, c1, c2, cf⟩ := h.cells
  have cf2 := cf 2
  go_enter Try.func59, Try.ntmps59
  go_wp2
  go_end0
  exact ⟨rfl, h.setBad, Kept.set _ _⟩
end Go.Proofs.Ytinkhgmdeldniaa.W
