/- The law's cut. -/
import Derived.Test.YtfikbcgadpbblaaDigVerP
namespace Go.Proofs.Ytfikbcgadpbblaa
set_option linter.unusedVariables false
open Go.RowKit
/-- At most 300 bytes. -/
def _root_.Go.Proofs.Ytfikbcgadpbblaa.DG.cut (s : ByteArray) : ByteArray := s.extract 0 (min s.size 300)
theorem cut_size (s : ByteArray) : (DG.cut s).size ≤ 300 := by unfold DG.cut; rw [ByteArray.size_extract]; omega
set_option maxRecDepth 100000 in
set_option maxHeartbeats 1000000 in
theorem cut_any (s : ByteArray) (w : World) (hs : s.size ≤ maxLen) : Calls Try.prog 12 #[.string s] w fun e w' => e = .returned (.string (DG.cut s)) ∧ Below w.heap.size w w' := by
  unfold maxLen at hs
  by_cases h : s.size ≤ 300
  · have hi : (s.size : Int) ≤ 300 := by omega
    have e0 : min (s.size : Int) 300 = (s.size : Int) := by omega
    have HC : Hid (s = DG.cut s) := Lib.hid (by
      unfold DG.cut
      rw [show min s.size 300 = s.size by omega]
      simp)
    go_enter Try.func12, Try.ntmps12
    go_wp2
    go_ret
    refine ⟨?_, Below.refl _ _⟩
    exact rets HC.out
  · have hi : 300 ≤ (s.size : Int) := by omega
    have e0 : min (s.size : Int) 300 = 300 := by omega
    have HC : Hid (s.extract 0 300 = DG.cut s) := Lib.hid (by unfold DG.cut; congr 1; omega)
    go_enter Try.func12, Try.ntmps12
    go_wp2
    go_ret
    refine ⟨?_, Below.refl _ _⟩
    rw [← HC.out]
    rfl
end Go.Proofs.Ytfikbcgadpbblaa
