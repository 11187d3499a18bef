/- The keys of the law. No conditions. -/
import Derived.Test.YtmnajongifdajaaMem7
namespace Go.Proofs.Ytmnajongifdajaa
set_option maxRecDepth 100000
set_option linter.unusedVariables false
open Go.RowKit
/-- The key with a number. -/
def kyE (n : Int) : Int × Int × Int × Int := (n % 2, 2, n / 2, 0)
abbrev kyV (k : Int × Int × Int × Int) : Value := .agg #[.int .i64 k.1, .int .i64 k.2.1, .int .i64 k.2.2.1, .int .i64 k.2.2.2]
set_option maxHeartbeats 1000000 in
theorem key_any (n : Int) (W : World) (h0 : 0 ≤ n) (h1 : n ≤ 1000) :
    Calls Try.prog 13 #[.int .i64 n] W fun x w' => x = .returned (kyV (kyE n)) ∧ Below W.heap.size W w' := by
  go_enter Try.func13, Try.ntmps13
  go_wp2
  refine bodyPost_ret (v := kyV (kyE n)) (results_cell_row Try.results13 _ _ W.heap.size 34 _ (0, 0) _ rfl (heap_alloc_new W _) Try.underlying34 rfl (by kernel_rfl)) rfl ⟨rfl, ?_⟩
  exact balloc (Below.refl _ _) _
end Go.Proofs.Ytmnajongifdajaa
