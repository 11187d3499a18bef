/- An element taken out of its ring. No conditions. -/
import Derived.Test.YtmnajongifdajaaMem1
import Derived.Shelf.RegionOpenPlain
namespace Go.Proofs.Ytmnajongifdajaa
set_option maxRecDepth 100000
set_option linter.unusedVariables false
open Go.RowKit
/-- The world behind 'remove'. -/
def remW (W : World) (p q : Nat) : World := (W.setCell ⟨p, 7, none⟩ (ptr q)).setCell ⟨q, 6, none⟩ (ptr p)
set_option maxHeartbeats 4000000 in
theorem remove_any (W : World) (b p q : Nat) (e ep eq : En) (pp qq : Value) (hb : Nd W b e (ptr p) (ptr q)) (hp : Nd W p ep pp (ptr b)) (hq : Nd W q eq (ptr b) qq) (h1 : p ≠ b) (h2 : q ≠ b) :
    Calls Try.prog 28 #[ptr b] W fun x w' => x = .returned (.tuple #[]) ∧ w' = (remW W p q).drew := by
  have mixed : Try.prog.follows .mixedOrders = true := by kernel_rfl
  have c1 := hb.before
  have c2 := hb.after
  have c3 := hp.after
  have c4 := hq.before
  have f1 := hp.frozen 7
  have f2 := hq.frozen 6
  go_enter Try.func28, Try.ntmps28
  go_wp2
  go_region_o
  go_end0
  exact ⟨rfl, rfl⟩
end Go.Proofs.Ytmnajongifdajaa
