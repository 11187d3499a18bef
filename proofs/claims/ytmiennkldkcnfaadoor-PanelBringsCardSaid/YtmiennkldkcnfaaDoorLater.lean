/- A region that draws its order, whose operations read and whose calls hand back values that no order turns, walked once in the order of the text, over all worlds that come later than one. No conditions. -/
import Derived.Handy
import Derived.BigQuiet
import Derived.Deep.QuietTactic
namespace Go.Proofs.YtmiennkldkcnfaaDoor
open Go.RowKit

/-- A world that comes later than w: what w holds stands in it unchanged. -/
structure Later (w : World) where
  val : World
  le : Below w.heap.size w val

instance laterNonempty (w : World) : Nonempty (Later w) := ⟨⟨w, Below.refl _ _⟩⟩

theorem Later.cell {w : World} {p : Addr} {v : Value} (h : w.cell? p = some v) (s : Later w) : s.val.cell? p = some v :=
  (s.le.cell (World.block_lt_of_cell? w p h)).trans h

theorem calls_later {P : Program} {f : FuncId} {args : Array Value} {v : Value} {w : World} (s : Later w)
    (h : Calls P f args s.val fun e w' => e = .returned v ∧ Below s.val.heap.size s.val w') : Calls P f args s.val fun e w'' => e = .returned v ∧ ∃ s' : Later w, w'' = s'.val :=
  h.mono fun _ w'' ⟨he, hb⟩ => ⟨he, ⟨w'', s.le.trans (hb.mono s.le.size)⟩, rfl⟩
theorem calls_later_same {P : Program} {f : FuncId} {args : Array Value} {v : Value} {w : World} (s : Later w)
    (h : Calls P f args s.val fun e w' => e = .returned v ∧ s.val = w') : Calls P f args s.val fun e w'' => e = .returned v ∧ ∃ s' : Later w, w'' = s'.val :=
  h.mono fun _ _ ⟨he, hb⟩ => ⟨he, s, hb.symm⟩

theorem wp_region_later {P : Program} {id : Nat} {Q : Exit → Act → World → Prop} {a : Act} {w : World} {l : List Oper} (hm : P.follows .mixedOrders = true) (hB : Region.lexB .any l.toArray = true)
    (h : wpQuiet P l.toArray (fun w' => ∃ s : Later w, w' = s.val) (fun a' => ∀ w', (∃ s : Later w, w' = s.val) → Q .normal a' w') l a) : (Code.region id l.toArray true).wp P Q a w :=
  wp_region_quiet (C := fun w' => ∃ s : Later w, w' = s.val) hm hB ⟨⟨_, (Below.refl _ _).drew⟩, rfl⟩ (by simpa using h)
end Go.Proofs.YtmiennkldkcnfaaDoor
