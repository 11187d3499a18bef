/- What the listed variable says of memory: the table of math/bits lies as its text lays it. -/
import Derived.Test.YtmiennkldkcnfaaDoorTie
import Derived.Test.YtmiennkldkcnfaaDoorCards
import Derived.Test.YtmiennkldkcnfaaDoorPn11
import Derived.ProofKit
import Derived.LaidMore
import Derived.OpenShut
import Derived.Stop.Joined
import Derived.SevenTiedAt
import Derived.Lib.SmallJoins
namespace Go.Proofs.YtmiennkldkcnfaaDoor
open Go.ChangeShapes Go.WideShapes Go.ChangeAt Go.RowKit

theorem gTab : Tryd.prog.globalNamed "math/bits.deBruijn64tab" = some 0 := by kernel_rfl
theorem tTab : (Tryd.prog.globals[0]?).map (·.type) = some 97 := by kernel_rfl
theorem dTab {H : Type} : (Rows.laid_math_bits_deBruijn64tab : DataW H) = .agg (List.map (fun k : Nat => .lit (.int .u8 (k : Int))) Lib.deBruijn64tab) := by kernel_rfl
theorem cTab : Tryd.prog.cellsOf 97 = 64 := by kernel_rfl
theorem cU8 : Tryd.prog.cellsOf 5 = 1 := by kernel_rfl

abbrev laidL : List (String × DataW Unit) := [("math/bits.deBruijn64tab", Rows.laid_math_bits_deBruijn64tab)]
/-- The door's own heap meets the condition. -/
theorem door_met (os : Os) (args : Array Value) : laidMetH Tryd.prog laidL ((World.doorLaid Tryd.prog 46 os).forCall (fun _ _ => 0) ⟨#[], args, []⟩).memory :=
  laidMetH_of_parts3 (fuel := 8) (laidMet_of_run' 8 (by kernel_rfl) (by kernel_rfl)) (by kernel_rfl) (by kernel_rfl)

section
variable {H : Type} {enc : TypeId × Value → H} {w : World} {base : Nat} {spare : Nat → Bool} {held : Bool}
theorem u8_of_trod {m : Nat} {v : Value} {a : Int} {u : DataW H × List MemPlace} (h : DataW.trod enc Tryd.prog w base spare held m 5 [v] = some u) (hu : DataW.lit (.int .u8 a) = u.1) : v = .int .u8 a := by
  obtain ⟨k, e1, e2, _⟩ := DataW.trod_int Tryd.underlying5 h
  subst e2
  simp at e1 hu
  rw [e1, hu]
end

theorem of_laid {W : World} (h : laidMetH Tryd.prog laidL W) : ∃ g, Laid W g := by
  rw [MakeChecks.laidMetH_plain _ _ _ (by kernel_rfl)] at h
  obtain ⟨ps, ⟨g0, t0, cs0, f0, p0, q0, hg0, ht0, hv0, hd0, _, _⟩, _, _⟩ := h
  obtain rfl := Option.some.inj (gTab.symm.trans hg0)
  obtain rfl := Option.some.inj (tTab.symm.trans ht0)
  rw [dTab] at hd0
  obtain ⟨xs, m, _, hx, hcl, hxl, hel⟩ := DataW.trod_array Tryd.underlying97 hd0
  rw [cTab] at hcl
  rw [cU8] at hel
  simp only [Prod.mk.injEq, DataW.agg.injEq] at hx
  have hcell : ∀ j, j < 64 → W.cell? ⟨0, j, none⟩ = some (.int .u8 (Lib.deBruijn64tab.getD j 0)) := fun j hj => by
    have h1 := hel j hj
    obtain ⟨v, hv⟩ : ∃ v, cs0.toList[j]? = some v := ⟨cs0.toList[j]'(by omega), List.getElem?_eq_getElem _⟩
    have h2 : (cs0.toList.drop (j * 1)).take 1 = [v] := by
      rw [Nat.mul_one, List.take_one, List.head?_drop, hv]; rfl
    rw [h2, List.getElem?_eq_getElem (by omega)] at h1
    have h3 : (xs.map (·.1))[j]? = some (xs[j]'(by omega)).1 := by simp [List.getElem?_eq_getElem (show j < xs.length by omega)]
    rw [← hx.1, List.getElem?_map, List.getElem?_eq_getElem (show j < Lib.deBruijn64tab.length from hj)] at h3
    have h4 := u8_of_trod h1 (by simpa using h3)
    rw [World.var?_cell hg0 hv0 j]
    rw [h4] at hv
    simp only [Array.getElem?_toList] at hv
    rw [hv]
    simp [List.getD, List.getElem?_eq_getElem (show j < Lib.deBruijn64tab.length from hj)]
  refine ⟨(0, 0), fun j hj => hcell j hj, ?_⟩
  exact World.block_lt_of_cell? W _ (hcell 0 (by omega))
end Go.Proofs.YtmiennkldkcnfaaDoor
