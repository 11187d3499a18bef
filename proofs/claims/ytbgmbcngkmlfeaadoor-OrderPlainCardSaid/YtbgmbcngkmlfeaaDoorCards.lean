/-
  DERIVED. GIVEN WITH THE SEED: THE CARDS: each row of YtbgmbcngkmlfeaaDoorRows.lean that lists a variable, with what it lists TIED to the program's text (the seventh form; the later family's looks); each row that meets fmt, with fmt's text TOLD by the authors' own Lean function (tested against real Go, not proved from fmt's source: count such statements apart). THE CARD IS WHAT COUNTS. Prove the row's statement (the work); the ties are given (YtbgmbcngkmlfeaaDoorTie.lean); close each card by the builder's one call (the guide's Derived/Test/ToyasCard.lean, 'card_holds'). Laid BY PROGRAM, IN A SANDBOX (cutbox-door.mjs). By AI agents, Wed Nov 11 2026. No macro, syntax, notation, axiom, sorry.
-/
import Derived.Test.YtbgmbcngkmlfeaaDoorRows
import GoSem.ClaimSeven
namespace Go.Proofs.YtbgmbcngkmlfeaaDoor
namespace Rows

/-- THE TIED CARD OF 'abugidalaw07.OrderLevels'. -/
def orderLevelsCard : Claim7 := { stood := { row := orderLevelsRow, standIns := [], harness := (true, "76b08934057dac966f465b637731729e68c938eefebd9c939d7cef76412a0bb1"), looks := false }, kinds := [], alts := [], laidByText := true, laidKinds := [.data], laidTests := true, laidLooks := .later }
def OrderLevelsCardSaid : Prop := Claim7.holds Tryd.pinned (.plain (OpenSpec.ofChange orderLevelsSpec)) orderLevelsCard

/-- THE TIED CARD OF 'abugidalaw07.OrderPlain'. -/
def orderPlainCard : Claim7 := { stood := { row := orderPlainRow, standIns := [], harness := (true, "76b08934057dac966f465b637731729e68c938eefebd9c939d7cef76412a0bb1"), looks := false }, kinds := [], alts := [], laidByText := true, laidKinds := [.data], laidTests := true, laidLooks := .later }
def OrderPlainCardSaid : Prop := Claim7.holds Tryd.pinned (.plain (OpenSpec.ofChange orderPlainSpec)) orderPlainCard

/-- THE TIED CARD OF 'abugidalaw07.OrderVisual'. -/
def orderVisualCard : Claim7 := { stood := { row := orderVisualRow, standIns := [], harness := (true, "76b08934057dac966f465b637731729e68c938eefebd9c939d7cef76412a0bb1"), looks := false }, kinds := [], alts := [], laidByText := true, laidKinds := [.data], laidTests := true, laidLooks := .later }
def OrderVisualCardSaid : Prop := Claim7.holds Tryd.pinned (.plain (OpenSpec.ofChange orderVisualSpec)) orderVisualCard

/-- THE TIED CARD OF 'abugidalaw07.OrderOnce'. -/
def orderOnceCard : Claim7 := { stood := { row := orderOnceRow, standIns := [], harness := (true, "76b08934057dac966f465b637731729e68c938eefebd9c939d7cef76412a0bb1"), looks := false }, kinds := [], alts := [], laidByText := true, laidKinds := [.data], laidTests := true, laidLooks := .later }
def OrderOnceCardSaid : Prop := Claim7.holds Tryd.pinned (.plain (OpenSpec.ofChange orderOnceSpec)) orderOnceCard

/-- THE TIED CARD OF 'abugidalaw07.OrderPieces'. -/
def orderPiecesCard : Claim7 := { stood := { row := orderPiecesRow, standIns := [], harness := (true, "76b08934057dac966f465b637731729e68c938eefebd9c939d7cef76412a0bb1"), looks := false }, kinds := [], alts := [], laidByText := true, laidKinds := [.data], laidTests := true, laidLooks := .later }
def OrderPiecesCardSaid : Prop := Claim7.holds Tryd.pinned (.plain (OpenSpec.ofChange orderPiecesSpec)) orderPiecesCard

/-- THE TIED CARD OF 'abugidalaw07.OrderApart'. -/
def orderApartCard : Claim7 := { stood := { row := orderApartRow, standIns := [], harness := (true, "76b08934057dac966f465b637731729e68c938eefebd9c939d7cef76412a0bb1"), looks := false }, kinds := [], alts := [], laidByText := true, laidKinds := [.data], laidTests := true, laidLooks := .later }
def OrderApartCardSaid : Prop := Claim7.holds Tryd.pinned (.plain (OpenSpec.ofChange orderApartSpec)) orderApartCard

/-- THE SECOND FORM's CARD OF 'abugidalaw07.OrderLevels'. -/
def orderLevelsUptoCard : Claim7 := { stood := { row := orderLevelsUptoRow, standIns := [], harness := (true, "76b08934057dac966f465b637731729e68c938eefebd9c939d7cef76412a0bb1"), looks := false }, kinds := [], alts := [], laidByText := true, laidKinds := [.data], laidTests := true, laidLooks := .later }
def OrderLevelsUptoCardSaid : Prop := Claim7.holds Tryd.pinned (.plain (OpenSpec.upto orderLevelsSpec)) orderLevelsUptoCard

/-- THE SECOND FORM's CARD OF 'abugidalaw07.OrderPlain'. -/
def orderPlainUptoCard : Claim7 := { stood := { row := orderPlainUptoRow, standIns := [], harness := (true, "76b08934057dac966f465b637731729e68c938eefebd9c939d7cef76412a0bb1"), looks := false }, kinds := [], alts := [], laidByText := true, laidKinds := [.data], laidTests := true, laidLooks := .later }
def OrderPlainUptoCardSaid : Prop := Claim7.holds Tryd.pinned (.plain (OpenSpec.upto orderPlainSpec)) orderPlainUptoCard

/-- THE SECOND FORM's CARD OF 'abugidalaw07.OrderVisual'. -/
def orderVisualUptoCard : Claim7 := { stood := { row := orderVisualUptoRow, standIns := [], harness := (true, "76b08934057dac966f465b637731729e68c938eefebd9c939d7cef76412a0bb1"), looks := false }, kinds := [], alts := [], laidByText := true, laidKinds := [.data], laidTests := true, laidLooks := .later }
def OrderVisualUptoCardSaid : Prop := Claim7.holds Tryd.pinned (.plain (OpenSpec.upto orderVisualSpec)) orderVisualUptoCard

/-- THE SECOND FORM's CARD OF 'abugidalaw07.OrderOnce'. -/
def orderOnceUptoCard : Claim7 := { stood := { row := orderOnceUptoRow, standIns := [], harness := (true, "76b08934057dac966f465b637731729e68c938eefebd9c939d7cef76412a0bb1"), looks := false }, kinds := [], alts := [], laidByText := true, laidKinds := [.data], laidTests := true, laidLooks := .later }
def OrderOnceUptoCardSaid : Prop := Claim7.holds Tryd.pinned (.plain (OpenSpec.upto orderOnceSpec)) orderOnceUptoCard

/-- THE SECOND FORM's CARD OF 'abugidalaw07.OrderPieces'. -/
def orderPiecesUptoCard : Claim7 := { stood := { row := orderPiecesUptoRow, standIns := [], harness := (true, "76b08934057dac966f465b637731729e68c938eefebd9c939d7cef76412a0bb1"), looks := false }, kinds := [], alts := [], laidByText := true, laidKinds := [.data], laidTests := true, laidLooks := .later }
def OrderPiecesUptoCardSaid : Prop := Claim7.holds Tryd.pinned (.plain (OpenSpec.upto orderPiecesSpec)) orderPiecesUptoCard

/-- THE SECOND FORM's CARD OF 'abugidalaw07.OrderApart'. -/
def orderApartUptoCard : Claim7 := { stood := { row := orderApartUptoRow, standIns := [], harness := (true, "76b08934057dac966f465b637731729e68c938eefebd9c939d7cef76412a0bb1"), looks := false }, kinds := [], alts := [], laidByText := true, laidKinds := [.data], laidTests := true, laidLooks := .later }
def OrderApartUptoCardSaid : Prop := Claim7.holds Tryd.pinned (.plain (OpenSpec.upto orderApartSpec)) orderApartUptoCard
end Rows
end Go.Proofs.YtbgmbcngkmlfeaaDoor
