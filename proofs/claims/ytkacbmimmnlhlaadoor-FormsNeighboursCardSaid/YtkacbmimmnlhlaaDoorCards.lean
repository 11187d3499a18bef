/-
  DERIVED. GIVEN WITH THE SEED: THE CARDS: each row of YtkacbmimmnlhlaaDoorRows.lean that lists a variable, with what it lists TIED to the program's text (the seventh form; the later family's looks); each row that meets fmt, with fmt's text TOLD by the authors' own Lean function (tested against real Go, not proved from fmt's source: count such statements apart). THE CARD IS WHAT COUNTS. Prove the row's statement (the work); the ties are given (YtkacbmimmnlhlaaDoorTie.lean); close each card by the builder's one call (the guide's Derived/Test/ToyasCard.lean, 'card_holds'). Laid BY PROGRAM, IN A SANDBOX (cutbox-door.mjs). By AI agents, Wed Nov 11 2026. No macro, syntax, notation, axiom, sorry.
-/
import Derived.Test.YtkacbmimmnlhlaaDoorRows
import GoSem.ClaimSeven
namespace Go.Proofs.YtkacbmimmnlhlaaDoor
namespace Rows

/-- THE TIED CARD OF 'abugidalaw17.FormsTell'. -/
def formsTellCard : Claim7 := { stood := { row := formsTellRow, standIns := [], harness := (true, "8922fdb5b3a2819a938ff782babf1463373e15d632b136097e22e7840603d118"), looks := false }, kinds := [], alts := [], laidByText := true, laidKinds := [.data], laidTests := true, laidLooks := .later }
def FormsTellCardSaid : Prop := Claim7.holds Tryd.pinned (.plain (OpenSpec.ofChange formsTellSpec)) formsTellCard

/-- THE TIED CARD OF 'abugidalaw17.FormsOrder'. -/
def formsOrderCard : Claim7 := { stood := { row := formsOrderRow, standIns := [], harness := (true, "8922fdb5b3a2819a938ff782babf1463373e15d632b136097e22e7840603d118"), looks := false }, kinds := [], alts := [], laidByText := true, laidKinds := [.data], laidTests := true, laidLooks := .later }
def FormsOrderCardSaid : Prop := Claim7.holds Tryd.pinned (.plain (OpenSpec.ofChange formsOrderSpec)) formsOrderCard

/-- THE TIED CARD OF 'abugidalaw17.FormsMay'. -/
def formsMayCard : Claim7 := { stood := { row := formsMayRow, standIns := [], harness := (true, "8922fdb5b3a2819a938ff782babf1463373e15d632b136097e22e7840603d118"), looks := false }, kinds := [], alts := [], laidByText := true, laidKinds := [.data], laidTests := true, laidLooks := .later }
def FormsMayCardSaid : Prop := Claim7.holds Tryd.pinned (.plain (OpenSpec.ofChange formsMaySpec)) formsMayCard

/-- THE TIED CARD OF 'abugidalaw17.FormsNeighbours'. -/
def formsNeighboursCard : Claim7 := { stood := { row := formsNeighboursRow, standIns := [], harness := (true, "8922fdb5b3a2819a938ff782babf1463373e15d632b136097e22e7840603d118"), looks := false }, kinds := [], alts := [], laidByText := true, laidKinds := [.data], laidTests := true, laidLooks := .later }
def FormsNeighboursCardSaid : Prop := Claim7.holds Tryd.pinned (.plain (OpenSpec.ofChange formsNeighboursSpec)) formsNeighboursCard

/-- THE TIED CARD OF 'abugidalaw17.FormsApart'. -/
def formsApartCard : Claim7 := { stood := { row := formsApartRow, standIns := [], harness := (true, "8922fdb5b3a2819a938ff782babf1463373e15d632b136097e22e7840603d118"), looks := false }, kinds := [], alts := [], laidByText := true, laidKinds := [.data], laidTests := true, laidLooks := .later }
def FormsApartCardSaid : Prop := Claim7.holds Tryd.pinned (.plain (OpenSpec.ofChange formsApartSpec)) formsApartCard

/-- THE TIED CARD OF 'abugidalaw17.FormsPlaces'. -/
def formsPlacesCard : Claim7 := { stood := { row := formsPlacesRow, standIns := [], harness := (true, "8922fdb5b3a2819a938ff782babf1463373e15d632b136097e22e7840603d118"), looks := false }, kinds := [], alts := [], laidByText := true, laidKinds := [.data], laidTests := true, laidLooks := .later }
def FormsPlacesCardSaid : Prop := Claim7.holds Tryd.pinned (.plain (OpenSpec.ofChange formsPlacesSpec)) formsPlacesCard

/-- THE SECOND FORM's CARD OF 'abugidalaw17.FormsTell'. -/
def formsTellUptoCard : Claim7 := { stood := { row := formsTellUptoRow, standIns := [], harness := (true, "8922fdb5b3a2819a938ff782babf1463373e15d632b136097e22e7840603d118"), looks := false }, kinds := [], alts := [], laidByText := true, laidKinds := [.data], laidTests := true, laidLooks := .later }
def FormsTellUptoCardSaid : Prop := Claim7.holds Tryd.pinned (.plain (OpenSpec.upto formsTellSpec)) formsTellUptoCard

/-- THE SECOND FORM's CARD OF 'abugidalaw17.FormsOrder'. -/
def formsOrderUptoCard : Claim7 := { stood := { row := formsOrderUptoRow, standIns := [], harness := (true, "8922fdb5b3a2819a938ff782babf1463373e15d632b136097e22e7840603d118"), looks := false }, kinds := [], alts := [], laidByText := true, laidKinds := [.data], laidTests := true, laidLooks := .later }
def FormsOrderUptoCardSaid : Prop := Claim7.holds Tryd.pinned (.plain (OpenSpec.upto formsOrderSpec)) formsOrderUptoCard

/-- THE SECOND FORM's CARD OF 'abugidalaw17.FormsMay'. -/
def formsMayUptoCard : Claim7 := { stood := { row := formsMayUptoRow, standIns := [], harness := (true, "8922fdb5b3a2819a938ff782babf1463373e15d632b136097e22e7840603d118"), looks := false }, kinds := [], alts := [], laidByText := true, laidKinds := [.data], laidTests := true, laidLooks := .later }
def FormsMayUptoCardSaid : Prop := Claim7.holds Tryd.pinned (.plain (OpenSpec.upto formsMaySpec)) formsMayUptoCard

/-- THE SECOND FORM's CARD OF 'abugidalaw17.FormsNeighbours'. -/
def formsNeighboursUptoCard : Claim7 := { stood := { row := formsNeighboursUptoRow, standIns := [], harness := (true, "8922fdb5b3a2819a938ff782babf1463373e15d632b136097e22e7840603d118"), looks := false }, kinds := [], alts := [], laidByText := true, laidKinds := [.data], laidTests := true, laidLooks := .later }
def FormsNeighboursUptoCardSaid : Prop := Claim7.holds Tryd.pinned (.plain (OpenSpec.upto formsNeighboursSpec)) formsNeighboursUptoCard

/-- THE SECOND FORM's CARD OF 'abugidalaw17.FormsApart'. -/
def formsApartUptoCard : Claim7 := { stood := { row := formsApartUptoRow, standIns := [], harness := (true, "8922fdb5b3a2819a938ff782babf1463373e15d632b136097e22e7840603d118"), looks := false }, kinds := [], alts := [], laidByText := true, laidKinds := [.data], laidTests := true, laidLooks := .later }
def FormsApartUptoCardSaid : Prop := Claim7.holds Tryd.pinned (.plain (OpenSpec.upto formsApartSpec)) formsApartUptoCard

/-- THE SECOND FORM's CARD OF 'abugidalaw17.FormsPlaces'. -/
def formsPlacesUptoCard : Claim7 := { stood := { row := formsPlacesUptoRow, standIns := [], harness := (true, "8922fdb5b3a2819a938ff782babf1463373e15d632b136097e22e7840603d118"), looks := false }, kinds := [], alts := [], laidByText := true, laidKinds := [.data], laidTests := true, laidLooks := .later }
def FormsPlacesUptoCardSaid : Prop := Claim7.holds Tryd.pinned (.plain (OpenSpec.upto formsPlacesSpec)) formsPlacesUptoCard
end Rows
end Go.Proofs.YtkacbmimmnlhlaaDoor
