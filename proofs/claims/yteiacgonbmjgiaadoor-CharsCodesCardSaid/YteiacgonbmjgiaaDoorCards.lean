/-
  DERIVED. GIVEN WITH THE SEED: THE CARDS: each row of YteiacgonbmjgiaaDoorRows.lean that lists a variable, with what it lists TIED to the program's text (the seventh form; the later family's looks); each row that meets fmt, with fmt's text TOLD by the authors' own Lean function (tested against real Go, not proved from fmt's source: count such statements apart). THE CARD IS WHAT COUNTS. Prove the row's statement (the work); the ties are given (YteiacgonbmjgiaaDoorTie.lean); close each card by the builder's one call (the guide's Derived/Test/ToyasCard.lean, 'card_holds'). Laid BY PROGRAM, IN A SANDBOX (cutbox-door.mjs). By AI agents, Wed Nov 11 2026. No macro, syntax, notation, axiom, sorry.
-/
import Derived.Test.YteiacgonbmjgiaaDoorRows
import GoSem.ClaimSeven
namespace Go.Proofs.YteiacgonbmjgiaaDoor
namespace Rows

/-- THE TIED CARD OF 'abugidalaw05.CharsAll'. -/
def charsAllCard : Claim7 := { stood := { row := charsAllRow, standIns := [], harness := (true, "65ed36c226a8279ec671ae17f9683afd19bc12828077c649f7f0382d472eff97"), looks := false }, kinds := [], alts := [], laidByText := true, laidKinds := [.data], laidTests := true, laidLooks := .later }
def CharsAllCardSaid : Prop := Claim7.holds Tryd.pinned (.plain (OpenSpec.ofChange charsAllSpec)) charsAllCard

/-- THE TIED CARD OF 'abugidalaw05.CharsCodes'. -/
def charsCodesCard : Claim7 := { stood := { row := charsCodesRow, standIns := [], harness := (true, "65ed36c226a8279ec671ae17f9683afd19bc12828077c649f7f0382d472eff97"), looks := false }, kinds := [], alts := [], laidByText := true, laidKinds := [.data], laidTests := true, laidLooks := .later }
def CharsCodesCardSaid : Prop := Claim7.holds Tryd.pinned (.plain (OpenSpec.ofChange charsCodesSpec)) charsCodesCard

/-- THE TIED CARD OF 'abugidalaw05.CharsParts'. -/
def charsPartsCard : Claim7 := { stood := { row := charsPartsRow, standIns := [], harness := (true, "65ed36c226a8279ec671ae17f9683afd19bc12828077c649f7f0382d472eff97"), looks := false }, kinds := [], alts := [], laidByText := true, laidKinds := [.data], laidTests := true, laidLooks := .later }
def CharsPartsCardSaid : Prop := Claim7.holds Tryd.pinned (.plain (OpenSpec.ofChange charsPartsSpec)) charsPartsCard

/-- THE TIED CARD OF 'abugidalaw05.CharsAlike'. -/
def charsAlikeCard : Claim7 := { stood := { row := charsAlikeRow, standIns := [], harness := (true, "65ed36c226a8279ec671ae17f9683afd19bc12828077c649f7f0382d472eff97"), looks := false }, kinds := [], alts := [], laidByText := true, laidKinds := [.data], laidTests := true, laidLooks := .later }
def CharsAlikeCardSaid : Prop := Claim7.holds Tryd.pinned (.plain (OpenSpec.ofChange charsAlikeSpec)) charsAlikeCard

/-- THE TIED CARD OF 'abugidalaw05.CharsJoins'. -/
def charsJoinsCard : Claim7 := { stood := { row := charsJoinsRow, standIns := [], harness := (true, "65ed36c226a8279ec671ae17f9683afd19bc12828077c649f7f0382d472eff97"), looks := false }, kinds := [], alts := [], laidByText := true, laidKinds := [.data], laidTests := true, laidLooks := .later }
def CharsJoinsCardSaid : Prop := Claim7.holds Tryd.pinned (.plain (OpenSpec.ofChange charsJoinsSpec)) charsJoinsCard

/-- THE SECOND FORM's CARD OF 'abugidalaw05.CharsAll'. -/
def charsAllUptoCard : Claim7 := { stood := { row := charsAllUptoRow, standIns := [], harness := (true, "65ed36c226a8279ec671ae17f9683afd19bc12828077c649f7f0382d472eff97"), looks := false }, kinds := [], alts := [], laidByText := true, laidKinds := [.data], laidTests := true, laidLooks := .later }
def CharsAllUptoCardSaid : Prop := Claim7.holds Tryd.pinned (.plain (OpenSpec.upto charsAllSpec)) charsAllUptoCard

/-- THE SECOND FORM's CARD OF 'abugidalaw05.CharsCodes'. -/
def charsCodesUptoCard : Claim7 := { stood := { row := charsCodesUptoRow, standIns := [], harness := (true, "65ed36c226a8279ec671ae17f9683afd19bc12828077c649f7f0382d472eff97"), looks := false }, kinds := [], alts := [], laidByText := true, laidKinds := [.data], laidTests := true, laidLooks := .later }
def CharsCodesUptoCardSaid : Prop := Claim7.holds Tryd.pinned (.plain (OpenSpec.upto charsCodesSpec)) charsCodesUptoCard

/-- THE SECOND FORM's CARD OF 'abugidalaw05.CharsParts'. -/
def charsPartsUptoCard : Claim7 := { stood := { row := charsPartsUptoRow, standIns := [], harness := (true, "65ed36c226a8279ec671ae17f9683afd19bc12828077c649f7f0382d472eff97"), looks := false }, kinds := [], alts := [], laidByText := true, laidKinds := [.data], laidTests := true, laidLooks := .later }
def CharsPartsUptoCardSaid : Prop := Claim7.holds Tryd.pinned (.plain (OpenSpec.upto charsPartsSpec)) charsPartsUptoCard

/-- THE SECOND FORM's CARD OF 'abugidalaw05.CharsAlike'. -/
def charsAlikeUptoCard : Claim7 := { stood := { row := charsAlikeUptoRow, standIns := [], harness := (true, "65ed36c226a8279ec671ae17f9683afd19bc12828077c649f7f0382d472eff97"), looks := false }, kinds := [], alts := [], laidByText := true, laidKinds := [.data], laidTests := true, laidLooks := .later }
def CharsAlikeUptoCardSaid : Prop := Claim7.holds Tryd.pinned (.plain (OpenSpec.upto charsAlikeSpec)) charsAlikeUptoCard

/-- THE SECOND FORM's CARD OF 'abugidalaw05.CharsJoins'. -/
def charsJoinsUptoCard : Claim7 := { stood := { row := charsJoinsUptoRow, standIns := [], harness := (true, "65ed36c226a8279ec671ae17f9683afd19bc12828077c649f7f0382d472eff97"), looks := false }, kinds := [], alts := [], laidByText := true, laidKinds := [.data], laidTests := true, laidLooks := .later }
def CharsJoinsUptoCardSaid : Prop := Claim7.holds Tryd.pinned (.plain (OpenSpec.upto charsJoinsSpec)) charsJoinsUptoCard
end Rows
end Go.Proofs.YteiacgonbmjgiaaDoor
