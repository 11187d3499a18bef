/-
  DERIVED. GIVEN WITH THE SEED: THE CARDS: each row of YtnikddmcphcmeaaDoorRows.lean that lists a variable, with what it lists TIED to the program's text (the seventh form; the later family's looks); each row that meets fmt, with fmt's text TOLD by the authors' own Lean function (tested against real Go, not proved from fmt's source: count such statements apart). THE CARD IS WHAT COUNTS. Prove the row's statement (the work); the ties are given (YtnikddmcphcmeaaDoorTie.lean); close each card by the builder's one call (the guide's Derived/Test/ToyasCard.lean, 'card_holds'). Laid BY PROGRAM, IN A SANDBOX (cutbox-door.mjs). By AI agents, Wed Nov 11 2026. No macro, syntax, notation, axiom, sorry.
-/
import Derived.Test.YtnikddmcphcmeaaDoorRows
import GoSem.ClaimSeven
namespace Go.Proofs.YtnikddmcphcmeaaDoor
namespace Rows

/-- THE TIED CARD OF 'abugidalaw06.ClusterSplits'. -/
def clusterSplitsCard : Claim7 := { stood := { row := clusterSplitsRow, standIns := [], harness := (true, "94ae454babfafb36bd312d3be602505aab9b2fc1416d8add26b6a1dec952f975"), looks := false }, kinds := [], alts := [], laidByText := true, laidKinds := [.data], laidTests := true, laidLooks := .later }
def ClusterSplitsCardSaid : Prop := Claim7.holds Tryd.pinned (.plain (OpenSpec.ofChange clusterSplitsSpec)) clusterSplitsCard

/-- THE TIED CARD OF 'abugidalaw06.ClusterFinds'. -/
def clusterFindsCard : Claim7 := { stood := { row := clusterFindsRow, standIns := [], harness := (true, "94ae454babfafb36bd312d3be602505aab9b2fc1416d8add26b6a1dec952f975"), looks := false }, kinds := [], alts := [], laidByText := true, laidKinds := [.data], laidTests := true, laidLooks := .later }
def ClusterFindsCardSaid : Prop := Claim7.holds Tryd.pinned (.plain (OpenSpec.ofChange clusterFindsSpec)) clusterFindsCard

/-- THE TIED CARD OF 'abugidalaw06.ClusterCovers'. -/
def clusterCoversCard : Claim7 := { stood := { row := clusterCoversRow, standIns := [], harness := (true, "94ae454babfafb36bd312d3be602505aab9b2fc1416d8add26b6a1dec952f975"), looks := false }, kinds := [], alts := [], laidByText := true, laidKinds := [.data], laidTests := true, laidLooks := .later }
def ClusterCoversCardSaid : Prop := Claim7.holds Tryd.pinned (.plain (OpenSpec.ofChange clusterCoversSpec)) clusterCoversCard

/-- THE TIED CARD OF 'abugidalaw06.ClusterBelongs'. -/
def clusterBelongsCard : Claim7 := { stood := { row := clusterBelongsRow, standIns := [], harness := (true, "94ae454babfafb36bd312d3be602505aab9b2fc1416d8add26b6a1dec952f975"), looks := false }, kinds := [], alts := [], laidByText := true, laidKinds := [.data], laidTests := true, laidLooks := .later }
def ClusterBelongsCardSaid : Prop := Claim7.holds Tryd.pinned (.plain (OpenSpec.ofChange clusterBelongsSpec)) clusterBelongsCard

/-- THE TIED CARD OF 'abugidalaw06.ClusterBases'. -/
def clusterBasesCard : Claim7 := { stood := { row := clusterBasesRow, standIns := [], harness := (true, "94ae454babfafb36bd312d3be602505aab9b2fc1416d8add26b6a1dec952f975"), looks := false }, kinds := [], alts := [], laidByText := true, laidKinds := [.data], laidTests := true, laidLooks := .later }
def ClusterBasesCardSaid : Prop := Claim7.holds Tryd.pinned (.plain (OpenSpec.ofChange clusterBasesSpec)) clusterBasesCard

/-- THE TIED CARD OF 'abugidalaw06.ClusterLines'. -/
def clusterLinesCard : Claim7 := { stood := { row := clusterLinesRow, standIns := [], harness := (true, "94ae454babfafb36bd312d3be602505aab9b2fc1416d8add26b6a1dec952f975"), looks := false }, kinds := [], alts := [], laidByText := true, laidKinds := [.data], laidTests := true, laidLooks := .later }
def ClusterLinesCardSaid : Prop := Claim7.holds Tryd.pinned (.plain (OpenSpec.ofChange clusterLinesSpec)) clusterLinesCard

/-- THE TIED CARD OF 'abugidalaw06.ClusterBehind'. -/
def clusterBehindCard : Claim7 := { stood := { row := clusterBehindRow, standIns := [], harness := (true, "94ae454babfafb36bd312d3be602505aab9b2fc1416d8add26b6a1dec952f975"), looks := false }, kinds := [], alts := [], laidByText := true, laidKinds := [.data], laidTests := true, laidLooks := .later }
def ClusterBehindCardSaid : Prop := Claim7.holds Tryd.pinned (.plain (OpenSpec.ofChange clusterBehindSpec)) clusterBehindCard

/-- THE SECOND FORM's CARD OF 'abugidalaw06.ClusterSplits'. -/
def clusterSplitsUptoCard : Claim7 := { stood := { row := clusterSplitsUptoRow, standIns := [], harness := (true, "94ae454babfafb36bd312d3be602505aab9b2fc1416d8add26b6a1dec952f975"), looks := false }, kinds := [], alts := [], laidByText := true, laidKinds := [.data], laidTests := true, laidLooks := .later }
def ClusterSplitsUptoCardSaid : Prop := Claim7.holds Tryd.pinned (.plain (OpenSpec.upto clusterSplitsSpec)) clusterSplitsUptoCard

/-- THE SECOND FORM's CARD OF 'abugidalaw06.ClusterFinds'. -/
def clusterFindsUptoCard : Claim7 := { stood := { row := clusterFindsUptoRow, standIns := [], harness := (true, "94ae454babfafb36bd312d3be602505aab9b2fc1416d8add26b6a1dec952f975"), looks := false }, kinds := [], alts := [], laidByText := true, laidKinds := [.data], laidTests := true, laidLooks := .later }
def ClusterFindsUptoCardSaid : Prop := Claim7.holds Tryd.pinned (.plain (OpenSpec.upto clusterFindsSpec)) clusterFindsUptoCard

/-- THE SECOND FORM's CARD OF 'abugidalaw06.ClusterCovers'. -/
def clusterCoversUptoCard : Claim7 := { stood := { row := clusterCoversUptoRow, standIns := [], harness := (true, "94ae454babfafb36bd312d3be602505aab9b2fc1416d8add26b6a1dec952f975"), looks := false }, kinds := [], alts := [], laidByText := true, laidKinds := [.data], laidTests := true, laidLooks := .later }
def ClusterCoversUptoCardSaid : Prop := Claim7.holds Tryd.pinned (.plain (OpenSpec.upto clusterCoversSpec)) clusterCoversUptoCard

/-- THE SECOND FORM's CARD OF 'abugidalaw06.ClusterBelongs'. -/
def clusterBelongsUptoCard : Claim7 := { stood := { row := clusterBelongsUptoRow, standIns := [], harness := (true, "94ae454babfafb36bd312d3be602505aab9b2fc1416d8add26b6a1dec952f975"), looks := false }, kinds := [], alts := [], laidByText := true, laidKinds := [.data], laidTests := true, laidLooks := .later }
def ClusterBelongsUptoCardSaid : Prop := Claim7.holds Tryd.pinned (.plain (OpenSpec.upto clusterBelongsSpec)) clusterBelongsUptoCard

/-- THE SECOND FORM's CARD OF 'abugidalaw06.ClusterBases'. -/
def clusterBasesUptoCard : Claim7 := { stood := { row := clusterBasesUptoRow, standIns := [], harness := (true, "94ae454babfafb36bd312d3be602505aab9b2fc1416d8add26b6a1dec952f975"), looks := false }, kinds := [], alts := [], laidByText := true, laidKinds := [.data], laidTests := true, laidLooks := .later }
def ClusterBasesUptoCardSaid : Prop := Claim7.holds Tryd.pinned (.plain (OpenSpec.upto clusterBasesSpec)) clusterBasesUptoCard

/-- THE SECOND FORM's CARD OF 'abugidalaw06.ClusterLines'. -/
def clusterLinesUptoCard : Claim7 := { stood := { row := clusterLinesUptoRow, standIns := [], harness := (true, "94ae454babfafb36bd312d3be602505aab9b2fc1416d8add26b6a1dec952f975"), looks := false }, kinds := [], alts := [], laidByText := true, laidKinds := [.data], laidTests := true, laidLooks := .later }
def ClusterLinesUptoCardSaid : Prop := Claim7.holds Tryd.pinned (.plain (OpenSpec.upto clusterLinesSpec)) clusterLinesUptoCard

/-- THE SECOND FORM's CARD OF 'abugidalaw06.ClusterBehind'. -/
def clusterBehindUptoCard : Claim7 := { stood := { row := clusterBehindUptoRow, standIns := [], harness := (true, "94ae454babfafb36bd312d3be602505aab9b2fc1416d8add26b6a1dec952f975"), looks := false }, kinds := [], alts := [], laidByText := true, laidKinds := [.data], laidTests := true, laidLooks := .later }
def ClusterBehindUptoCardSaid : Prop := Claim7.holds Tryd.pinned (.plain (OpenSpec.upto clusterBehindSpec)) clusterBehindUptoCard
end Rows
end Go.Proofs.YtnikddmcphcmeaaDoor
