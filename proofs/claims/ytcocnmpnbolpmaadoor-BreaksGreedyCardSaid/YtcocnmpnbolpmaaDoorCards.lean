/-
  DERIVED. GIVEN WITH THE SEED: THE CARDS: each row of YtcocnmpnbolpmaaDoorRows.lean that lists a variable, with what it lists TIED to the program's text (the seventh form; the later family's looks); each row that meets fmt, with fmt's text TOLD by the authors' own Lean function (tested against real Go, not proved from fmt's source: count such statements apart). THE CARD IS WHAT COUNTS. Prove the row's statement (the work); the ties are given (YtcocnmpnbolpmaaDoorTie.lean); close each card by the builder's one call (the guide's Derived/Test/ToyasCard.lean, 'card_holds'). Laid BY PROGRAM, IN A SANDBOX (cutbox-door.mjs). By AI agents, Wed Nov 11 2026. No macro, syntax, notation, axiom, sorry.
-/
import Derived.Test.YtcocnmpnbolpmaaDoorRows
import GoSem.ClaimSeven
namespace Go.Proofs.YtcocnmpnbolpmaaDoor
namespace Rows

/-- THE TIED CARD OF 'abugidalaw08.BreaksMay'. -/
def breaksMayCard : Claim7 := { stood := { row := breaksMayRow, standIns := [], harness := (true, "e40829fea3576449625c052a1ea707edc7b6759887388792d71ff0b997e76ea0"), looks := false }, kinds := [], alts := [], laidByText := true, laidKinds := [.data], laidTests := true, laidLooks := .later }
def BreaksMayCardSaid : Prop := Claim7.holds Tryd.pinned (.plain (OpenSpec.ofChange breaksMaySpec)) breaksMayCard

/-- THE TIED CARD OF 'abugidalaw08.BreaksHeads'. -/
def breaksHeadsCard : Claim7 := { stood := { row := breaksHeadsRow, standIns := [], harness := (true, "e40829fea3576449625c052a1ea707edc7b6759887388792d71ff0b997e76ea0"), looks := false }, kinds := [], alts := [], laidByText := true, laidKinds := [.data], laidTests := true, laidLooks := .later }
def BreaksHeadsCardSaid : Prop := Claim7.holds Tryd.pinned (.plain (OpenSpec.ofChange breaksHeadsSpec)) breaksHeadsCard

/-- THE TIED CARD OF 'abugidalaw08.BreaksFills'. -/
def breaksFillsCard : Claim7 := { stood := { row := breaksFillsRow, standIns := [], harness := (true, "e40829fea3576449625c052a1ea707edc7b6759887388792d71ff0b997e76ea0"), looks := false }, kinds := [], alts := [], laidByText := true, laidKinds := [.data], laidTests := true, laidLooks := .later }
def BreaksFillsCardSaid : Prop := Claim7.holds Tryd.pinned (.plain (OpenSpec.ofChange breaksFillsSpec)) breaksFillsCard

/-- THE TIED CARD OF 'abugidalaw08.BreaksGreedy'. -/
def breaksGreedyCard : Claim7 := { stood := { row := breaksGreedyRow, standIns := [], harness := (true, "e40829fea3576449625c052a1ea707edc7b6759887388792d71ff0b997e76ea0"), looks := false }, kinds := [], alts := [], laidByText := true, laidKinds := [.data], laidTests := true, laidLooks := .later }
def BreaksGreedyCardSaid : Prop := Claim7.holds Tryd.pinned (.plain (OpenSpec.ofChange breaksGreedySpec)) breaksGreedyCard

/-- THE TIED CARD OF 'abugidalaw08.BreaksWider'. -/
def breaksWiderCard : Claim7 := { stood := { row := breaksWiderRow, standIns := [], harness := (true, "e40829fea3576449625c052a1ea707edc7b6759887388792d71ff0b997e76ea0"), looks := false }, kinds := [], alts := [], laidByText := true, laidKinds := [.data], laidTests := true, laidLooks := .later }
def BreaksWiderCardSaid : Prop := Claim7.holds Tryd.pinned (.plain (OpenSpec.ofChange breaksWiderSpec)) breaksWiderCard

/-- THE TIED CARD OF 'abugidalaw08.BreaksAlone'. -/
def breaksAloneCard : Claim7 := { stood := { row := breaksAloneRow, standIns := [], harness := (true, "e40829fea3576449625c052a1ea707edc7b6759887388792d71ff0b997e76ea0"), looks := false }, kinds := [], alts := [], laidByText := true, laidKinds := [.data], laidTests := true, laidLooks := .later }
def BreaksAloneCardSaid : Prop := Claim7.holds Tryd.pinned (.plain (OpenSpec.ofChange breaksAloneSpec)) breaksAloneCard

/-- THE SECOND FORM's CARD OF 'abugidalaw08.BreaksMay'. -/
def breaksMayUptoCard : Claim7 := { stood := { row := breaksMayUptoRow, standIns := [], harness := (true, "e40829fea3576449625c052a1ea707edc7b6759887388792d71ff0b997e76ea0"), looks := false }, kinds := [], alts := [], laidByText := true, laidKinds := [.data], laidTests := true, laidLooks := .later }
def BreaksMayUptoCardSaid : Prop := Claim7.holds Tryd.pinned (.plain (OpenSpec.upto breaksMaySpec)) breaksMayUptoCard

/-- THE SECOND FORM's CARD OF 'abugidalaw08.BreaksHeads'. -/
def breaksHeadsUptoCard : Claim7 := { stood := { row := breaksHeadsUptoRow, standIns := [], harness := (true, "e40829fea3576449625c052a1ea707edc7b6759887388792d71ff0b997e76ea0"), looks := false }, kinds := [], alts := [], laidByText := true, laidKinds := [.data], laidTests := true, laidLooks := .later }
def BreaksHeadsUptoCardSaid : Prop := Claim7.holds Tryd.pinned (.plain (OpenSpec.upto breaksHeadsSpec)) breaksHeadsUptoCard

/-- THE SECOND FORM's CARD OF 'abugidalaw08.BreaksFills'. -/
def breaksFillsUptoCard : Claim7 := { stood := { row := breaksFillsUptoRow, standIns := [], harness := (true, "e40829fea3576449625c052a1ea707edc7b6759887388792d71ff0b997e76ea0"), looks := false }, kinds := [], alts := [], laidByText := true, laidKinds := [.data], laidTests := true, laidLooks := .later }
def BreaksFillsUptoCardSaid : Prop := Claim7.holds Tryd.pinned (.plain (OpenSpec.upto breaksFillsSpec)) breaksFillsUptoCard

/-- THE SECOND FORM's CARD OF 'abugidalaw08.BreaksGreedy'. -/
def breaksGreedyUptoCard : Claim7 := { stood := { row := breaksGreedyUptoRow, standIns := [], harness := (true, "e40829fea3576449625c052a1ea707edc7b6759887388792d71ff0b997e76ea0"), looks := false }, kinds := [], alts := [], laidByText := true, laidKinds := [.data], laidTests := true, laidLooks := .later }
def BreaksGreedyUptoCardSaid : Prop := Claim7.holds Tryd.pinned (.plain (OpenSpec.upto breaksGreedySpec)) breaksGreedyUptoCard

/-- THE SECOND FORM's CARD OF 'abugidalaw08.BreaksWider'. -/
def breaksWiderUptoCard : Claim7 := { stood := { row := breaksWiderUptoRow, standIns := [], harness := (true, "e40829fea3576449625c052a1ea707edc7b6759887388792d71ff0b997e76ea0"), looks := false }, kinds := [], alts := [], laidByText := true, laidKinds := [.data], laidTests := true, laidLooks := .later }
def BreaksWiderUptoCardSaid : Prop := Claim7.holds Tryd.pinned (.plain (OpenSpec.upto breaksWiderSpec)) breaksWiderUptoCard

/-- THE SECOND FORM's CARD OF 'abugidalaw08.BreaksAlone'. -/
def breaksAloneUptoCard : Claim7 := { stood := { row := breaksAloneUptoRow, standIns := [], harness := (true, "e40829fea3576449625c052a1ea707edc7b6759887388792d71ff0b997e76ea0"), looks := false }, kinds := [], alts := [], laidByText := true, laidKinds := [.data], laidTests := true, laidLooks := .later }
def BreaksAloneUptoCardSaid : Prop := Claim7.holds Tryd.pinned (.plain (OpenSpec.upto breaksAloneSpec)) breaksAloneUptoCard
end Rows
end Go.Proofs.YtcocnmpnbolpmaaDoor
