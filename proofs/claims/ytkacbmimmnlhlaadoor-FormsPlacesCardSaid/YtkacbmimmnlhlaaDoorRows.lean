/-
  NARROWER THAN 'FOR EVERY INPUT', by the rows' own cells (each row's printed sentence says how): FormsTell: laid · FormsOrder: laid · FormsMay: laid · FormsNeighbours: laid · FormsApart: laid · FormsPlaces: laid.
  DERIVED. THE GIVEN ROWS OF THIS SEAT. 6 by the template 'for every input the law returns true; each argument reads behind the call as it read before'; 0 by the template 'total and deterministic' (their statements: YtkacbmimmnlhlaaDoorTotals.lean).
  GIVEN WITH THE SEED: the statements are not yours to turn. If you find one false, say at which input.
  Laid BY PROGRAM, IN A SANDBOX (cutbox-rows.mjs): the forced cells as the released guide's own fill.sh prints them over the translation abb044d9d45d4a79… (all of the seat's roots in one cut). By AI agents, Wed Nov 11 2026. No macro, syntax, notation, axiom, sorry.
-/
import Derived.Test.YtkacbmimmnlhlaaDoorChecked
import GoSem.Claim
import GoSem.ClaimJoined
import GoSem.ClaimMapViews
import Derived.JoinedTies
import Derived.KernelRfl
namespace Go.Proofs.YtkacbmimmnlhlaaDoor
/- THE CELL 'sum', in the pinned program and in every row, IS THE sha256 OF THE DUMP (.gsa) THAT YtkacbmimmnlhlaaDoorProg.lean LOADS. Nothing in Lean hashes anything: it is a label: what it is worth is what the hold of that sum in a sandbox is worth. -/
noncomputable def Tryd.pinned : Pinned := { name := "ytkacbmimmnlhlaadoor", sum := "abb044d9d45d4a793a068d5bda900ee10b4ceb4eb77ff35f6704218a563614df", checked := Tryd.checked }
namespace Rows
def none {H : Type} : Left H := { results := [], args := [] }

/- WHAT THE LISTED PACKAGE-LEVEL VARIABLES READ AS WHEN THE CALL BEGINS. Each datum BY PROGRAM (the guide's laid-datum.mjs) off the statement by which the dump's own 'gosem.cut.vars' lays the variable. In a bare row this is a premise. The card (YtkacbmimmnlhlaaDoorCards.lean) ties it to the program's text. -/
def laid_abugida_chars_rows {H : Type} : DataW H := .slice [.agg [.lit (.int .i64 10), .lit (.int .i64 10), .agg [.lit (.int .i64 1), .lit (.int .i64 0)]], .agg [.lit (.int .i64 32), .lit (.int .i64 32), .agg [.lit (.int .i64 2), .lit (.int .i64 0)]], .agg [.lit (.int .i64 33), .lit (.int .i64 47), .agg [.lit (.int .i64 4), .lit (.int .i64 0)]], .agg [.lit (.int .i64 48), .lit (.int .i64 57), .agg [.lit (.int .i64 3), .lit (.int .i64 0)]], .agg [.lit (.int .i64 64), .lit (.int .i64 95), .agg [.lit (.int .i64 5), .lit (.int .i64 1)]], .agg [.lit (.int .i64 96), .lit (.int .i64 103), .agg [.lit (.int .i64 6), .lit (.int .i64 1)]], .agg [.lit (.int .i64 104), .lit (.int .i64 127), .agg [.lit (.int .i64 7), .lit (.int .i64 2)]], .agg [.lit (.int .i64 128), .lit (.int .i64 143), .agg [.lit (.int .i64 8), .lit (.int .i64 2)]], .agg [.lit (.int .i64 144), .lit (.int .i64 151), .agg [.lit (.int .i64 6), .lit (.int .i64 2)]], .agg [.lit (.int .i64 152), .lit (.int .i64 183), .agg [.lit (.int .i64 9), .lit (.int .i64 3)]], .agg [.lit (.int .i64 184), .lit (.int .i64 184), .agg [.lit (.int .i64 10), .lit (.int .i64 3)]], .agg [.lit (.int .i64 185), .lit (.int .i64 191), .agg [.lit (.int .i64 11), .lit (.int .i64 3)]], .agg [.lit (.int .i64 192), .lit (.int .i64 199), .agg [.lit (.int .i64 12), .lit (.int .i64 3)]], .agg [.lit (.int .i64 200), .lit (.int .i64 207), .agg [.lit (.int .i64 6), .lit (.int .i64 3)]], .agg [.lit (.int .i64 240), .lit (.int .i64 240), .agg [.lit (.int .i64 13), .lit (.int .i64 0)]], .agg [.lit (.int .i64 241), .lit (.int .i64 241), .agg [.lit (.int .i64 14), .lit (.int .i64 0)]]] []

/-- 'abugidalaw17.FormsTell': WHATEVER THE INPUT: true; the input reads as it did. -/
def formsTellSpec : ChangeSpec := { name := "formsTell", fn := fun _ => fun
  | [d1, d2] => { results := [.lit (.bool true)], args := [d1, d2] }
  | _ => none }
def formsTellRow : OpenClaim := { program := "ytkacbmimmnlhlaadoor", sum := "abb044d9d45d4a793a068d5bda900ee10b4ceb4eb77ff35f6704218a563614df", func := "abugida/abugidalaw17.FormsTell", spec := "formsTell", unfollowed := true, recurses := true, named := ["abugida/chars.rows"], plainKeys := false, apart := false, laid := [("abugida/chars.rows", laid_abugida_chars_rows)] }
def FormsTellSaid : Prop := formsTellRow.holds Tryd.pinned (OpenSpec.ofChange formsTellSpec)

/-- ITS FALSE NEIGHBOUR: 'it returns false'. Refute it at one input. -/
def formsTellWrong : ChangeSpec := { name := "formsTell", fn := fun _ => fun
  | [d1, d2] => { results := [.lit (.bool false)], args := [d1, d2] }
  | _ => none }
def FormsTellWrongFalsely : Prop := formsTellRow.holds Tryd.pinned (OpenSpec.ofChange formsTellWrong)

/-- 'abugidalaw17.FormsOrder': WHATEVER THE INPUT: true; the input reads as it did. -/
def formsOrderSpec : ChangeSpec := { name := "formsOrder", fn := fun _ => fun
  | [d1, d2, d3] => { results := [.lit (.bool true)], args := [d1, d2, d3] }
  | _ => none }
def formsOrderRow : OpenClaim := { program := "ytkacbmimmnlhlaadoor", sum := "abb044d9d45d4a793a068d5bda900ee10b4ceb4eb77ff35f6704218a563614df", func := "abugida/abugidalaw17.FormsOrder", spec := "formsOrder", unfollowed := true, recurses := true, named := ["abugida/chars.rows"], plainKeys := false, apart := false, laid := [("abugida/chars.rows", laid_abugida_chars_rows)] }
def FormsOrderSaid : Prop := formsOrderRow.holds Tryd.pinned (OpenSpec.ofChange formsOrderSpec)

/-- ITS FALSE NEIGHBOUR: 'it returns false'. Refute it at one input. -/
def formsOrderWrong : ChangeSpec := { name := "formsOrder", fn := fun _ => fun
  | [d1, d2, d3] => { results := [.lit (.bool false)], args := [d1, d2, d3] }
  | _ => none }
def FormsOrderWrongFalsely : Prop := formsOrderRow.holds Tryd.pinned (OpenSpec.ofChange formsOrderWrong)

/-- 'abugidalaw17.FormsMay': WHATEVER THE INPUT: true; the input reads as it did. -/
def formsMaySpec : ChangeSpec := { name := "formsMay", fn := fun _ => fun
  | [d1, d2, d3] => { results := [.lit (.bool true)], args := [d1, d2, d3] }
  | _ => none }
def formsMayRow : OpenClaim := { program := "ytkacbmimmnlhlaadoor", sum := "abb044d9d45d4a793a068d5bda900ee10b4ceb4eb77ff35f6704218a563614df", func := "abugida/abugidalaw17.FormsMay", spec := "formsMay", unfollowed := true, recurses := true, named := ["abugida/chars.rows"], plainKeys := false, apart := false, laid := [("abugida/chars.rows", laid_abugida_chars_rows)] }
def FormsMaySaid : Prop := formsMayRow.holds Tryd.pinned (OpenSpec.ofChange formsMaySpec)

/-- ITS FALSE NEIGHBOUR: 'it returns false'. Refute it at one input. -/
def formsMayWrong : ChangeSpec := { name := "formsMay", fn := fun _ => fun
  | [d1, d2, d3] => { results := [.lit (.bool false)], args := [d1, d2, d3] }
  | _ => none }
def FormsMayWrongFalsely : Prop := formsMayRow.holds Tryd.pinned (OpenSpec.ofChange formsMayWrong)

/-- 'abugidalaw17.FormsNeighbours': WHATEVER THE INPUT: true; the input reads as it did. -/
def formsNeighboursSpec : ChangeSpec := { name := "formsNeighbours", fn := fun _ => fun
  | [d] => { results := [.lit (.bool true)], args := [d] }
  | _ => none }
def formsNeighboursRow : OpenClaim := { program := "ytkacbmimmnlhlaadoor", sum := "abb044d9d45d4a793a068d5bda900ee10b4ceb4eb77ff35f6704218a563614df", func := "abugida/abugidalaw17.FormsNeighbours", spec := "formsNeighbours", unfollowed := true, recurses := true, named := ["abugida/chars.rows"], plainKeys := false, apart := false, laid := [("abugida/chars.rows", laid_abugida_chars_rows)] }
def FormsNeighboursSaid : Prop := formsNeighboursRow.holds Tryd.pinned (OpenSpec.ofChange formsNeighboursSpec)

/-- ITS FALSE NEIGHBOUR: 'it returns false'. Refute it at one input. -/
def formsNeighboursWrong : ChangeSpec := { name := "formsNeighbours", fn := fun _ => fun
  | [d] => { results := [.lit (.bool false)], args := [d] }
  | _ => none }
def FormsNeighboursWrongFalsely : Prop := formsNeighboursRow.holds Tryd.pinned (OpenSpec.ofChange formsNeighboursWrong)

/-- 'abugidalaw17.FormsApart': WHATEVER THE INPUT: true; the input reads as it did. -/
def formsApartSpec : ChangeSpec := { name := "formsApart", fn := fun _ => fun
  | [d1, d2, d3] => { results := [.lit (.bool true)], args := [d1, d2, d3] }
  | _ => none }
def formsApartRow : OpenClaim := { program := "ytkacbmimmnlhlaadoor", sum := "abb044d9d45d4a793a068d5bda900ee10b4ceb4eb77ff35f6704218a563614df", func := "abugida/abugidalaw17.FormsApart", spec := "formsApart", unfollowed := true, recurses := true, named := ["abugida/chars.rows"], plainKeys := false, apart := false, laid := [("abugida/chars.rows", laid_abugida_chars_rows)] }
def FormsApartSaid : Prop := formsApartRow.holds Tryd.pinned (OpenSpec.ofChange formsApartSpec)

/-- ITS FALSE NEIGHBOUR: 'it returns false'. Refute it at one input. -/
def formsApartWrong : ChangeSpec := { name := "formsApart", fn := fun _ => fun
  | [d1, d2, d3] => { results := [.lit (.bool false)], args := [d1, d2, d3] }
  | _ => none }
def FormsApartWrongFalsely : Prop := formsApartRow.holds Tryd.pinned (OpenSpec.ofChange formsApartWrong)

/-- 'abugidalaw17.FormsPlaces': WHATEVER THE INPUT: true; the input reads as it did. -/
def formsPlacesSpec : ChangeSpec := { name := "formsPlaces", fn := fun _ => fun
  | [d] => { results := [.lit (.bool true)], args := [d] }
  | _ => none }
def formsPlacesRow : OpenClaim := { program := "ytkacbmimmnlhlaadoor", sum := "abb044d9d45d4a793a068d5bda900ee10b4ceb4eb77ff35f6704218a563614df", func := "abugida/abugidalaw17.FormsPlaces", spec := "formsPlaces", unfollowed := true, recurses := true, named := ["abugida/chars.rows"], plainKeys := false, apart := false, laid := [("abugida/chars.rows", laid_abugida_chars_rows)] }
def FormsPlacesSaid : Prop := formsPlacesRow.holds Tryd.pinned (OpenSpec.ofChange formsPlacesSpec)

/-- ITS FALSE NEIGHBOUR: 'it returns false'. Refute it at one input. -/
def formsPlacesWrong : ChangeSpec := { name := "formsPlaces", fn := fun _ => fun
  | [d] => { results := [.lit (.bool false)], args := [d] }
  | _ => none }
def FormsPlacesWrongFalsely : Prop := formsPlacesRow.holds Tryd.pinned (OpenSpec.ofChange formsPlacesWrong)

/- THE SECOND FORM. 'bulk': how many values and letters a reading holds, each counted each time it is reached (what is shared counts as often as it is met; a slice's spare places count too). A statement '..UptoSaid' is the law's where the arguments, and the package variables that the reading takes, are together of bulk at most 1048576: NARROWER than '..Said'. Prove '..Said' where nothing that the law and all that it calls make is longer than what came in: it says more and counts as full. Else prove '..UptoSaid'. A law counts once. -/
mutual
def uptoBulk {H : Type} : DataW H → Nat
  | .lit (.string bytes) => bytes.length + 1
  | .lit _ => 1
  | .nil => 1
  | .ptr d => uptoBulk d + 1
  | .slice elems spare => uptoBulkAll elems + uptoBulkAll spare + 1
  | .agg parts => uptoBulkAll parts + 1
  | .iface _ d => uptoBulk d + 1
  | .map entries => uptoBulkEntries entries + 1
  | .held _ => 1
def uptoBulkAll {H : Type} : List (DataW H) → Nat
  | [] => 0
  | d :: r => uptoBulk d + uptoBulkAll r
def uptoBulkEntries {H : Type} : List (Lit × DataW H) → Nat
  | [] => 0
  | x :: r => uptoBulkEntry x + uptoBulkEntries r
def uptoBulkEntry {H : Type} : Lit × DataW H → Nat
  | (.string bytes, d) => bytes.length + uptoBulk d + 1
  | (_, d) => uptoBulk d + 1
 end
def uptoSmall : (H : Type) → List (DataW H) → Bool := fun _ ds => decide (uptoBulkAll ds ≤ 1048576)
def OpenSpec.upto (s : _root_.Go.ChangeSpec) : _root_.Go.OpenSpec := { _root_.Go.OpenSpec.ofChange s with cond := some uptoSmall }

/-- 'abugidalaw17.FormsTell', WHERE WHAT IT READS IS OF BULK AT MOST 1048576: true; the input reads as it did. -/
def formsTellUptoRow : OpenClaim := { program := "ytkacbmimmnlhlaadoor", sum := "abb044d9d45d4a793a068d5bda900ee10b4ceb4eb77ff35f6704218a563614df", func := "abugida/abugidalaw17.FormsTell", spec := "formsTell", unfollowed := true, recurses := true, named := ["abugida/chars.rows"], plainKeys := false, apart := false, laid := [("abugida/chars.rows", laid_abugida_chars_rows)], narrowed := true }
def FormsTellUptoSaid : Prop := formsTellUptoRow.holds Tryd.pinned (OpenSpec.upto formsTellSpec)

/-- 'abugidalaw17.FormsOrder', WHERE WHAT IT READS IS OF BULK AT MOST 1048576: true; the input reads as it did. -/
def formsOrderUptoRow : OpenClaim := { program := "ytkacbmimmnlhlaadoor", sum := "abb044d9d45d4a793a068d5bda900ee10b4ceb4eb77ff35f6704218a563614df", func := "abugida/abugidalaw17.FormsOrder", spec := "formsOrder", unfollowed := true, recurses := true, named := ["abugida/chars.rows"], plainKeys := false, apart := false, laid := [("abugida/chars.rows", laid_abugida_chars_rows)], narrowed := true }
def FormsOrderUptoSaid : Prop := formsOrderUptoRow.holds Tryd.pinned (OpenSpec.upto formsOrderSpec)

/-- 'abugidalaw17.FormsMay', WHERE WHAT IT READS IS OF BULK AT MOST 1048576: true; the input reads as it did. -/
def formsMayUptoRow : OpenClaim := { program := "ytkacbmimmnlhlaadoor", sum := "abb044d9d45d4a793a068d5bda900ee10b4ceb4eb77ff35f6704218a563614df", func := "abugida/abugidalaw17.FormsMay", spec := "formsMay", unfollowed := true, recurses := true, named := ["abugida/chars.rows"], plainKeys := false, apart := false, laid := [("abugida/chars.rows", laid_abugida_chars_rows)], narrowed := true }
def FormsMayUptoSaid : Prop := formsMayUptoRow.holds Tryd.pinned (OpenSpec.upto formsMaySpec)

/-- 'abugidalaw17.FormsNeighbours', WHERE WHAT IT READS IS OF BULK AT MOST 1048576: true; the input reads as it did. -/
def formsNeighboursUptoRow : OpenClaim := { program := "ytkacbmimmnlhlaadoor", sum := "abb044d9d45d4a793a068d5bda900ee10b4ceb4eb77ff35f6704218a563614df", func := "abugida/abugidalaw17.FormsNeighbours", spec := "formsNeighbours", unfollowed := true, recurses := true, named := ["abugida/chars.rows"], plainKeys := false, apart := false, laid := [("abugida/chars.rows", laid_abugida_chars_rows)], narrowed := true }
def FormsNeighboursUptoSaid : Prop := formsNeighboursUptoRow.holds Tryd.pinned (OpenSpec.upto formsNeighboursSpec)

/-- 'abugidalaw17.FormsApart', WHERE WHAT IT READS IS OF BULK AT MOST 1048576: true; the input reads as it did. -/
def formsApartUptoRow : OpenClaim := { program := "ytkacbmimmnlhlaadoor", sum := "abb044d9d45d4a793a068d5bda900ee10b4ceb4eb77ff35f6704218a563614df", func := "abugida/abugidalaw17.FormsApart", spec := "formsApart", unfollowed := true, recurses := true, named := ["abugida/chars.rows"], plainKeys := false, apart := false, laid := [("abugida/chars.rows", laid_abugida_chars_rows)], narrowed := true }
def FormsApartUptoSaid : Prop := formsApartUptoRow.holds Tryd.pinned (OpenSpec.upto formsApartSpec)

/-- 'abugidalaw17.FormsPlaces', WHERE WHAT IT READS IS OF BULK AT MOST 1048576: true; the input reads as it did. -/
def formsPlacesUptoRow : OpenClaim := { program := "ytkacbmimmnlhlaadoor", sum := "abb044d9d45d4a793a068d5bda900ee10b4ceb4eb77ff35f6704218a563614df", func := "abugida/abugidalaw17.FormsPlaces", spec := "formsPlaces", unfollowed := true, recurses := true, named := ["abugida/chars.rows"], plainKeys := false, apart := false, laid := [("abugida/chars.rows", laid_abugida_chars_rows)], narrowed := true }
def FormsPlacesUptoSaid : Prop := formsPlacesUptoRow.holds Tryd.pinned (OpenSpec.upto formsPlacesSpec)

end Rows
end Go.Proofs.YtkacbmimmnlhlaaDoor
