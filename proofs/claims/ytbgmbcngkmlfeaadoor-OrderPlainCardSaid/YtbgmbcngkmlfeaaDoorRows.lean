/-
  NARROWER THAN 'FOR EVERY INPUT', by the rows' own cells (each row's printed sentence says how): OrderLevels: laid · OrderPlain: laid · OrderVisual: laid · OrderOnce: laid · OrderPieces: laid · OrderApart: laid.
  DERIVED. THE GIVEN ROWS OF THIS SEAT. 6 by the template 'for every input the law returns true; each argument reads behind the call as it read before'; 0 by the template 'total and deterministic' (their statements: YtbgmbcngkmlfeaaDoorTotals.lean).
  GIVEN WITH THE SEED: the statements are not yours to turn. If you find one false, say at which input.
  Laid BY PROGRAM, IN A SANDBOX (cutbox-rows.mjs): the forced cells as the released guide's own fill.sh prints them over the translation 27cecdeb60ef6eac… (all of the seat's roots in one cut). By AI agents, Wed Nov 11 2026. No macro, syntax, notation, axiom, sorry.
-/
import Derived.Test.YtbgmbcngkmlfeaaDoorChecked
import GoSem.Claim
import GoSem.ClaimJoined
import GoSem.ClaimMapViews
import Derived.JoinedTies
import Derived.KernelRfl
namespace Go.Proofs.YtbgmbcngkmlfeaaDoor
/- THE CELL 'sum', in the pinned program and in every row, IS THE sha256 OF THE DUMP (.gsa) THAT YtbgmbcngkmlfeaaDoorProg.lean LOADS. Nothing in Lean hashes anything: it is a label: what it is worth is what the hold of that sum in a sandbox is worth. -/
noncomputable def Tryd.pinned : Pinned := { name := "ytbgmbcngkmlfeaadoor", sum := "27cecdeb60ef6eac12561863cf72e052d4f3336fa4466428cf51fc4b4a1e1825", checked := Tryd.checked }
namespace Rows
def none {H : Type} : Left H := { results := [], args := [] }

/- WHAT THE LISTED PACKAGE-LEVEL VARIABLES READ AS WHEN THE CALL BEGINS. Each datum BY PROGRAM (the guide's laid-datum.mjs) off the statement by which the dump's own 'gosem.cut.vars' lays the variable. In a bare row this is a premise. The card (YtbgmbcngkmlfeaaDoorCards.lean) ties it to the program's text. -/
def laid_abugida_chars_rows {H : Type} : DataW H := .slice [.agg [.lit (.int .i64 10), .lit (.int .i64 10), .agg [.lit (.int .i64 1), .lit (.int .i64 0)]], .agg [.lit (.int .i64 32), .lit (.int .i64 32), .agg [.lit (.int .i64 2), .lit (.int .i64 0)]], .agg [.lit (.int .i64 33), .lit (.int .i64 47), .agg [.lit (.int .i64 4), .lit (.int .i64 0)]], .agg [.lit (.int .i64 48), .lit (.int .i64 57), .agg [.lit (.int .i64 3), .lit (.int .i64 0)]], .agg [.lit (.int .i64 64), .lit (.int .i64 95), .agg [.lit (.int .i64 5), .lit (.int .i64 1)]], .agg [.lit (.int .i64 96), .lit (.int .i64 103), .agg [.lit (.int .i64 6), .lit (.int .i64 1)]], .agg [.lit (.int .i64 104), .lit (.int .i64 127), .agg [.lit (.int .i64 7), .lit (.int .i64 2)]], .agg [.lit (.int .i64 128), .lit (.int .i64 143), .agg [.lit (.int .i64 8), .lit (.int .i64 2)]], .agg [.lit (.int .i64 144), .lit (.int .i64 151), .agg [.lit (.int .i64 6), .lit (.int .i64 2)]], .agg [.lit (.int .i64 152), .lit (.int .i64 183), .agg [.lit (.int .i64 9), .lit (.int .i64 3)]], .agg [.lit (.int .i64 184), .lit (.int .i64 184), .agg [.lit (.int .i64 10), .lit (.int .i64 3)]], .agg [.lit (.int .i64 185), .lit (.int .i64 191), .agg [.lit (.int .i64 11), .lit (.int .i64 3)]], .agg [.lit (.int .i64 192), .lit (.int .i64 199), .agg [.lit (.int .i64 12), .lit (.int .i64 3)]], .agg [.lit (.int .i64 200), .lit (.int .i64 207), .agg [.lit (.int .i64 6), .lit (.int .i64 3)]], .agg [.lit (.int .i64 240), .lit (.int .i64 240), .agg [.lit (.int .i64 13), .lit (.int .i64 0)]], .agg [.lit (.int .i64 241), .lit (.int .i64 241), .agg [.lit (.int .i64 14), .lit (.int .i64 0)]]] []

/-- 'abugidalaw07.OrderLevels': WHATEVER THE INPUT: true; the input reads as it did. -/
def orderLevelsSpec : ChangeSpec := { name := "orderLevels", fn := fun _ => fun
  | [d] => { results := [.lit (.bool true)], args := [d] }
  | _ => none }
def orderLevelsRow : OpenClaim := { program := "ytbgmbcngkmlfeaadoor", sum := "27cecdeb60ef6eac12561863cf72e052d4f3336fa4466428cf51fc4b4a1e1825", func := "abugida/abugidalaw07.OrderLevels", spec := "orderLevels", unfollowed := true, recurses := true, named := ["abugida/chars.rows"], apart := false, laid := [("abugida/chars.rows", laid_abugida_chars_rows)] }
def OrderLevelsSaid : Prop := orderLevelsRow.holds Tryd.pinned (OpenSpec.ofChange orderLevelsSpec)

/-- ITS FALSE NEIGHBOUR: 'it returns false'. Refute it at one input. -/
def orderLevelsWrong : ChangeSpec := { name := "orderLevels", fn := fun _ => fun
  | [d] => { results := [.lit (.bool false)], args := [d] }
  | _ => none }
def OrderLevelsWrongFalsely : Prop := orderLevelsRow.holds Tryd.pinned (OpenSpec.ofChange orderLevelsWrong)

/-- 'abugidalaw07.OrderPlain': WHATEVER THE INPUT: true; the input reads as it did. -/
def orderPlainSpec : ChangeSpec := { name := "orderPlain", fn := fun _ => fun
  | [d] => { results := [.lit (.bool true)], args := [d] }
  | _ => none }
def orderPlainRow : OpenClaim := { program := "ytbgmbcngkmlfeaadoor", sum := "27cecdeb60ef6eac12561863cf72e052d4f3336fa4466428cf51fc4b4a1e1825", func := "abugida/abugidalaw07.OrderPlain", spec := "orderPlain", unfollowed := true, recurses := true, named := ["abugida/chars.rows"], apart := false, laid := [("abugida/chars.rows", laid_abugida_chars_rows)] }
def OrderPlainSaid : Prop := orderPlainRow.holds Tryd.pinned (OpenSpec.ofChange orderPlainSpec)

/-- ITS FALSE NEIGHBOUR: 'it returns false'. Refute it at one input. -/
def orderPlainWrong : ChangeSpec := { name := "orderPlain", fn := fun _ => fun
  | [d] => { results := [.lit (.bool false)], args := [d] }
  | _ => none }
def OrderPlainWrongFalsely : Prop := orderPlainRow.holds Tryd.pinned (OpenSpec.ofChange orderPlainWrong)

/-- 'abugidalaw07.OrderVisual': WHATEVER THE INPUT: true; the input reads as it did. -/
def orderVisualSpec : ChangeSpec := { name := "orderVisual", fn := fun _ => fun
  | [d1, d2] => { results := [.lit (.bool true)], args := [d1, d2] }
  | _ => none }
def orderVisualRow : OpenClaim := { program := "ytbgmbcngkmlfeaadoor", sum := "27cecdeb60ef6eac12561863cf72e052d4f3336fa4466428cf51fc4b4a1e1825", func := "abugida/abugidalaw07.OrderVisual", spec := "orderVisual", unfollowed := true, recurses := true, named := ["abugida/chars.rows"], apart := false, laid := [("abugida/chars.rows", laid_abugida_chars_rows)] }
def OrderVisualSaid : Prop := orderVisualRow.holds Tryd.pinned (OpenSpec.ofChange orderVisualSpec)

/-- ITS FALSE NEIGHBOUR: 'it returns false'. Refute it at one input. -/
def orderVisualWrong : ChangeSpec := { name := "orderVisual", fn := fun _ => fun
  | [d1, d2] => { results := [.lit (.bool false)], args := [d1, d2] }
  | _ => none }
def OrderVisualWrongFalsely : Prop := orderVisualRow.holds Tryd.pinned (OpenSpec.ofChange orderVisualWrong)

/-- 'abugidalaw07.OrderOnce': WHATEVER THE INPUT: true; the input reads as it did. -/
def orderOnceSpec : ChangeSpec := { name := "orderOnce", fn := fun _ => fun
  | [d] => { results := [.lit (.bool true)], args := [d] }
  | _ => none }
def orderOnceRow : OpenClaim := { program := "ytbgmbcngkmlfeaadoor", sum := "27cecdeb60ef6eac12561863cf72e052d4f3336fa4466428cf51fc4b4a1e1825", func := "abugida/abugidalaw07.OrderOnce", spec := "orderOnce", unfollowed := true, recurses := true, named := ["abugida/chars.rows"], apart := false, laid := [("abugida/chars.rows", laid_abugida_chars_rows)] }
def OrderOnceSaid : Prop := orderOnceRow.holds Tryd.pinned (OpenSpec.ofChange orderOnceSpec)

/-- ITS FALSE NEIGHBOUR: 'it returns false'. Refute it at one input. -/
def orderOnceWrong : ChangeSpec := { name := "orderOnce", fn := fun _ => fun
  | [d] => { results := [.lit (.bool false)], args := [d] }
  | _ => none }
def OrderOnceWrongFalsely : Prop := orderOnceRow.holds Tryd.pinned (OpenSpec.ofChange orderOnceWrong)

/-- 'abugidalaw07.OrderPieces': WHATEVER THE INPUT: true; the input reads as it did. -/
def orderPiecesSpec : ChangeSpec := { name := "orderPieces", fn := fun _ => fun
  | [d1, d2] => { results := [.lit (.bool true)], args := [d1, d2] }
  | _ => none }
def orderPiecesRow : OpenClaim := { program := "ytbgmbcngkmlfeaadoor", sum := "27cecdeb60ef6eac12561863cf72e052d4f3336fa4466428cf51fc4b4a1e1825", func := "abugida/abugidalaw07.OrderPieces", spec := "orderPieces", unfollowed := true, recurses := true, named := ["abugida/chars.rows"], apart := false, laid := [("abugida/chars.rows", laid_abugida_chars_rows)] }
def OrderPiecesSaid : Prop := orderPiecesRow.holds Tryd.pinned (OpenSpec.ofChange orderPiecesSpec)

/-- ITS FALSE NEIGHBOUR: 'it returns false'. Refute it at one input. -/
def orderPiecesWrong : ChangeSpec := { name := "orderPieces", fn := fun _ => fun
  | [d1, d2] => { results := [.lit (.bool false)], args := [d1, d2] }
  | _ => none }
def OrderPiecesWrongFalsely : Prop := orderPiecesRow.holds Tryd.pinned (OpenSpec.ofChange orderPiecesWrong)

/-- 'abugidalaw07.OrderApart': WHATEVER THE INPUT: true; the input reads as it did. -/
def orderApartSpec : ChangeSpec := { name := "orderApart", fn := fun _ => fun
  | [d1, d2] => { results := [.lit (.bool true)], args := [d1, d2] }
  | _ => none }
def orderApartRow : OpenClaim := { program := "ytbgmbcngkmlfeaadoor", sum := "27cecdeb60ef6eac12561863cf72e052d4f3336fa4466428cf51fc4b4a1e1825", func := "abugida/abugidalaw07.OrderApart", spec := "orderApart", unfollowed := true, recurses := true, named := ["abugida/chars.rows"], apart := false, laid := [("abugida/chars.rows", laid_abugida_chars_rows)] }
def OrderApartSaid : Prop := orderApartRow.holds Tryd.pinned (OpenSpec.ofChange orderApartSpec)

/-- ITS FALSE NEIGHBOUR: 'it returns false'. Refute it at one input. -/
def orderApartWrong : ChangeSpec := { name := "orderApart", fn := fun _ => fun
  | [d1, d2] => { results := [.lit (.bool false)], args := [d1, d2] }
  | _ => none }
def OrderApartWrongFalsely : Prop := orderApartRow.holds Tryd.pinned (OpenSpec.ofChange orderApartWrong)

/- THE SECOND FORM. 'bulk': how many values and letters a reading holds, each counted each time it is reached (what is shared counts as often as it is met; a slice's spare places count too). A statement '..UptoSaid' is the law's where the arguments, and the package variables that the reading takes, are together of bulk at most 1048576: NARROWER than '..Said'. Prove '..Said' where nothing that the law and all that it calls make is longer than what came in: it says more and counts as full. Else prove '..UptoSaid'. A law counts once. -/
mutual
def uptoBulk {H : Type} : DataW H → Nat
  | .lit (.string bytes) => bytes.length + 1
  | .lit _ => 1
  | .nil => 1
  | .ptr d => uptoBulk d + 1
  | .slice elems spare => uptoBulkAll elems + uptoBulkAll spare + 1
  | .agg parts => uptoBulkAll parts + 1
  | .iface _ d => uptoBulk d + 1
  | .map entries => uptoBulkEntries entries + 1
  | .held _ => 1
def uptoBulkAll {H : Type} : List (DataW H) → Nat
  | [] => 0
  | d :: r => uptoBulk d + uptoBulkAll r
def uptoBulkEntries {H : Type} : List (Lit × DataW H) → Nat
  | [] => 0
  | x :: r => uptoBulkEntry x + uptoBulkEntries r
def uptoBulkEntry {H : Type} : Lit × DataW H → Nat
  | (.string bytes, d) => bytes.length + uptoBulk d + 1
  | (_, d) => uptoBulk d + 1
 end
def uptoSmall : (H : Type) → List (DataW H) → Bool := fun _ ds => decide (uptoBulkAll ds ≤ 1048576)
def OpenSpec.upto (s : _root_.Go.ChangeSpec) : _root_.Go.OpenSpec := { _root_.Go.OpenSpec.ofChange s with cond := some uptoSmall }

/-- 'abugidalaw07.OrderLevels', WHERE WHAT IT READS IS OF BULK AT MOST 1048576: true; the input reads as it did. -/
def orderLevelsUptoRow : OpenClaim := { program := "ytbgmbcngkmlfeaadoor", sum := "27cecdeb60ef6eac12561863cf72e052d4f3336fa4466428cf51fc4b4a1e1825", func := "abugida/abugidalaw07.OrderLevels", spec := "orderLevels", unfollowed := true, recurses := true, named := ["abugida/chars.rows"], apart := false, laid := [("abugida/chars.rows", laid_abugida_chars_rows)], narrowed := true }
def OrderLevelsUptoSaid : Prop := orderLevelsUptoRow.holds Tryd.pinned (OpenSpec.upto orderLevelsSpec)

/-- 'abugidalaw07.OrderPlain', WHERE WHAT IT READS IS OF BULK AT MOST 1048576: true; the input reads as it did. -/
def orderPlainUptoRow : OpenClaim := { program := "ytbgmbcngkmlfeaadoor", sum := "27cecdeb60ef6eac12561863cf72e052d4f3336fa4466428cf51fc4b4a1e1825", func := "abugida/abugidalaw07.OrderPlain", spec := "orderPlain", unfollowed := true, recurses := true, named := ["abugida/chars.rows"], apart := false, laid := [("abugida/chars.rows", laid_abugida_chars_rows)], narrowed := true }
def OrderPlainUptoSaid : Prop := orderPlainUptoRow.holds Tryd.pinned (OpenSpec.upto orderPlainSpec)

/-- 'abugidalaw07.OrderVisual', WHERE WHAT IT READS IS OF BULK AT MOST 1048576: true; the input reads as it did. -/
def orderVisualUptoRow : OpenClaim := { program := "ytbgmbcngkmlfeaadoor", sum := "27cecdeb60ef6eac12561863cf72e052d4f3336fa4466428cf51fc4b4a1e1825", func := "abugida/abugidalaw07.OrderVisual", spec := "orderVisual", unfollowed := true, recurses := true, named := ["abugida/chars.rows"], apart := false, laid := [("abugida/chars.rows", laid_abugida_chars_rows)], narrowed := true }
def OrderVisualUptoSaid : Prop := orderVisualUptoRow.holds Tryd.pinned (OpenSpec.upto orderVisualSpec)

/-- 'abugidalaw07.OrderOnce', WHERE WHAT IT READS IS OF BULK AT MOST 1048576: true; the input reads as it did. -/
def orderOnceUptoRow : OpenClaim := { program := "ytbgmbcngkmlfeaadoor", sum := "27cecdeb60ef6eac12561863cf72e052d4f3336fa4466428cf51fc4b4a1e1825", func := "abugida/abugidalaw07.OrderOnce", spec := "orderOnce", unfollowed := true, recurses := true, named := ["abugida/chars.rows"], apart := false, laid := [("abugida/chars.rows", laid_abugida_chars_rows)], narrowed := true }
def OrderOnceUptoSaid : Prop := orderOnceUptoRow.holds Tryd.pinned (OpenSpec.upto orderOnceSpec)

/-- 'abugidalaw07.OrderPieces', WHERE WHAT IT READS IS OF BULK AT MOST 1048576: true; the input reads as it did. -/
def orderPiecesUptoRow : OpenClaim := { program := "ytbgmbcngkmlfeaadoor", sum := "27cecdeb60ef6eac12561863cf72e052d4f3336fa4466428cf51fc4b4a1e1825", func := "abugida/abugidalaw07.OrderPieces", spec := "orderPieces", unfollowed := true, recurses := true, named := ["abugida/chars.rows"], apart := false, laid := [("abugida/chars.rows", laid_abugida_chars_rows)], narrowed := true }
def OrderPiecesUptoSaid : Prop := orderPiecesUptoRow.holds Tryd.pinned (OpenSpec.upto orderPiecesSpec)

/-- 'abugidalaw07.OrderApart', WHERE WHAT IT READS IS OF BULK AT MOST 1048576: true; the input reads as it did. -/
def orderApartUptoRow : OpenClaim := { program := "ytbgmbcngkmlfeaadoor", sum := "27cecdeb60ef6eac12561863cf72e052d4f3336fa4466428cf51fc4b4a1e1825", func := "abugida/abugidalaw07.OrderApart", spec := "orderApart", unfollowed := true, recurses := true, named := ["abugida/chars.rows"], apart := false, laid := [("abugida/chars.rows", laid_abugida_chars_rows)], narrowed := true }
def OrderApartUptoSaid : Prop := orderApartUptoRow.holds Tryd.pinned (OpenSpec.upto orderApartSpec)

end Rows
end Go.Proofs.YtbgmbcngkmlfeaaDoor
