/-
  NARROWER THAN 'FOR EVERY INPUT', by the rows' own cells (each row's printed sentence says how): CharsAll: laid · CharsCodes: laid · CharsParts: laid · CharsAlike: laid · CharsJoins: laid.
  DERIVED. THE GIVEN ROWS OF THIS SEAT. 5 by the template 'for every input the law returns true; each argument reads behind the call as it read before'; 0 by the template 'total and deterministic' (their statements: YteiacgonbmjgiaaDoorTotals.lean).
  GIVEN WITH THE SEED: the statements are not yours to turn. If you find one false, say at which input.
  Laid BY PROGRAM, IN A SANDBOX (cutbox-rows.mjs): the forced cells as the released guide's own fill.sh prints them over the translation f1de0c6a2f3f7a74… (all of the seat's roots in one cut). By AI agents, Wed Nov 11 2026. No macro, syntax, notation, axiom, sorry.
-/
import Derived.Test.YteiacgonbmjgiaaDoorChecked
import GoSem.Claim
import GoSem.ClaimJoined
import GoSem.ClaimMapViews
import Derived.JoinedTies
import Derived.KernelRfl
namespace Go.Proofs.YteiacgonbmjgiaaDoor
/- THE CELL 'sum', in the pinned program and in every row, IS THE sha256 OF THE DUMP (.gsa) THAT YteiacgonbmjgiaaDoorProg.lean LOADS. Nothing in Lean hashes anything: it is a label: what it is worth is what the hold of that sum in a sandbox is worth. -/
noncomputable def Tryd.pinned : Pinned := { name := "yteiacgonbmjgiaadoor", sum := "f1de0c6a2f3f7a74fabdfd24d491b4ecc935bf40f601ad1d082c6060b82ac4df", checked := Tryd.checked }
namespace Rows
def none {H : Type} : Left H := { results := [], args := [] }

/- WHAT THE LISTED PACKAGE-LEVEL VARIABLES READ AS WHEN THE CALL BEGINS. Each datum BY PROGRAM (the guide's laid-datum.mjs) off the statement by which the dump's own 'gosem.cut.vars' lays the variable. In a bare row this is a premise. The card (YteiacgonbmjgiaaDoorCards.lean) ties it to the program's text. -/
def laid_abugida_chars_rows {H : Type} : DataW H := .slice [.agg [.lit (.int .i64 10), .lit (.int .i64 10), .agg [.lit (.int .i64 1), .lit (.int .i64 0)]], .agg [.lit (.int .i64 32), .lit (.int .i64 32), .agg [.lit (.int .i64 2), .lit (.int .i64 0)]], .agg [.lit (.int .i64 33), .lit (.int .i64 47), .agg [.lit (.int .i64 4), .lit (.int .i64 0)]], .agg [.lit (.int .i64 48), .lit (.int .i64 57), .agg [.lit (.int .i64 3), .lit (.int .i64 0)]], .agg [.lit (.int .i64 64), .lit (.int .i64 95), .agg [.lit (.int .i64 5), .lit (.int .i64 1)]], .agg [.lit (.int .i64 96), .lit (.int .i64 103), .agg [.lit (.int .i64 6), .lit (.int .i64 1)]], .agg [.lit (.int .i64 104), .lit (.int .i64 127), .agg [.lit (.int .i64 7), .lit (.int .i64 2)]], .agg [.lit (.int .i64 128), .lit (.int .i64 143), .agg [.lit (.int .i64 8), .lit (.int .i64 2)]], .agg [.lit (.int .i64 144), .lit (.int .i64 151), .agg [.lit (.int .i64 6), .lit (.int .i64 2)]], .agg [.lit (.int .i64 152), .lit (.int .i64 183), .agg [.lit (.int .i64 9), .lit (.int .i64 3)]], .agg [.lit (.int .i64 184), .lit (.int .i64 184), .agg [.lit (.int .i64 10), .lit (.int .i64 3)]], .agg [.lit (.int .i64 185), .lit (.int .i64 191), .agg [.lit (.int .i64 11), .lit (.int .i64 3)]], .agg [.lit (.int .i64 192), .lit (.int .i64 199), .agg [.lit (.int .i64 12), .lit (.int .i64 3)]], .agg [.lit (.int .i64 200), .lit (.int .i64 207), .agg [.lit (.int .i64 6), .lit (.int .i64 3)]], .agg [.lit (.int .i64 240), .lit (.int .i64 240), .agg [.lit (.int .i64 13), .lit (.int .i64 0)]], .agg [.lit (.int .i64 241), .lit (.int .i64 241), .agg [.lit (.int .i64 14), .lit (.int .i64 0)]]] []

/-- 'abugidalaw05.CharsAll': WHATEVER THE INPUT: true; the input reads as it did. -/
def charsAllSpec : ChangeSpec := { name := "charsAll", fn := fun _ => fun
  | [d] => { results := [.lit (.bool true)], args := [d] }
  | _ => none }
def charsAllRow : OpenClaim := { program := "yteiacgonbmjgiaadoor", sum := "f1de0c6a2f3f7a74fabdfd24d491b4ecc935bf40f601ad1d082c6060b82ac4df", func := "abugida/abugidalaw05.CharsAll", spec := "charsAll", named := ["abugida/chars.rows"], apart := false, laid := [("abugida/chars.rows", laid_abugida_chars_rows)] }
def CharsAllSaid : Prop := charsAllRow.holds Tryd.pinned (OpenSpec.ofChange charsAllSpec)

/-- ITS FALSE NEIGHBOUR: 'it returns false'. Refute it at one input. -/
def charsAllWrong : ChangeSpec := { name := "charsAll", fn := fun _ => fun
  | [d] => { results := [.lit (.bool false)], args := [d] }
  | _ => none }
def CharsAllWrongFalsely : Prop := charsAllRow.holds Tryd.pinned (OpenSpec.ofChange charsAllWrong)

/-- 'abugidalaw05.CharsCodes': WHATEVER THE INPUT: true; the input reads as it did. -/
def charsCodesSpec : ChangeSpec := { name := "charsCodes", fn := fun _ => fun
  | [d] => { results := [.lit (.bool true)], args := [d] }
  | _ => none }
def charsCodesRow : OpenClaim := { program := "yteiacgonbmjgiaadoor", sum := "f1de0c6a2f3f7a74fabdfd24d491b4ecc935bf40f601ad1d082c6060b82ac4df", func := "abugida/abugidalaw05.CharsCodes", spec := "charsCodes", named := ["abugida/chars.rows"], apart := false, laid := [("abugida/chars.rows", laid_abugida_chars_rows)] }
def CharsCodesSaid : Prop := charsCodesRow.holds Tryd.pinned (OpenSpec.ofChange charsCodesSpec)

/-- ITS FALSE NEIGHBOUR: 'it returns false'. Refute it at one input. -/
def charsCodesWrong : ChangeSpec := { name := "charsCodes", fn := fun _ => fun
  | [d] => { results := [.lit (.bool false)], args := [d] }
  | _ => none }
def CharsCodesWrongFalsely : Prop := charsCodesRow.holds Tryd.pinned (OpenSpec.ofChange charsCodesWrong)

/-- 'abugidalaw05.CharsParts': WHATEVER THE INPUT: true; the input reads as it did. -/
def charsPartsSpec : ChangeSpec := { name := "charsParts", fn := fun _ => fun
  | [d] => { results := [.lit (.bool true)], args := [d] }
  | _ => none }
def charsPartsRow : OpenClaim := { program := "yteiacgonbmjgiaadoor", sum := "f1de0c6a2f3f7a74fabdfd24d491b4ecc935bf40f601ad1d082c6060b82ac4df", func := "abugida/abugidalaw05.CharsParts", spec := "charsParts", named := ["abugida/chars.rows"], apart := false, laid := [("abugida/chars.rows", laid_abugida_chars_rows)] }
def CharsPartsSaid : Prop := charsPartsRow.holds Tryd.pinned (OpenSpec.ofChange charsPartsSpec)

/-- ITS FALSE NEIGHBOUR: 'it returns false'. Refute it at one input. -/
def charsPartsWrong : ChangeSpec := { name := "charsParts", fn := fun _ => fun
  | [d] => { results := [.lit (.bool false)], args := [d] }
  | _ => none }
def CharsPartsWrongFalsely : Prop := charsPartsRow.holds Tryd.pinned (OpenSpec.ofChange charsPartsWrong)

/-- 'abugidalaw05.CharsAlike': WHATEVER THE INPUT: true; the input reads as it did. -/
def charsAlikeSpec : ChangeSpec := { name := "charsAlike", fn := fun _ => fun
  | [d1, d2] => { results := [.lit (.bool true)], args := [d1, d2] }
  | _ => none }
def charsAlikeRow : OpenClaim := { program := "yteiacgonbmjgiaadoor", sum := "f1de0c6a2f3f7a74fabdfd24d491b4ecc935bf40f601ad1d082c6060b82ac4df", func := "abugida/abugidalaw05.CharsAlike", spec := "charsAlike", named := ["abugida/chars.rows"], apart := false, laid := [("abugida/chars.rows", laid_abugida_chars_rows)] }
def CharsAlikeSaid : Prop := charsAlikeRow.holds Tryd.pinned (OpenSpec.ofChange charsAlikeSpec)

/-- ITS FALSE NEIGHBOUR: 'it returns false'. Refute it at one input. -/
def charsAlikeWrong : ChangeSpec := { name := "charsAlike", fn := fun _ => fun
  | [d1, d2] => { results := [.lit (.bool false)], args := [d1, d2] }
  | _ => none }
def CharsAlikeWrongFalsely : Prop := charsAlikeRow.holds Tryd.pinned (OpenSpec.ofChange charsAlikeWrong)

/-- 'abugidalaw05.CharsJoins': WHATEVER THE INPUT: true; the input reads as it did. -/
def charsJoinsSpec : ChangeSpec := { name := "charsJoins", fn := fun _ => fun
  | [d] => { results := [.lit (.bool true)], args := [d] }
  | _ => none }
def charsJoinsRow : OpenClaim := { program := "yteiacgonbmjgiaadoor", sum := "f1de0c6a2f3f7a74fabdfd24d491b4ecc935bf40f601ad1d082c6060b82ac4df", func := "abugida/abugidalaw05.CharsJoins", spec := "charsJoins", named := ["abugida/chars.rows"], apart := false, laid := [("abugida/chars.rows", laid_abugida_chars_rows)] }
def CharsJoinsSaid : Prop := charsJoinsRow.holds Tryd.pinned (OpenSpec.ofChange charsJoinsSpec)

/-- ITS FALSE NEIGHBOUR: 'it returns false'. Refute it at one input. -/
def charsJoinsWrong : ChangeSpec := { name := "charsJoins", fn := fun _ => fun
  | [d] => { results := [.lit (.bool false)], args := [d] }
  | _ => none }
def CharsJoinsWrongFalsely : Prop := charsJoinsRow.holds Tryd.pinned (OpenSpec.ofChange charsJoinsWrong)

/- THE SECOND FORM. 'bulk': how many values and letters a reading holds, each counted each time it is reached (what is shared counts as often as it is met; a slice's spare places count too). A statement '..UptoSaid' is the law's where the arguments, and the package variables that the reading takes, are together of bulk at most 1048576: NARROWER than '..Said'. Prove '..Said' where nothing that the law and all that it calls make is longer than what came in: it says more and counts as full. Else prove '..UptoSaid'. A law counts once. -/
mutual
def uptoBulk {H : Type} : DataW H → Nat
  | .lit (.string bytes) => bytes.length + 1
  | .lit _ => 1
  | .nil => 1
  | .ptr d => uptoBulk d + 1
  | .slice elems spare => uptoBulkAll elems + uptoBulkAll spare + 1
  | .agg parts => uptoBulkAll parts + 1
  | .iface _ d => uptoBulk d + 1
  | .map entries => uptoBulkEntries entries + 1
  | .held _ => 1
def uptoBulkAll {H : Type} : List (DataW H) → Nat
  | [] => 0
  | d :: r => uptoBulk d + uptoBulkAll r
def uptoBulkEntries {H : Type} : List (Lit × DataW H) → Nat
  | [] => 0
  | x :: r => uptoBulkEntry x + uptoBulkEntries r
def uptoBulkEntry {H : Type} : Lit × DataW H → Nat
  | (.string bytes, d) => bytes.length + uptoBulk d + 1
  | (_, d) => uptoBulk d + 1
 end
def uptoSmall : (H : Type) → List (DataW H) → Bool := fun _ ds => decide (uptoBulkAll ds ≤ 1048576)
def OpenSpec.upto (s : _root_.Go.ChangeSpec) : _root_.Go.OpenSpec := { _root_.Go.OpenSpec.ofChange s with cond := some uptoSmall }

/-- 'abugidalaw05.CharsAll', WHERE WHAT IT READS IS OF BULK AT MOST 1048576: true; the input reads as it did. -/
def charsAllUptoRow : OpenClaim := { program := "yteiacgonbmjgiaadoor", sum := "f1de0c6a2f3f7a74fabdfd24d491b4ecc935bf40f601ad1d082c6060b82ac4df", func := "abugida/abugidalaw05.CharsAll", spec := "charsAll", named := ["abugida/chars.rows"], apart := false, laid := [("abugida/chars.rows", laid_abugida_chars_rows)], narrowed := true }
def CharsAllUptoSaid : Prop := charsAllUptoRow.holds Tryd.pinned (OpenSpec.upto charsAllSpec)

/-- 'abugidalaw05.CharsCodes', WHERE WHAT IT READS IS OF BULK AT MOST 1048576: true; the input reads as it did. -/
def charsCodesUptoRow : OpenClaim := { program := "yteiacgonbmjgiaadoor", sum := "f1de0c6a2f3f7a74fabdfd24d491b4ecc935bf40f601ad1d082c6060b82ac4df", func := "abugida/abugidalaw05.CharsCodes", spec := "charsCodes", named := ["abugida/chars.rows"], apart := false, laid := [("abugida/chars.rows", laid_abugida_chars_rows)], narrowed := true }
def CharsCodesUptoSaid : Prop := charsCodesUptoRow.holds Tryd.pinned (OpenSpec.upto charsCodesSpec)

/-- 'abugidalaw05.CharsParts', WHERE WHAT IT READS IS OF BULK AT MOST 1048576: true; the input reads as it did. -/
def charsPartsUptoRow : OpenClaim := { program := "yteiacgonbmjgiaadoor", sum := "f1de0c6a2f3f7a74fabdfd24d491b4ecc935bf40f601ad1d082c6060b82ac4df", func := "abugida/abugidalaw05.CharsParts", spec := "charsParts", named := ["abugida/chars.rows"], apart := false, laid := [("abugida/chars.rows", laid_abugida_chars_rows)], narrowed := true }
def CharsPartsUptoSaid : Prop := charsPartsUptoRow.holds Tryd.pinned (OpenSpec.upto charsPartsSpec)

/-- 'abugidalaw05.CharsAlike', WHERE WHAT IT READS IS OF BULK AT MOST 1048576: true; the input reads as it did. -/
def charsAlikeUptoRow : OpenClaim := { program := "yteiacgonbmjgiaadoor", sum := "f1de0c6a2f3f7a74fabdfd24d491b4ecc935bf40f601ad1d082c6060b82ac4df", func := "abugida/abugidalaw05.CharsAlike", spec := "charsAlike", named := ["abugida/chars.rows"], apart := false, laid := [("abugida/chars.rows", laid_abugida_chars_rows)], narrowed := true }
def CharsAlikeUptoSaid : Prop := charsAlikeUptoRow.holds Tryd.pinned (OpenSpec.upto charsAlikeSpec)

/-- 'abugidalaw05.CharsJoins', WHERE WHAT IT READS IS OF BULK AT MOST 1048576: true; the input reads as it did. -/
def charsJoinsUptoRow : OpenClaim := { program := "yteiacgonbmjgiaadoor", sum := "f1de0c6a2f3f7a74fabdfd24d491b4ecc935bf40f601ad1d082c6060b82ac4df", func := "abugida/abugidalaw05.CharsJoins", spec := "charsJoins", named := ["abugida/chars.rows"], apart := false, laid := [("abugida/chars.rows", laid_abugida_chars_rows)], narrowed := true }
def CharsJoinsUptoSaid : Prop := charsJoinsUptoRow.holds Tryd.pinned (OpenSpec.upto charsJoinsSpec)

end Rows
end Go.Proofs.YteiacgonbmjgiaaDoor
