/-
  NARROWER THAN 'FOR EVERY INPUT', by the rows' own cells (each row's printed sentence says how): ClusterSplits: laid · ClusterFinds: laid · ClusterCovers: laid · ClusterBelongs: laid · ClusterBases: laid · ClusterLines: laid · ClusterBehind: laid.
  DERIVED. THE GIVEN ROWS OF THIS SEAT. 7 by the template 'for every input the law returns true; each argument reads behind the call as it read before'; 0 by the template 'total and deterministic' (their statements: YtnikddmcphcmeaaDoorTotals.lean).
  GIVEN WITH THE SEED: the statements are not yours to turn. If you find one false, say at which input.
  Laid BY PROGRAM, IN A SANDBOX (cutbox-rows.mjs): the forced cells as the released guide's own fill.sh prints them over the translation 2be05d3ae291a010… (all of the seat's roots in one cut). By AI agents, Wed Nov 11 2026. No macro, syntax, notation, axiom, sorry.
-/
import Derived.Test.YtnikddmcphcmeaaDoorChecked
import GoSem.Claim
import GoSem.ClaimJoined
import GoSem.ClaimMapViews
import Derived.JoinedTies
import Derived.KernelRfl
namespace Go.Proofs.YtnikddmcphcmeaaDoor
/- THE CELL 'sum', in the pinned program and in every row, IS THE sha256 OF THE DUMP (.gsa) THAT YtnikddmcphcmeaaDoorProg.lean LOADS. Nothing in Lean hashes anything: it is a label: what it is worth is what the hold of that sum in a sandbox is worth. -/
noncomputable def Tryd.pinned : Pinned := { name := "ytnikddmcphcmeaadoor", sum := "2be05d3ae291a010847470a1caf0ab11bde71478db5492fa7a677f61de694c90", checked := Tryd.checked }
namespace Rows
def none {H : Type} : Left H := { results := [], args := [] }

/- WHAT THE LISTED PACKAGE-LEVEL VARIABLES READ AS WHEN THE CALL BEGINS. Each datum BY PROGRAM (the guide's laid-datum.mjs) off the statement by which the dump's own 'gosem.cut.vars' lays the variable. In a bare row this is a premise. The card (YtnikddmcphcmeaaDoorCards.lean) ties it to the program's text. -/
def laid_abugida_chars_rows {H : Type} : DataW H := .slice [.agg [.lit (.int .i64 10), .lit (.int .i64 10), .agg [.lit (.int .i64 1), .lit (.int .i64 0)]], .agg [.lit (.int .i64 32), .lit (.int .i64 32), .agg [.lit (.int .i64 2), .lit (.int .i64 0)]], .agg [.lit (.int .i64 33), .lit (.int .i64 47), .agg [.lit (.int .i64 4), .lit (.int .i64 0)]], .agg [.lit (.int .i64 48), .lit (.int .i64 57), .agg [.lit (.int .i64 3), .lit (.int .i64 0)]], .agg [.lit (.int .i64 64), .lit (.int .i64 95), .agg [.lit (.int .i64 5), .lit (.int .i64 1)]], .agg [.lit (.int .i64 96), .lit (.int .i64 103), .agg [.lit (.int .i64 6), .lit (.int .i64 1)]], .agg [.lit (.int .i64 104), .lit (.int .i64 127), .agg [.lit (.int .i64 7), .lit (.int .i64 2)]], .agg [.lit (.int .i64 128), .lit (.int .i64 143), .agg [.lit (.int .i64 8), .lit (.int .i64 2)]], .agg [.lit (.int .i64 144), .lit (.int .i64 151), .agg [.lit (.int .i64 6), .lit (.int .i64 2)]], .agg [.lit (.int .i64 152), .lit (.int .i64 183), .agg [.lit (.int .i64 9), .lit (.int .i64 3)]], .agg [.lit (.int .i64 184), .lit (.int .i64 184), .agg [.lit (.int .i64 10), .lit (.int .i64 3)]], .agg [.lit (.int .i64 185), .lit (.int .i64 191), .agg [.lit (.int .i64 11), .lit (.int .i64 3)]], .agg [.lit (.int .i64 192), .lit (.int .i64 199), .agg [.lit (.int .i64 12), .lit (.int .i64 3)]], .agg [.lit (.int .i64 200), .lit (.int .i64 207), .agg [.lit (.int .i64 6), .lit (.int .i64 3)]], .agg [.lit (.int .i64 240), .lit (.int .i64 240), .agg [.lit (.int .i64 13), .lit (.int .i64 0)]], .agg [.lit (.int .i64 241), .lit (.int .i64 241), .agg [.lit (.int .i64 14), .lit (.int .i64 0)]]] []

/-- 'abugidalaw06.ClusterSplits': WHATEVER THE INPUT: true; the input reads as it did. -/
def clusterSplitsSpec : ChangeSpec := { name := "clusterSplits", fn := fun _ => fun
  | [d1, d2] => { results := [.lit (.bool true)], args := [d1, d2] }
  | _ => none }
def clusterSplitsRow : OpenClaim := { program := "ytnikddmcphcmeaadoor", sum := "2be05d3ae291a010847470a1caf0ab11bde71478db5492fa7a677f61de694c90", func := "abugida/abugidalaw06.ClusterSplits", spec := "clusterSplits", unfollowed := true, recurses := true, named := ["abugida/chars.rows"], apart := false, laid := [("abugida/chars.rows", laid_abugida_chars_rows)] }
def ClusterSplitsSaid : Prop := clusterSplitsRow.holds Tryd.pinned (OpenSpec.ofChange clusterSplitsSpec)

/-- ITS FALSE NEIGHBOUR: 'it returns false'. Refute it at one input. -/
def clusterSplitsWrong : ChangeSpec := { name := "clusterSplits", fn := fun _ => fun
  | [d1, d2] => { results := [.lit (.bool false)], args := [d1, d2] }
  | _ => none }
def ClusterSplitsWrongFalsely : Prop := clusterSplitsRow.holds Tryd.pinned (OpenSpec.ofChange clusterSplitsWrong)

/-- 'abugidalaw06.ClusterFinds': WHATEVER THE INPUT: true; the input reads as it did. -/
def clusterFindsSpec : ChangeSpec := { name := "clusterFinds", fn := fun _ => fun
  | [d1, d2, d3] => { results := [.lit (.bool true)], args := [d1, d2, d3] }
  | _ => none }
def clusterFindsRow : OpenClaim := { program := "ytnikddmcphcmeaadoor", sum := "2be05d3ae291a010847470a1caf0ab11bde71478db5492fa7a677f61de694c90", func := "abugida/abugidalaw06.ClusterFinds", spec := "clusterFinds", unfollowed := true, recurses := true, named := ["abugida/chars.rows"], apart := false, laid := [("abugida/chars.rows", laid_abugida_chars_rows)] }
def ClusterFindsSaid : Prop := clusterFindsRow.holds Tryd.pinned (OpenSpec.ofChange clusterFindsSpec)

/-- ITS FALSE NEIGHBOUR: 'it returns false'. Refute it at one input. -/
def clusterFindsWrong : ChangeSpec := { name := "clusterFinds", fn := fun _ => fun
  | [d1, d2, d3] => { results := [.lit (.bool false)], args := [d1, d2, d3] }
  | _ => none }
def ClusterFindsWrongFalsely : Prop := clusterFindsRow.holds Tryd.pinned (OpenSpec.ofChange clusterFindsWrong)

/-- 'abugidalaw06.ClusterCovers': WHATEVER THE INPUT: true; the input reads as it did. -/
def clusterCoversSpec : ChangeSpec := { name := "clusterCovers", fn := fun _ => fun
  | [d] => { results := [.lit (.bool true)], args := [d] }
  | _ => none }
def clusterCoversRow : OpenClaim := { program := "ytnikddmcphcmeaadoor", sum := "2be05d3ae291a010847470a1caf0ab11bde71478db5492fa7a677f61de694c90", func := "abugida/abugidalaw06.ClusterCovers", spec := "clusterCovers", unfollowed := true, recurses := true, named := ["abugida/chars.rows"], apart := false, laid := [("abugida/chars.rows", laid_abugida_chars_rows)] }
def ClusterCoversSaid : Prop := clusterCoversRow.holds Tryd.pinned (OpenSpec.ofChange clusterCoversSpec)

/-- ITS FALSE NEIGHBOUR: 'it returns false'. Refute it at one input. -/
def clusterCoversWrong : ChangeSpec := { name := "clusterCovers", fn := fun _ => fun
  | [d] => { results := [.lit (.bool false)], args := [d] }
  | _ => none }
def ClusterCoversWrongFalsely : Prop := clusterCoversRow.holds Tryd.pinned (OpenSpec.ofChange clusterCoversWrong)

/-- 'abugidalaw06.ClusterBelongs': WHATEVER THE INPUT: true; the input reads as it did. -/
def clusterBelongsSpec : ChangeSpec := { name := "clusterBelongs", fn := fun _ => fun
  | [d] => { results := [.lit (.bool true)], args := [d] }
  | _ => none }
def clusterBelongsRow : OpenClaim := { program := "ytnikddmcphcmeaadoor", sum := "2be05d3ae291a010847470a1caf0ab11bde71478db5492fa7a677f61de694c90", func := "abugida/abugidalaw06.ClusterBelongs", spec := "clusterBelongs", unfollowed := true, recurses := true, named := ["abugida/chars.rows"], apart := false, laid := [("abugida/chars.rows", laid_abugida_chars_rows)] }
def ClusterBelongsSaid : Prop := clusterBelongsRow.holds Tryd.pinned (OpenSpec.ofChange clusterBelongsSpec)

/-- ITS FALSE NEIGHBOUR: 'it returns false'. Refute it at one input. -/
def clusterBelongsWrong : ChangeSpec := { name := "clusterBelongs", fn := fun _ => fun
  | [d] => { results := [.lit (.bool false)], args := [d] }
  | _ => none }
def ClusterBelongsWrongFalsely : Prop := clusterBelongsRow.holds Tryd.pinned (OpenSpec.ofChange clusterBelongsWrong)

/-- 'abugidalaw06.ClusterBases': WHATEVER THE INPUT: true; the input reads as it did. -/
def clusterBasesSpec : ChangeSpec := { name := "clusterBases", fn := fun _ => fun
  | [d] => { results := [.lit (.bool true)], args := [d] }
  | _ => none }
def clusterBasesRow : OpenClaim := { program := "ytnikddmcphcmeaadoor", sum := "2be05d3ae291a010847470a1caf0ab11bde71478db5492fa7a677f61de694c90", func := "abugida/abugidalaw06.ClusterBases", spec := "clusterBases", unfollowed := true, recurses := true, named := ["abugida/chars.rows"], apart := false, laid := [("abugida/chars.rows", laid_abugida_chars_rows)] }
def ClusterBasesSaid : Prop := clusterBasesRow.holds Tryd.pinned (OpenSpec.ofChange clusterBasesSpec)

/-- ITS FALSE NEIGHBOUR: 'it returns false'. Refute it at one input. -/
def clusterBasesWrong : ChangeSpec := { name := "clusterBases", fn := fun _ => fun
  | [d] => { results := [.lit (.bool false)], args := [d] }
  | _ => none }
def ClusterBasesWrongFalsely : Prop := clusterBasesRow.holds Tryd.pinned (OpenSpec.ofChange clusterBasesWrong)

/-- 'abugidalaw06.ClusterLines': WHATEVER THE INPUT: true; the input reads as it did. -/
def clusterLinesSpec : ChangeSpec := { name := "clusterLines", fn := fun _ => fun
  | [d1, d2] => { results := [.lit (.bool true)], args := [d1, d2] }
  | _ => none }
def clusterLinesRow : OpenClaim := { program := "ytnikddmcphcmeaadoor", sum := "2be05d3ae291a010847470a1caf0ab11bde71478db5492fa7a677f61de694c90", func := "abugida/abugidalaw06.ClusterLines", spec := "clusterLines", unfollowed := true, recurses := true, named := ["abugida/chars.rows"], apart := false, laid := [("abugida/chars.rows", laid_abugida_chars_rows)] }
def ClusterLinesSaid : Prop := clusterLinesRow.holds Tryd.pinned (OpenSpec.ofChange clusterLinesSpec)

/-- ITS FALSE NEIGHBOUR: 'it returns false'. Refute it at one input. -/
def clusterLinesWrong : ChangeSpec := { name := "clusterLines", fn := fun _ => fun
  | [d1, d2] => { results := [.lit (.bool false)], args := [d1, d2] }
  | _ => none }
def ClusterLinesWrongFalsely : Prop := clusterLinesRow.holds Tryd.pinned (OpenSpec.ofChange clusterLinesWrong)

/-- 'abugidalaw06.ClusterBehind': WHATEVER THE INPUT: true; the input reads as it did. -/
def clusterBehindSpec : ChangeSpec := { name := "clusterBehind", fn := fun _ => fun
  | [d1, d2] => { results := [.lit (.bool true)], args := [d1, d2] }
  | _ => none }
def clusterBehindRow : OpenClaim := { program := "ytnikddmcphcmeaadoor", sum := "2be05d3ae291a010847470a1caf0ab11bde71478db5492fa7a677f61de694c90", func := "abugida/abugidalaw06.ClusterBehind", spec := "clusterBehind", unfollowed := true, recurses := true, named := ["abugida/chars.rows"], apart := false, laid := [("abugida/chars.rows", laid_abugida_chars_rows)] }
def ClusterBehindSaid : Prop := clusterBehindRow.holds Tryd.pinned (OpenSpec.ofChange clusterBehindSpec)

/-- ITS FALSE NEIGHBOUR: 'it returns false'. Refute it at one input. -/
def clusterBehindWrong : ChangeSpec := { name := "clusterBehind", fn := fun _ => fun
  | [d1, d2] => { results := [.lit (.bool false)], args := [d1, d2] }
  | _ => none }
def ClusterBehindWrongFalsely : Prop := clusterBehindRow.holds Tryd.pinned (OpenSpec.ofChange clusterBehindWrong)

/- THE SECOND FORM. 'bulk': how many values and letters a reading holds, each counted each time it is reached (what is shared counts as often as it is met; a slice's spare places count too). A statement '..UptoSaid' is the law's where the arguments, and the package variables that the reading takes, are together of bulk at most 1048576: NARROWER than '..Said'. Prove '..Said' where nothing that the law and all that it calls make is longer than what came in: it says more and counts as full. Else prove '..UptoSaid'. A law counts once. -/
mutual
def uptoBulk {H : Type} : DataW H → Nat
  | .lit (.string bytes) => bytes.length + 1
  | .lit _ => 1
  | .nil => 1
  | .ptr d => uptoBulk d + 1
  | .slice elems spare => uptoBulkAll elems + uptoBulkAll spare + 1
  | .agg parts => uptoBulkAll parts + 1
  | .iface _ d => uptoBulk d + 1
  | .map entries => uptoBulkEntries entries + 1
  | .held _ => 1
def uptoBulkAll {H : Type} : List (DataW H) → Nat
  | [] => 0
  | d :: r => uptoBulk d + uptoBulkAll r
def uptoBulkEntries {H : Type} : List (Lit × DataW H) → Nat
  | [] => 0
  | x :: r => uptoBulkEntry x + uptoBulkEntries r
def uptoBulkEntry {H : Type} : Lit × DataW H → Nat
  | (.string bytes, d) => bytes.length + uptoBulk d + 1
  | (_, d) => uptoBulk d + 1
 end
def uptoSmall : (H : Type) → List (DataW H) → Bool := fun _ ds => decide (uptoBulkAll ds ≤ 1048576)
def OpenSpec.upto (s : _root_.Go.ChangeSpec) : _root_.Go.OpenSpec := { _root_.Go.OpenSpec.ofChange s with cond := some uptoSmall }

/-- 'abugidalaw06.ClusterSplits', WHERE WHAT IT READS IS OF BULK AT MOST 1048576: true; the input reads as it did. -/
def clusterSplitsUptoRow : OpenClaim := { program := "ytnikddmcphcmeaadoor", sum := "2be05d3ae291a010847470a1caf0ab11bde71478db5492fa7a677f61de694c90", func := "abugida/abugidalaw06.ClusterSplits", spec := "clusterSplits", unfollowed := true, recurses := true, named := ["abugida/chars.rows"], apart := false, laid := [("abugida/chars.rows", laid_abugida_chars_rows)], narrowed := true }
def ClusterSplitsUptoSaid : Prop := clusterSplitsUptoRow.holds Tryd.pinned (OpenSpec.upto clusterSplitsSpec)

/-- 'abugidalaw06.ClusterFinds', WHERE WHAT IT READS IS OF BULK AT MOST 1048576: true; the input reads as it did. -/
def clusterFindsUptoRow : OpenClaim := { program := "ytnikddmcphcmeaadoor", sum := "2be05d3ae291a010847470a1caf0ab11bde71478db5492fa7a677f61de694c90", func := "abugida/abugidalaw06.ClusterFinds", spec := "clusterFinds", unfollowed := true, recurses := true, named := ["abugida/chars.rows"], apart := false, laid := [("abugida/chars.rows", laid_abugida_chars_rows)], narrowed := true }
def ClusterFindsUptoSaid : Prop := clusterFindsUptoRow.holds Tryd.pinned (OpenSpec.upto clusterFindsSpec)

/-- 'abugidalaw06.ClusterCovers', WHERE WHAT IT READS IS OF BULK AT MOST 1048576: true; the input reads as it did. -/
def clusterCoversUptoRow : OpenClaim := { program := "ytnikddmcphcmeaadoor", sum := "2be05d3ae291a010847470a1caf0ab11bde71478db5492fa7a677f61de694c90", func := "abugida/abugidalaw06.ClusterCovers", spec := "clusterCovers", unfollowed := true, recurses := true, named := ["abugida/chars.rows"], apart := false, laid := [("abugida/chars.rows", laid_abugida_chars_rows)], narrowed := true }
def ClusterCoversUptoSaid : Prop := clusterCoversUptoRow.holds Tryd.pinned (OpenSpec.upto clusterCoversSpec)

/-- 'abugidalaw06.ClusterBelongs', WHERE WHAT IT READS IS OF BULK AT MOST 1048576: true; the input reads as it did. -/
def clusterBelongsUptoRow : OpenClaim := { program := "ytnikddmcphcmeaadoor", sum := "2be05d3ae291a010847470a1caf0ab11bde71478db5492fa7a677f61de694c90", func := "abugida/abugidalaw06.ClusterBelongs", spec := "clusterBelongs", unfollowed := true, recurses := true, named := ["abugida/chars.rows"], apart := false, laid := [("abugida/chars.rows", laid_abugida_chars_rows)], narrowed := true }
def ClusterBelongsUptoSaid : Prop := clusterBelongsUptoRow.holds Tryd.pinned (OpenSpec.upto clusterBelongsSpec)

/-- 'abugidalaw06.ClusterBases', WHERE WHAT IT READS IS OF BULK AT MOST 1048576: true; the input reads as it did. -/
def clusterBasesUptoRow : OpenClaim := { program := "ytnikddmcphcmeaadoor", sum := "2be05d3ae291a010847470a1caf0ab11bde71478db5492fa7a677f61de694c90", func := "abugida/abugidalaw06.ClusterBases", spec := "clusterBases", unfollowed := true, recurses := true, named := ["abugida/chars.rows"], apart := false, laid := [("abugida/chars.rows", laid_abugida_chars_rows)], narrowed := true }
def ClusterBasesUptoSaid : Prop := clusterBasesUptoRow.holds Tryd.pinned (OpenSpec.upto clusterBasesSpec)

/-- 'abugidalaw06.ClusterLines', WHERE WHAT IT READS IS OF BULK AT MOST 1048576: true; the input reads as it did. -/
def clusterLinesUptoRow : OpenClaim := { program := "ytnikddmcphcmeaadoor", sum := "2be05d3ae291a010847470a1caf0ab11bde71478db5492fa7a677f61de694c90", func := "abugida/abugidalaw06.ClusterLines", spec := "clusterLines", unfollowed := true, recurses := true, named := ["abugida/chars.rows"], apart := false, laid := [("abugida/chars.rows", laid_abugida_chars_rows)], narrowed := true }
def ClusterLinesUptoSaid : Prop := clusterLinesUptoRow.holds Tryd.pinned (OpenSpec.upto clusterLinesSpec)

/-- 'abugidalaw06.ClusterBehind', WHERE WHAT IT READS IS OF BULK AT MOST 1048576: true; the input reads as it did. -/
def clusterBehindUptoRow : OpenClaim := { program := "ytnikddmcphcmeaadoor", sum := "2be05d3ae291a010847470a1caf0ab11bde71478db5492fa7a677f61de694c90", func := "abugida/abugidalaw06.ClusterBehind", spec := "clusterBehind", unfollowed := true, recurses := true, named := ["abugida/chars.rows"], apart := false, laid := [("abugida/chars.rows", laid_abugida_chars_rows)], narrowed := true }
def ClusterBehindUptoSaid : Prop := clusterBehindUptoRow.holds Tryd.pinned (OpenSpec.upto clusterBehindSpec)

end Rows
end Go.Proofs.YtnikddmcphcmeaaDoor
