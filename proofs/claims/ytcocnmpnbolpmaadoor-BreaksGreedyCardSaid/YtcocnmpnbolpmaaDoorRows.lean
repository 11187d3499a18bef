/-
  NARROWER THAN 'FOR EVERY INPUT', by the rows' own cells (each row's printed sentence says how): BreaksMay: laid · BreaksHeads: laid · BreaksFills: laid · BreaksGreedy: laid · BreaksWider: laid · BreaksAlone: laid.
  DERIVED. THE GIVEN ROWS OF THIS SEAT. 6 by the template 'for every input the law returns true; each argument reads behind the call as it read before'; 0 by the template 'total and deterministic' (their statements: YtcocnmpnbolpmaaDoorTotals.lean).
  GIVEN WITH THE SEED: the statements are not yours to turn. If you find one false, say at which input.
  Laid BY PROGRAM, IN A SANDBOX (cutbox-rows.mjs): the forced cells as the released guide's own fill.sh prints them over the translation 57e3cb0f7872d77a… (all of the seat's roots in one cut). By AI agents, Wed Nov 11 2026. No macro, syntax, notation, axiom, sorry.
-/
import Derived.Test.YtcocnmpnbolpmaaDoorChecked
import GoSem.Claim
import GoSem.ClaimJoined
import GoSem.ClaimMapViews
import Derived.JoinedTies
import Derived.KernelRfl
namespace Go.Proofs.YtcocnmpnbolpmaaDoor
/- THE CELL 'sum', in the pinned program and in every row, IS THE sha256 OF THE DUMP (.gsa) THAT YtcocnmpnbolpmaaDoorProg.lean LOADS. Nothing in Lean hashes anything: it is a label: what it is worth is what the hold of that sum in a sandbox is worth. -/
noncomputable def Tryd.pinned : Pinned := { name := "ytcocnmpnbolpmaadoor", sum := "57e3cb0f7872d77ad0d57e305ca39146278c038f7980e99872c43c55c9c46664", checked := Tryd.checked }
namespace Rows
def none {H : Type} : Left H := { results := [], args := [] }

/- WHAT THE LISTED PACKAGE-LEVEL VARIABLES READ AS WHEN THE CALL BEGINS. Each datum BY PROGRAM (the guide's laid-datum.mjs) off the statement by which the dump's own 'gosem.cut.vars' lays the variable. In a bare row this is a premise. The card (YtcocnmpnbolpmaaDoorCards.lean) ties it to the program's text. -/
def laid_abugida_chars_rows {H : Type} : DataW H := .slice [.agg [.lit (.int .i64 10), .lit (.int .i64 10), .agg [.lit (.int .i64 1), .lit (.int .i64 0)]], .agg [.lit (.int .i64 32), .lit (.int .i64 32), .agg [.lit (.int .i64 2), .lit (.int .i64 0)]], .agg [.lit (.int .i64 33), .lit (.int .i64 47), .agg [.lit (.int .i64 4), .lit (.int .i64 0)]], .agg [.lit (.int .i64 48), .lit (.int .i64 57), .agg [.lit (.int .i64 3), .lit (.int .i64 0)]], .agg [.lit (.int .i64 64), .lit (.int .i64 95), .agg [.lit (.int .i64 5), .lit (.int .i64 1)]], .agg [.lit (.int .i64 96), .lit (.int .i64 103), .agg [.lit (.int .i64 6), .lit (.int .i64 1)]], .agg [.lit (.int .i64 104), .lit (.int .i64 127), .agg [.lit (.int .i64 7), .lit (.int .i64 2)]], .agg [.lit (.int .i64 128), .lit (.int .i64 143), .agg [.lit (.int .i64 8), .lit (.int .i64 2)]], .agg [.lit (.int .i64 144), .lit (.int .i64 151), .agg [.lit (.int .i64 6), .lit (.int .i64 2)]], .agg [.lit (.int .i64 152), .lit (.int .i64 183), .agg [.lit (.int .i64 9), .lit (.int .i64 3)]], .agg [.lit (.int .i64 184), .lit (.int .i64 184), .agg [.lit (.int .i64 10), .lit (.int .i64 3)]], .agg [.lit (.int .i64 185), .lit (.int .i64 191), .agg [.lit (.int .i64 11), .lit (.int .i64 3)]], .agg [.lit (.int .i64 192), .lit (.int .i64 199), .agg [.lit (.int .i64 12), .lit (.int .i64 3)]], .agg [.lit (.int .i64 200), .lit (.int .i64 207), .agg [.lit (.int .i64 6), .lit (.int .i64 3)]], .agg [.lit (.int .i64 240), .lit (.int .i64 240), .agg [.lit (.int .i64 13), .lit (.int .i64 0)]], .agg [.lit (.int .i64 241), .lit (.int .i64 241), .agg [.lit (.int .i64 14), .lit (.int .i64 0)]]] []

/-- 'abugidalaw08.BreaksMay': WHATEVER THE INPUT: true; the input reads as it did. -/
def breaksMaySpec : ChangeSpec := { name := "breaksMay", fn := fun _ => fun
  | [d1, d2] => { results := [.lit (.bool true)], args := [d1, d2] }
  | _ => none }
def breaksMayRow : OpenClaim := { program := "ytcocnmpnbolpmaadoor", sum := "57e3cb0f7872d77ad0d57e305ca39146278c038f7980e99872c43c55c9c46664", func := "abugida/abugidalaw08.BreaksMay", spec := "breaksMay", unfollowed := true, recurses := true, named := ["abugida/chars.rows"], apart := false, laid := [("abugida/chars.rows", laid_abugida_chars_rows)] }
def BreaksMaySaid : Prop := breaksMayRow.holds Tryd.pinned (OpenSpec.ofChange breaksMaySpec)

/-- ITS FALSE NEIGHBOUR: 'it returns false'. Refute it at one input. -/
def breaksMayWrong : ChangeSpec := { name := "breaksMay", fn := fun _ => fun
  | [d1, d2] => { results := [.lit (.bool false)], args := [d1, d2] }
  | _ => none }
def BreaksMayWrongFalsely : Prop := breaksMayRow.holds Tryd.pinned (OpenSpec.ofChange breaksMayWrong)

/-- 'abugidalaw08.BreaksHeads': WHATEVER THE INPUT: true; the input reads as it did. -/
def breaksHeadsSpec : ChangeSpec := { name := "breaksHeads", fn := fun _ => fun
  | [d] => { results := [.lit (.bool true)], args := [d] }
  | _ => none }
def breaksHeadsRow : OpenClaim := { program := "ytcocnmpnbolpmaadoor", sum := "57e3cb0f7872d77ad0d57e305ca39146278c038f7980e99872c43c55c9c46664", func := "abugida/abugidalaw08.BreaksHeads", spec := "breaksHeads", unfollowed := true, recurses := true, named := ["abugida/chars.rows"], apart := false, laid := [("abugida/chars.rows", laid_abugida_chars_rows)] }
def BreaksHeadsSaid : Prop := breaksHeadsRow.holds Tryd.pinned (OpenSpec.ofChange breaksHeadsSpec)

/-- ITS FALSE NEIGHBOUR: 'it returns false'. Refute it at one input. -/
def breaksHeadsWrong : ChangeSpec := { name := "breaksHeads", fn := fun _ => fun
  | [d] => { results := [.lit (.bool false)], args := [d] }
  | _ => none }
def BreaksHeadsWrongFalsely : Prop := breaksHeadsRow.holds Tryd.pinned (OpenSpec.ofChange breaksHeadsWrong)

/-- 'abugidalaw08.BreaksFills': WHATEVER THE INPUT: true; the input reads as it did. -/
def breaksFillsSpec : ChangeSpec := { name := "breaksFills", fn := fun _ => fun
  | [d] => { results := [.lit (.bool true)], args := [d] }
  | _ => none }
def breaksFillsRow : OpenClaim := { program := "ytcocnmpnbolpmaadoor", sum := "57e3cb0f7872d77ad0d57e305ca39146278c038f7980e99872c43c55c9c46664", func := "abugida/abugidalaw08.BreaksFills", spec := "breaksFills", unfollowed := true, recurses := true, named := ["abugida/chars.rows"], apart := false, laid := [("abugida/chars.rows", laid_abugida_chars_rows)] }
def BreaksFillsSaid : Prop := breaksFillsRow.holds Tryd.pinned (OpenSpec.ofChange breaksFillsSpec)

/-- ITS FALSE NEIGHBOUR: 'it returns false'. Refute it at one input. -/
def breaksFillsWrong : ChangeSpec := { name := "breaksFills", fn := fun _ => fun
  | [d] => { results := [.lit (.bool false)], args := [d] }
  | _ => none }
def BreaksFillsWrongFalsely : Prop := breaksFillsRow.holds Tryd.pinned (OpenSpec.ofChange breaksFillsWrong)

/-- 'abugidalaw08.BreaksGreedy': WHATEVER THE INPUT: true; the input reads as it did. -/
def breaksGreedySpec : ChangeSpec := { name := "breaksGreedy", fn := fun _ => fun
  | [d] => { results := [.lit (.bool true)], args := [d] }
  | _ => none }
def breaksGreedyRow : OpenClaim := { program := "ytcocnmpnbolpmaadoor", sum := "57e3cb0f7872d77ad0d57e305ca39146278c038f7980e99872c43c55c9c46664", func := "abugida/abugidalaw08.BreaksGreedy", spec := "breaksGreedy", unfollowed := true, recurses := true, named := ["abugida/chars.rows"], apart := false, laid := [("abugida/chars.rows", laid_abugida_chars_rows)] }
def BreaksGreedySaid : Prop := breaksGreedyRow.holds Tryd.pinned (OpenSpec.ofChange breaksGreedySpec)

/-- ITS FALSE NEIGHBOUR: 'it returns false'. Refute it at one input. -/
def breaksGreedyWrong : ChangeSpec := { name := "breaksGreedy", fn := fun _ => fun
  | [d] => { results := [.lit (.bool false)], args := [d] }
  | _ => none }
def BreaksGreedyWrongFalsely : Prop := breaksGreedyRow.holds Tryd.pinned (OpenSpec.ofChange breaksGreedyWrong)

/-- 'abugidalaw08.BreaksWider': WHATEVER THE INPUT: true; the input reads as it did. -/
def breaksWiderSpec : ChangeSpec := { name := "breaksWider", fn := fun _ => fun
  | [d1, d2] => { results := [.lit (.bool true)], args := [d1, d2] }
  | _ => none }
def breaksWiderRow : OpenClaim := { program := "ytcocnmpnbolpmaadoor", sum := "57e3cb0f7872d77ad0d57e305ca39146278c038f7980e99872c43c55c9c46664", func := "abugida/abugidalaw08.BreaksWider", spec := "breaksWider", unfollowed := true, recurses := true, named := ["abugida/chars.rows"], apart := false, laid := [("abugida/chars.rows", laid_abugida_chars_rows)] }
def BreaksWiderSaid : Prop := breaksWiderRow.holds Tryd.pinned (OpenSpec.ofChange breaksWiderSpec)

/-- ITS FALSE NEIGHBOUR: 'it returns false'. Refute it at one input. -/
def breaksWiderWrong : ChangeSpec := { name := "breaksWider", fn := fun _ => fun
  | [d1, d2] => { results := [.lit (.bool false)], args := [d1, d2] }
  | _ => none }
def BreaksWiderWrongFalsely : Prop := breaksWiderRow.holds Tryd.pinned (OpenSpec.ofChange breaksWiderWrong)

/-- 'abugidalaw08.BreaksAlone': WHATEVER THE INPUT: true; the input reads as it did. -/
def breaksAloneSpec : ChangeSpec := { name := "breaksAlone", fn := fun _ => fun
  | [d1, d2] => { results := [.lit (.bool true)], args := [d1, d2] }
  | _ => none }
def breaksAloneRow : OpenClaim := { program := "ytcocnmpnbolpmaadoor", sum := "57e3cb0f7872d77ad0d57e305ca39146278c038f7980e99872c43c55c9c46664", func := "abugida/abugidalaw08.BreaksAlone", spec := "breaksAlone", unfollowed := true, recurses := true, named := ["abugida/chars.rows"], apart := false, laid := [("abugida/chars.rows", laid_abugida_chars_rows)] }
def BreaksAloneSaid : Prop := breaksAloneRow.holds Tryd.pinned (OpenSpec.ofChange breaksAloneSpec)

/-- ITS FALSE NEIGHBOUR: 'it returns false'. Refute it at one input. -/
def breaksAloneWrong : ChangeSpec := { name := "breaksAlone", fn := fun _ => fun
  | [d1, d2] => { results := [.lit (.bool false)], args := [d1, d2] }
  | _ => none }
def BreaksAloneWrongFalsely : Prop := breaksAloneRow.holds Tryd.pinned (OpenSpec.ofChange breaksAloneWrong)

/- THE SECOND FORM. 'bulk': how many values and letters a reading holds, each counted each time it is reached (what is shared counts as often as it is met; a slice's spare places count too). A statement '..UptoSaid' is the law's where the arguments, and the package variables that the reading takes, are together of bulk at most 1048576: NARROWER than '..Said'. Prove '..Said' where nothing that the law and all that it calls make is longer than what came in: it says more and counts as full. Else prove '..UptoSaid'. A law counts once. -/
mutual
def uptoBulk {H : Type} : DataW H → Nat
  | .lit (.string bytes) => bytes.length + 1
  | .lit _ => 1
  | .nil => 1
  | .ptr d => uptoBulk d + 1
  | .slice elems spare => uptoBulkAll elems + uptoBulkAll spare + 1
  | .agg parts => uptoBulkAll parts + 1
  | .iface _ d => uptoBulk d + 1
  | .map entries => uptoBulkEntries entries + 1
  | .held _ => 1
def uptoBulkAll {H : Type} : List (DataW H) → Nat
  | [] => 0
  | d :: r => uptoBulk d + uptoBulkAll r
def uptoBulkEntries {H : Type} : List (Lit × DataW H) → Nat
  | [] => 0
  | x :: r => uptoBulkEntry x + uptoBulkEntries r
def uptoBulkEntry {H : Type} : Lit × DataW H → Nat
  | (.string bytes, d) => bytes.length + uptoBulk d + 1
  | (_, d) => uptoBulk d + 1
 end
def uptoSmall : (H : Type) → List (DataW H) → Bool := fun _ ds => decide (uptoBulkAll ds ≤ 1048576)
def OpenSpec.upto (s : _root_.Go.ChangeSpec) : _root_.Go.OpenSpec := { _root_.Go.OpenSpec.ofChange s with cond := some uptoSmall }

/-- 'abugidalaw08.BreaksMay', WHERE WHAT IT READS IS OF BULK AT MOST 1048576: true; the input reads as it did. -/
def breaksMayUptoRow : OpenClaim := { program := "ytcocnmpnbolpmaadoor", sum := "57e3cb0f7872d77ad0d57e305ca39146278c038f7980e99872c43c55c9c46664", func := "abugida/abugidalaw08.BreaksMay", spec := "breaksMay", unfollowed := true, recurses := true, named := ["abugida/chars.rows"], apart := false, laid := [("abugida/chars.rows", laid_abugida_chars_rows)], narrowed := true }
def BreaksMayUptoSaid : Prop := breaksMayUptoRow.holds Tryd.pinned (OpenSpec.upto breaksMaySpec)

/-- 'abugidalaw08.BreaksHeads', WHERE WHAT IT READS IS OF BULK AT MOST 1048576: true; the input reads as it did. -/
def breaksHeadsUptoRow : OpenClaim := { program := "ytcocnmpnbolpmaadoor", sum := "57e3cb0f7872d77ad0d57e305ca39146278c038f7980e99872c43c55c9c46664", func := "abugida/abugidalaw08.BreaksHeads", spec := "breaksHeads", unfollowed := true, recurses := true, named := ["abugida/chars.rows"], apart := false, laid := [("abugida/chars.rows", laid_abugida_chars_rows)], narrowed := true }
def BreaksHeadsUptoSaid : Prop := breaksHeadsUptoRow.holds Tryd.pinned (OpenSpec.upto breaksHeadsSpec)

/-- 'abugidalaw08.BreaksFills', WHERE WHAT IT READS IS OF BULK AT MOST 1048576: true; the input reads as it did. -/
def breaksFillsUptoRow : OpenClaim := { program := "ytcocnmpnbolpmaadoor", sum := "57e3cb0f7872d77ad0d57e305ca39146278c038f7980e99872c43c55c9c46664", func := "abugida/abugidalaw08.BreaksFills", spec := "breaksFills", unfollowed := true, recurses := true, named := ["abugida/chars.rows"], apart := false, laid := [("abugida/chars.rows", laid_abugida_chars_rows)], narrowed := true }
def BreaksFillsUptoSaid : Prop := breaksFillsUptoRow.holds Tryd.pinned (OpenSpec.upto breaksFillsSpec)

/-- 'abugidalaw08.BreaksGreedy', WHERE WHAT IT READS IS OF BULK AT MOST 1048576: true; the input reads as it did. -/
def breaksGreedyUptoRow : OpenClaim := { program := "ytcocnmpnbolpmaadoor", sum := "57e3cb0f7872d77ad0d57e305ca39146278c038f7980e99872c43c55c9c46664", func := "abugida/abugidalaw08.BreaksGreedy", spec := "breaksGreedy", unfollowed := true, recurses := true, named := ["abugida/chars.rows"], apart := false, laid := [("abugida/chars.rows", laid_abugida_chars_rows)], narrowed := true }
def BreaksGreedyUptoSaid : Prop := breaksGreedyUptoRow.holds Tryd.pinned (OpenSpec.upto breaksGreedySpec)

/-- 'abugidalaw08.BreaksWider', WHERE WHAT IT READS IS OF BULK AT MOST 1048576: true; the input reads as it did. -/
def breaksWiderUptoRow : OpenClaim := { program := "ytcocnmpnbolpmaadoor", sum := "57e3cb0f7872d77ad0d57e305ca39146278c038f7980e99872c43c55c9c46664", func := "abugida/abugidalaw08.BreaksWider", spec := "breaksWider", unfollowed := true, recurses := true, named := ["abugida/chars.rows"], apart := false, laid := [("abugida/chars.rows", laid_abugida_chars_rows)], narrowed := true }
def BreaksWiderUptoSaid : Prop := breaksWiderUptoRow.holds Tryd.pinned (OpenSpec.upto breaksWiderSpec)

/-- 'abugidalaw08.BreaksAlone', WHERE WHAT IT READS IS OF BULK AT MOST 1048576: true; the input reads as it did. -/
def breaksAloneUptoRow : OpenClaim := { program := "ytcocnmpnbolpmaadoor", sum := "57e3cb0f7872d77ad0d57e305ca39146278c038f7980e99872c43c55c9c46664", func := "abugida/abugidalaw08.BreaksAlone", spec := "breaksAlone", unfollowed := true, recurses := true, named := ["abugida/chars.rows"], apart := false, laid := [("abugida/chars.rows", laid_abugida_chars_rows)], narrowed := true }
def BreaksAloneUptoSaid : Prop := breaksAloneUptoRow.holds Tryd.pinned (OpenSpec.upto breaksAloneSpec)

end Rows
end Go.Proofs.YtcocnmpnbolpmaaDoor
