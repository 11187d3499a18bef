/- Plain facts on where lines may end. No conditions. -/
import Derived.Test.YtcocnmpnbolpmaaDoorBrkSame
namespace Go.Proofs.YtcocnmpnbolpmaaDoor.BP
/-- The head and the last character of a cluster. -/
def hd (s : ByteArray) (x : Nat × Nat) : Int := CP.ch s (CP.base s (x.1 : Int) (x.2 : Int)).toNat
def en (s : ByteArray) (x : Nat × Nat) : Int := CP.ch s (x.2 - 1)
/-- Between two clusters: the head and the last character of the first one, and the head of the second one. -/
def ins (h e n : Int) : Int :=
  if FC.cls n = 1 ∨ FC.cls n = 2 ∨ FC.cls n = 4 then 0 else if FC.cls h = 2 ∨ FC.cls e = 14 then 1 else if FC.cls e = 13 then 0 else if h = 45 ∨ (FC.scr h = 3 ∧ FC.scr n = 3) then 1 else 0
def may1 (H E : List Int) (k : Nat) : Int := if FC.cls (H.getD k 0) = 1 then 2 else if k + 1 < H.length then ins (H.getD k 0) (E.getD k 0) (H.getD (k + 1) 0) else 0
def mayL (H E : List Int) : List Int := (List.range H.length).map (may1 H E)
def heads (s : ByteArray) (l : List (Nat × Nat)) : List Int := l.map (hd s)
def ends (s : ByteArray) (l : List (Nat × Nat)) : List Int := l.map (en s)
def may (s : ByteArray) : List Int := mayL (heads s (CP.split s)) (ends s (CP.split s))
theorem may_length (s : ByteArray) : (may s).length = (CP.split s).length := by simp [may, mayL, heads]
end Go.Proofs.YtcocnmpnbolpmaaDoor.BP
