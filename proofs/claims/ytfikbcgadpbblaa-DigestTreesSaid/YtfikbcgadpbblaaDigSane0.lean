/- The examples of the chapter, reckoned. No conditions. -/
import Derived.Test.YtfikbcgadpbblaaDigRRoot
namespace Go.Proofs.Ytfikbcgadpbblaa.DG
set_option maxRecDepth 100000
def sa : ByteArray := ⟨#[97]⟩
def sb : ByteArray := ⟨#[98]⟩
def sc : ByteArray := ⟨#[99]⟩
def L3 : List ByteArray := [sa, sb, sc]
theorem of_0 : Of ⟨#[]⟩ = ⟨#[0, 0, 0, 7, 0, 0, 0, 11]⟩ := by kernel_rfl
theorem of_1 : Of ⟨#[0]⟩ = ⟨#[0, 106, 207, 214, 0, 11, 151, 208]⟩ := by kernel_rfl
theorem root_0 : root [] 0 = Of ⟨#[2, 0]⟩ := by kernel_rfl
theorem proof_2 : proof L3 2 2 = [⟨#[]⟩, Pair sa sb] := by kernel_rfl
theorem proof_0 : proof L3 2 0 = [sb, Pair sc ⟨#[]⟩] := by kernel_rfl
theorem proof_3 : proof L3 2 3 = [] := by kernel_rfl
theorem isH_3 : IsH 3 2 := ⟨by decide, fun j hj => by
  match j, hj with
  | 0, _ => decide
  | 1, _ => decide⟩
theorem isH_0 : IsH 0 0 := ⟨by decide, fun j hj => absurd hj (Nat.not_lt_zero _)⟩
theorem ver_2 : verify (root L3 2) sc 2 [⟨#[]⟩, Pair sa sb] = true := by kernel_rfl
theorem ver_6 : verify (root L3 2) sc 6 [⟨#[]⟩, Pair sa sb] = false := by kernel_rfl
theorem ver_1 : verify (root L3 2) sc 2 [⟨#[]⟩] = false := by kernel_rfl
end Go.Proofs.Ytfikbcgadpbblaa.DG
