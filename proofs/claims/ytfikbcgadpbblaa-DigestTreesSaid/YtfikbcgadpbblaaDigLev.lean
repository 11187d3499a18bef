/- Levels of a tree: one element, the next level. -/
import Derived.Test.YtfikbcgadpbblaaDigVerP
namespace Go.Proofs.Ytfikbcgadpbblaa.DG
/-- The level above a level: its elements, filled up with f. -/
def up (f : ByteArray) : List ByteArray → List ByteArray
  | [] => []
  | [a] => [Pair a f]
  | a :: b :: l => Pair a b :: up f l
end Go.Proofs.Ytfikbcgadpbblaa.DG
namespace Go.Proofs.Ytfikbcgadpbblaa
set_option linter.unusedVariables false
open Go.RowKit
abbrev lv (a : Option Addr) (n c : Nat) (f : ByteArray) (m : Nat) : Value := .agg #[.slice a n c, .string f, .int .i64 m]
set_option maxRecDepth 100000 in
set_option maxHeartbeats 1000000 in
theorem at_any (a : Option Addr) (c : Nat) (L : List ByteArray) (f : ByteArray) (m i : Nat) (w : World) (hr : RowAt w (.slice a L.length c) (L.map Value.string)) (hL : L.length ≤ maxLen) (hi : i ≤ maxLen) :
    Calls Try.prog 29 #[lv a L.length c f m, .int .i64 i] w fun e w' => e = .returned (.string (L.getD i f)) ∧ Below w.heap.size w w' := by
  have HR : Hid (∀ wr, Below w.heap.size w wr → ∀ k, ∀ hk : k < L.length, ∃ g o, a = some ⟨g, o, none⟩ ∧ g < wr.heap.size ∧ wr.cell? ⟨g, o + k, none⟩ = some (.string L[k])) := Lib.hid (fun wr hb k hk => by
    have := (hr.keep hb).cell (a := a) (k := k) (by simpa using hk)
    simpa using this)
  obtain ⟨r, hrr⟩ : ∃ r, L.getD i f = r := ⟨_, rfl⟩
  rw [hrr]
  unfold maxLen at hL hi
  obtain ⟨n, hn⟩ : ∃ n, L.length = n := ⟨_, rfl⟩
  by_cases hil : i < L.length
  · have hil' : i < n := by omega
    have hii : (i : Int) < (n : Int) := by omega
    obtain ⟨g, o, rfl, hg, hc⟩ := HR.out w (Below.refl _ _) i hil
    have hri : L[i] = r := by rw [← hrr]; simp [List.getD, hil]
    rw [hri] at hc
    rw [hn]
    have hgw : ¬ g = w.heap.size := by omega
    clear hr hrr hri hil hL hn
    go_enter Try.func29, Try.ntmps29
    go_wp2
    go_ret
    exact ⟨rfl, balloc (Below.refl _ _) _⟩
  · have hii : ¬ (i : Int) < (n : Int) := by omega
    have hri : f = r := by rw [← hrr]; simp [List.getD, hil]
    subst hri
    rw [hn]
    clear hr hrr hil hL hn
    go_enter Try.func29, Try.ntmps29
    go_wp2
    go_ret
    exact ⟨rfl, balloc (Below.refl _ _) _⟩
end Go.Proofs.Ytfikbcgadpbblaa
