/- Eight strings, as an argument; plain facts on a whole tree of two, four or eight. No conditions. -/
import Derived.Test.YtfikbcgadpbblaaDigLaw0
namespace Go.Proofs.Ytfikbcgadpbblaa
set_option linter.unusedVariables false
open Go.ChangeShapes Go.WideShapes Go.ChangeAt Go.RowKit Go.Joins
theorem array8 {α : Type} {cs : Array α} (h : cs.size = 8) : ∃ c0 c1 c2 c3 c4 c5 c6 c7, cs = #[c0, c1, c2, c3, c4, c5, c6, c7] := by
  obtain ⟨l⟩ := cs
  match l, h with
  | [c0, c1, c2, c3, c4, c5, c6, c7], _ => exact ⟨c0, c1, c2, c3, c4, c5, c6, c7, rfl⟩
section
variable {H : Type} {enc : TypeId × Value → H} {P : Program} {w : World} {base : Nat} {spare : Nat → Bool} {held : Bool}
theorem open_arr8s {e t : TypeId} {r : Reach} {b0 : Nat} {v : Value} {d : DataW H} {p : List MemPlace} (ht : P.underlying t = some (.array 8 e)) (he : P.underlying e = some .string) (hc : P.cellsOf e = 1) (hC : P.cellsOf t = 8)
    (hv : Value.okWide P w r b0 t v) (h : DataW.Trod enc P w base spare held t v d p) : ∃ a b c d e f g k : ByteArray, v = .agg #[.string a, .string b, .string c, .string d, .string e, .string f, .string g, .string k] ∧ a.size ≤ maxLen ∧ b.size ≤ maxLen ∧ c.size ≤ maxLen ∧ d.size ≤ maxLen ∧ e.size ≤ maxLen ∧ f.size ≤ maxLen ∧ g.size ≤ maxLen ∧ k.size ≤ maxLen := by
  obtain ⟨cs, rfl, hsz⟩ := okWide_arr ht hv
  obtain ⟨c0, c1, c2, c3, c4, c5, c6, c7, rfl⟩ := array8 (hsz.trans hC)
  obtain ⟨fuel, hf⟩ := h
  obtain ⟨xs, m, _, _, _, hl, hx⟩ := DataW.trod_array ht hf
  have x0 := hx 0 (by omega)
  have x1 := hx 1 (by omega)
  have x2 := hx 2 (by omega)
  have x3 := hx 3 (by omega)
  have x4 := hx 4 (by omega)
  have x5 := hx 5 (by omega)
  have x6 := hx 6 (by omega)
  have x7 := hx 7 (by omega)
  rw [hc, List.getElem?_eq_getElem (by omega)] at x0 x1 x2 x3 x4 x5 x6 x7
  simp [Value.cells] at x0 x1 x2 x3 x4 x5 x6 x7
  obtain ⟨a0, e0, _, w0⟩ := DataW.trod_string he x0
  obtain ⟨a1, e1, _, w1⟩ := DataW.trod_string he x1
  obtain ⟨a2, e2, _, w2⟩ := DataW.trod_string he x2
  obtain ⟨a3, e3, _, w3⟩ := DataW.trod_string he x3
  obtain ⟨a4, e4, _, w4⟩ := DataW.trod_string he x4
  obtain ⟨a5, e5, _, w5⟩ := DataW.trod_string he x5
  obtain ⟨a6, e6, _, w6⟩ := DataW.trod_string he x6
  obtain ⟨a7, e7, _, w7⟩ := DataW.trod_string he x7
  simp at e0 e1 e2 e3 e4 e5 e6 e7
  subst e0 e1 e2 e3 e4 e5 e6 e7
  exact ⟨a0, a1, a2, a3, a4, a5, a6, a7, rfl, w0, w1, w2, w3, w4, w5, w6, w7⟩
end
namespace DG
theorem IsH.pow (h : Nat) : IsH (2 ^ h) h := ⟨Nat.le_refl _, fun j hj => Nat.pow_lt_pow_right (by omega) hj⟩
theorem few_length {L : List ByteArray} {m : Nat} (hm : m ≤ L.length) : (few L m).length = m := by unfold few; simp; omega
/-- A list of a whole power of two: its tree's lowest level is itself. -/
theorem T_whole {L : List ByteArray} {h : Nat} (hl : L.length = 2 ^ h) : T L h 0 = L := by rw [T_zero, hl]; simp
theorem pos_le {h t : Nat} (ht : t < h) : ∃ p, 2 ^ (h - (t + 1)) = p ∧ 2 ^ (h - t) = 2 * p ∧ 0 < p ∧ (p = 1 ↔ t + 1 = h) := by
  refine ⟨_, rfl, half ht, Nat.two_pow_pos _, ?_⟩
  constructor
  · intro hp
    by_cases he : h - (t + 1) = 0
    · omega
    · have := Nat.one_lt_two_pow he
      omega
  · rintro rfl
    simp
/-- The last elements of the first and of the last proof are the two last nodes. -/
theorem last_nbr {L : List ByteArray} {h t : Nat} (ht : t + 1 = h) : (prf L 0 h)[t]? = some ((T L h t).getD 1 ⟨#[]⟩) ∧ (prf L (2 ^ h - 1) h)[t]? = some ((T L h t).getD 0 ⟨#[]⟩) := by
  have hp := Nat.two_pow_pos h
  have hp2 := Nat.two_pow_pos t
  have h0 := T_nbr (L := L) (h := h) (k := t) (i := 0) (d := ⟨#[]⟩) (by omega) (by omega)
  have h1 := T_nbr (L := L) (h := h) (k := t) (i := 2 ^ h - 1) (d := ⟨#[]⟩) (by omega) (by omega)
  have hd : (2 ^ h - 1) / 2 ^ t = 1 := by
    rw [← ht, Nat.pow_succ]
    exact Nat.div_eq_of_lt_le (by omega) (by omega)
  rw [Nat.zero_div] at h0
  rw [hd] at h1
  have e0 : beside 0 = 1 := rfl
  have e1 : beside 1 = 0 := rfl
  rw [e0] at h0
  rw [e1] at h1
  subst ht
  exact ⟨by rw [h0]; simp [prf], by rw [h1]; simp [prf]⟩
/-- The root, written out. -/
theorem root_of {L : List ByteArray} {h : Nat} {x : ByteArray} (hx : (T L h h).getD 0 ⟨#[]⟩ = x) : Of (⟨#[2]⟩ ++ S [UInt8.ofNat h] ++ x) = root L h := by
  rw [T_top] at hx
  rw [← hx]
  unfold Of root rootL
  simp [S]
end DG
/-- A string made of one byte, wherever it lies. -/
theorem conv_one (V : World) (b k : Nat) (hk : k < 256) (h : V.cell? ⟨b, 0, none⟩ = some (.int .u8 (k : Int))) : Sem.run Try.prog (convert 40 9 (.slice (some ⟨b, 0, none⟩) 1 1)) V = .ok (.string (DG.S [UInt8.ofNat k])) V := by
  refine conv_bytes _ _ _ _ [UInt8.ofNat k] rfl (fun j u hj => ?_)
  rw [Addr.add_lit]
  match j, hj with
  | 0, hj =>
    simp at hj
    subst hj
    have e0 : (k : Int) % 256 = k := by omega
    simpa [e0] using h
end Go.Proofs.Ytfikbcgadpbblaa
