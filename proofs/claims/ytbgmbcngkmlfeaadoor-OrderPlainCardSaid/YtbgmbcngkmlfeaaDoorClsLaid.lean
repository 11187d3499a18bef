/- What the listed variable says of memory: the table of characters lies as the program's text lays it. -/
import Derived.Test.YtbgmbcngkmlfeaaDoorTie
import Derived.Test.YtbgmbcngkmlfeaaDoorCards
import Derived.Test.YtbgmbcngkmlfeaaDoorClsOps
import Derived.ProofKit
import Derived.LaidMore
import Derived.OpenShut
import Derived.Stop.Joined
import Derived.SevenTiedAt
import Derived.Lib.SmallJoins
namespace Go.Proofs.YtbgmbcngkmlfeaaDoor
open Go.ChangeShapes Go.WideShapes Go.ChangeAt Go.RowKit

theorem gRows : Tryd.prog.globalNamed "abugida/chars.rows" = some 0 := by kernel_rfl
theorem tRows : (Tryd.prog.globals[0]?).map (·.type) = some 71 := by kernel_rfl
theorem dRows {H : Type} : (Rows.laid_abugida_chars_rows : DataW H) = .slice ((List.range 16).map fun k => .agg [.lit (.int .i64 (FC.cell k 0)), .lit (.int .i64 (FC.cell k 1)), .agg [.lit (.int .i64 (FC.cell k 2)), .lit (.int .i64 (FC.cell k 3))]]) [] := by kernel_rfl
theorem cRow : Tryd.prog.cellsOf 73 = 4 := by kernel_rfl
theorem cKind : Tryd.prog.cellsOf 64 = 2 := by kernel_rfl
theorem cInt : Tryd.prog.cellsOf 3 = 1 := by kernel_rfl

abbrev laidL : List (String × DataW Unit) := [("abugida/chars.rows", Rows.laid_abugida_chars_rows)]
/-- The door's own heap meets the condition. -/
theorem door_met (os : Os) (args : Array Value) : laidMetH Tryd.prog laidL ((World.doorLaid Tryd.prog 46 os).forCall (fun _ _ => 0) ⟨#[], args, []⟩).memory :=
  laidMetH_of_parts3 (fuel := 8) (laidMet_of_run' 8 (by kernel_rfl) (by kernel_rfl)) (by kernel_rfl) (by kernel_rfl)

section
variable {H : Type} {enc : TypeId × Value → H} {w : World} {base : Nat} {spare : Nat → Bool} {held : Bool}
theorem int_of_trod {m : Nat} {v : Value} {a : Int} {u : DataW H × List MemPlace} (h : DataW.trod enc Tryd.prog w base spare held m 3 [v] = some u) (hu : DataW.lit (.int .i64 a) = u.1) : v = .int .i64 a := by
  obtain ⟨k, e1, e2, _⟩ := DataW.trod_int Tryd.underlying3 h
  subst e2
  simp at e1 hu
  rw [e1, hu]
theorem kind_of_trod {m : Nat} {cs : List Value} {u : DataW H × List MemPlace} {a b : Int} (h : DataW.trod enc Tryd.prog w base spare held m 64 cs = some u) (hu : .agg [.lit (.int .i64 a), .lit (.int .i64 b)] = u.1) : cs = [.int .i64 a, .int .i64 b] := by
  obtain ⟨xs, n, rfl, rfl, hl, hn, hf⟩ := DataW.trod_struct Tryd.underlying64 h
  have h0 : DataW.trod enc Tryd.prog w base spare held n 3 (List.take (Tryd.prog.cellsOf 3) (List.drop 0 cs)) = xs[0]? := hf 0 _ rfl
  have h1 : DataW.trod enc Tryd.prog w base spare held n 3 (List.take (Tryd.prog.cellsOf 3) (List.drop 1 cs)) = xs[1]? := hf 1 _ rfl
  rw [cKind] at hl
  rw [cInt] at h0 h1
  match cs, hl, xs, hn, hu, h0, h1 with
  | [x, y], _, [u, v], _, hu, h0, h1 =>
    simp only [List.map_cons, List.map_nil, DataW.agg.injEq, List.cons.injEq, and_true] at hu
    rw [int_of_trod (v := x) h0 hu.1, int_of_trod (v := y) h1 hu.2]
theorem row_of_trod {m : Nat} {cs : List Value} {u : DataW H × List MemPlace} {a b c d : Int} (h : DataW.trod enc Tryd.prog w base spare held m 73 cs = some u) (hu : .agg [.lit (.int .i64 a), .lit (.int .i64 b), .agg [.lit (.int .i64 c), .lit (.int .i64 d)]] = u.1) : cs = [.int .i64 a, .int .i64 b, .int .i64 c, .int .i64 d] := by
  obtain ⟨xs, n, rfl, rfl, hl, hn, hf⟩ := DataW.trod_struct Tryd.underlying73 h
  have h0 : DataW.trod enc Tryd.prog w base spare held n 3 (List.take (Tryd.prog.cellsOf 3) (List.drop 0 cs)) = xs[0]? := hf 0 _ rfl
  have h1 : DataW.trod enc Tryd.prog w base spare held n 3 (List.take (Tryd.prog.cellsOf 3) (List.drop 1 cs)) = xs[1]? := hf 1 _ rfl
  have h2 : DataW.trod enc Tryd.prog w base spare held n 64 (List.take (Tryd.prog.cellsOf 64) (List.drop 2 cs)) = xs[2]? := hf 2 _ rfl
  rw [cRow] at hl
  rw [cInt] at h0 h1
  rw [cKind] at h2
  match cs, hl, xs, hn, hu, h0, h1, h2 with
  | [x, y, z, t], _, [u, v, o], _, hu, h0, h1, h2 =>
    simp only [List.map_cons, List.map_nil, DataW.agg.injEq, List.cons.injEq, and_true] at hu
    have h3 := kind_of_trod (cs := [z, t]) h2 hu.2.2
    simp only [List.cons.injEq, and_true] at h3
    rw [int_of_trod (v := x) h0 hu.1, int_of_trod (v := y) h1 hu.2.1, h3.1, h3.2]
end

theorem of_laid {W : World} (h : laidMetH Tryd.prog laidL W) : ∃ g, Laid W g := by
  rw [MakeChecks.laidMetH_plain _ _ _ (by kernel_rfl)] at h
  obtain ⟨ps, ⟨g0, t0, cs0, f0, p0, q0, hg0, ht0, hv0, hd0, _, _⟩, _, _⟩ := h
  obtain rfl := Option.some.inj (gRows.symm.trans hg0)
  obtain rfl := Option.some.inj (tRows.symm.trans ht0)
  rw [dRows] at hd0
  rcases DataW.trod_slice Tryd.underlying71 hd0 with ⟨_, hx⟩ | ⟨a, len, cap, elems, rest, n, _, hcs, hx, hb, hl, hm, hlen, hel, hsp, _⟩
  · simp at hx
  simp only [Prod.mk.injEq, DataW.slice.injEq] at hx
  obtain ⟨⟨hx1, hx2⟩, _⟩ := hx
  have hlen16 : len = 16 := by rw [← hlen]; have := congrArg List.length hx1; simpa using this.symm
  have hrest : rest = [] := by simpa using hx2.symm
  have hcap : cap = 16 := by have := (hsp rfl).1; rw [hrest] at this; simp at this; omega
  subst hlen16 hcap
  have cells : ∀ k, k < 16 → W.cells? 0 (a.add (k * 4)) 4 = some [.int .i64 (FC.cell k 0), .int .i64 (FC.cell k 1), .int .i64 (FC.cell k 2), .int .i64 (FC.cell k 3)] := fun k hk => by
    have h1 := hel k hk
    rw [cRow, List.getElem?_eq_getElem (by omega)] at h1
    obtain ⟨cs, e1, e2⟩ := Option.bind_eq_some_iff.1 h1
    have h2 : (elems.map (·.1))[k]? = some (elems[k]'(by omega)).1 := by simp [List.getElem?_eq_getElem (show k < elems.length by omega)]
    rw [← hx1] at h2
    simp [hk] at h2
    rw [row_of_trod e2 h2] at e1
    exact e1
  have cell0 : ∀ k j, k < 16 → j < 4 → W.cell? ((a.add (k * 4)).add j) = some (.int .i64 (FC.cell k j)) := fun k j hk hj => by
    obtain ⟨_, _, h⟩ := World.cells?_some (cells k hk)
    rw [h j hj]
    match j, hj with
    | 0, _ | 1, _ | 2, _ | 3, _ => rfl
  obtain ⟨b, off, spot⟩ := a
  have hspot : spot = none := by simpa [Addr.add] using World.cell?_spot (cell0 0 0 (by omega) (by omega))
  subst hspot
  have hvar : W.cell? ⟨0, 0, none⟩ = some (.slice (some ⟨b, off, none⟩) 16 16) := by
    have := World.var?_cell hg0 hv0 0
    rw [Array.eq_one_of_toList hcs] at this
    simpa using this
  refine ⟨(b, off), ?_, ?_, hvar, fun k j hk hj => ?_⟩
  · have := World.block_lt_of_cell? W _ (cell0 0 0 (by omega) (by omega))
    simpa [Addr.add] using this
  · have := World.block_lt_of_cell? W _ hvar
    exact Nat.lt_of_le_of_lt (Nat.zero_le _) this
  · have := cell0 k j hk hj
    rw [add_plain, add_plain] at this
    exact this
end Go.Proofs.YtbgmbcngkmlfeaaDoor
