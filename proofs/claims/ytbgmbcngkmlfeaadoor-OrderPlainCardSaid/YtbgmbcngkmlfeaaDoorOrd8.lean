/- The closures of directions, and a copy of a row. No conditions. -/
import Derived.Test.YtbgmbcngkmlfeaaDoorOrd7
import Derived.Test.YtbgmbcngkmlfeaaDoorOrd3
import Derived.Test.YtbgmbcngkmlfeaaDoorOrd6
import Derived.Test.YtbgmbcngkmlfeaaDoorMarks
namespace Go.Proofs.YtbgmbcngkmlfeaaDoor
set_option maxRecDepth 100000
set_option linter.unusedVariables false
open Go.RowKit Go.Shelf Go.Deep
set_option maxHeartbeats 1000000 in
theorem oneutral_any (x : Int) (w : World) : Calls Tryd.prog 48 #[.int .i64 x] w fun e w' => e = .returned (.bool (x == 0)) ∧ Below w.heap.size w w' := by
  go_enter Tryd.func48, Tryd.ntmps48
  go_wp2
  go_ret
  exact ⟨rfl, Below.refl _ _⟩
theorem eql_nil (w : World) (a : Option Addr) (n c : Nat) : (binOp .eql 26 (.slice a n c) (.slice none 0 0)).run Tryd.prog w = .ok (.bool a.isNone) w := by
  simp only [binOp]
  simp [Op.equal, Op.maxDepth, Lib.run_equalIn_slice_nil w 9999 26 3 a n c 0 0 Tryd.underlying26]
set_option maxHeartbeats 1000000 in
theorem oclone_any (K : List Int) (v : Value) (w : World) (hv : Src w v (K.map (Value.int .i64))) (hl : K.length ≤ 1000000000) :
    Calls Tryd.prog 46 #[v] w fun e w' => ∃ v', e = .returned v' ∧ w'.ownsRow w.heap.size 3 1 v' K.length (K.map (Value.int .i64)) ∧ Below w.heap.size w w' := by
  obtain ⟨i0, hi0, hz0, hz1, hz2⟩ := info_parts info_int
  have HS : Hid (∀ V, Below w.heap.size w V → Src V v (K.map (Value.int .i64))) := Lib.hid fun V hV => hv.keep hV
  obtain ⟨ao, c, rfl, h⟩ := hv.out
  rw [List.length_map] at HS ⊢
  cases ao with
  | none =>
    have hK : K = [] := by
      rcases h with ⟨h, -⟩ | ⟨g, o, h, -⟩
      · simpa using h
      · cases h
    subst hK
    have hq := eql_nil w none 0 c
    go_enter Tryd.func46, Tryd.ntmps46
    go_wp2
    go_ret
    exact ⟨_, rfl, World.ownsRow_nil _ _ _ _, Below.refl _ _⟩
  | some a =>
    clear h hv
    have hq := eql_nil w (some a) K.length c
    go_enter Tryd.func46, Tryd.ntmps46
    go_wp2_with (at_builtin; refine wpList_app _ rfl _ _ 26 rfl w.heap.size 3 i0 (.int .i64 0) 8 Tryd.underlying26 hi0 hz0 hz1 hz2 rfl _ _ _ rfl (own_lit w [] 3 w.heap.size (Nat.le_refl _) (by simp [maxLen])) _ (K.map (Value.int .i64)) (by rfl) (HS.out _ (balloc (Below.refl _ _) _)) (ints_one K) (by simp [maxLen]; omega) (by simp; omega) (by simp) ?_; intro v' w1 hown hgrow _; obtain ⟨va, vc, rfl⟩ := own_shape hown)
    have hb : Below w.heap.size w w1 := (balloc (Below.refl _ w) (.cells #[] 3)).grown hgrow (by simp) (fun k e => by have : w.heap.size = k := Option.some.inj e; omega)
    rw [List.length_nil, Nat.zero_add, List.length_map, List.nil_append] at hown
    go_wp2
    go_ret
    refine ⟨_, rfl, ?_, hb⟩
    simpa using hown
set_option maxHeartbeats 1000000 in
theorem oside_any (i b : Int) (C : List Int) (la : Option Addr) (n lc p5 p3 : Nat) (w : World) (hn : C.length = n) (hn1 : n ≤ 1000000000) (c5 : w.cell? ⟨p5, 0, none⟩ = some (.slice la n lc)) (c3 : w.cell? ⟨p3, 0, none⟩ = some (.int .i64 b)) (hv : RowAt w (.slice la n lc) (C.map (Value.int .i64))) :
    Calls Tryd.prog 47 #[.int .i64 i, .pointer (some ⟨p5, 0, none⟩), .pointer (some ⟨p3, 0, none⟩)] w fun e w' => e = .returned (.int .i64 (OP.side b C i)) ∧ Below w.heap.size w w' := by
  by_cases h0 : i < 0
  · have HR : Hid (OP.side b C i = b) := Lib.hid (by unfold OP.side; rw [if_pos (Or.inl h0)])
    go_enter Tryd.func47, Tryd.ntmps47
    go_wp2
    go_ret
    exact ⟨ret1 HR.out.symm, by first | exact Below.refl _ _ | exact (Below.refl _ _).drew | exact below_drewN (Below.refl _ _) _⟩
  · by_cases h1 : (n : Int) ≤ i
    · have HR : Hid (OP.side b C i = b) := Lib.hid (by unfold OP.side; rw [if_pos (Or.inr (by omega))])
      go_enter Tryd.func47, Tryd.ntmps47
      go_wp2
      go_ret
      exact ⟨ret1 HR.out.symm, by first | exact Below.refl _ _ | exact (Below.refl _ _).drew | exact below_drewN (Below.refl _ _) _⟩
    · obtain ⟨j, rfl⟩ : ∃ j : Nat, i = (j : Int) := ⟨i.toNat, by omega⟩
      have hj : j < C.length := by omega
      have hji : (j : Int) < (n : Int) := by omega
      have HR : Hid (OP.side b C (j : Int) = C[j]) := Lib.hid (by unfold OP.side; rw [if_neg (by omega), Int.toNat_natCast]; simp [List.getD, hj])
      obtain ⟨g, o, rfl, hg, hc⟩ := hv.cell (k := j) (by rw [List.length_map]; exact hj)
      rw [List.getElem_map] at hc
      obtain ⟨z, hz⟩ : ∃ z, C[j] = z := ⟨_, rfl⟩
      rw [hz] at hc HR
      clear hz hv
      go_enter Tryd.func47, Tryd.ntmps47
      go_wp2
      go_ret
      exact ⟨ret1 HR.out.symm, by first | exact Below.refl _ _ | exact (Below.refl _ _).drew | exact below_drewN (Below.refl _ _) _⟩
end Go.Proofs.YtbgmbcngkmlfeaaDoor
