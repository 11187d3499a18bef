/- The map of the times that are due, by texts of one byte. No conditions. -/
import Derived.Test.YtgphdgalcbcamaaLn19
import Derived.Maps.OwnSet
import Derived.Maps.OwnOps
import Derived.Maps.Views
namespace Go.Proofs.Ytgphdgalcbcamaa
set_option maxRecDepth 100000
set_option linter.unusedVariables false
open Go.RowKit Go.Maps
/-- How such a value reads: by its address, its length and its capacity. -/
def RDu (v : Value) : Option (DataW Unit × List MemPlace) := match v with
  | .slice none 0 0 => some (.nil, [])
  | .slice (some ⟨g, o, none⟩) n c => some (.slice [.lit (.int .i64 (g : Int)), .lit (.int .i64 (o : Int)), .lit (.int .i64 (n : Int)), .lit (.int .i64 (c : Int))] [], [])
  | _ => none
/-- A slice with a place, or none. -/
def Du (v : Value) : Prop := v = .slice none 0 0 ∨ ∃ g o n c, v = .slice (some ⟨g, o, none⟩) n c
def enc (v : Value) : DataW Unit := match RDu v with
  | some z => z.1
  | none => .nil
theorem RDu_some {v : Value} (h : Du v) : RDu v = some (enc v, []) := by
  rcases h with rfl | ⟨g, o, n, c, rfl⟩ <;> rfl
theorem RDu_out {v u : Value} {ps : List MemPlace} (hu : Du u) (h : RDu v = some (enc u, ps)) : v = u := by
  unfold RDu at h
  split at h
  · rcases hu with rfl | ⟨g, o, n, c, rfl⟩
    · rfl
    · simp [enc, RDu] at h
  · rcases hu with rfl | ⟨g, o, n, c, rfl⟩
    · simp [enc, RDu] at h
    · simp [enc, RDu] at h
      obtain ⟨⟨h1, h2, h3, h4⟩, -⟩ := h
      have e1 := Int.ofNat.inj h1
      have e2 := Int.ofNat.inj h2
      have e3 := Int.ofNat.inj h3
      have e4 := Int.ofNat.inj h4
      rw [e1, e2, e3, e4]
  · cases h
theorem txt_key (i : Nat) : keyOf Try.prog 9 (.string (LN.txt i)) = some (.string (LN.txt i).toList) := by
  simp [keyOf, mapKey, Try.underlying9]
  exact ⟨by unfold LN.txt maxLen; simp [ByteArray.size_push], (Lib.toList_data _).symm⟩
theorem txt_list (i : Nat) : (LN.txt i).toList = [UInt8.ofNat i] := by
  rw [Lib.toList_data]
  rfl
theorem txt_inj {i j : Nat} (hi : i < 256) (hj : j < 256) (h : (LN.txt i).toList = (LN.txt j).toList) : i = j := by
  rw [txt_list, txt_list] at h
  have h2 : (UInt8.ofNat i).toNat = (UInt8.ofNat j).toNat := by
    injection h with h
    rw [h]
  rw [UInt8.toNat_ofNat', UInt8.toNat_ofNat'] at h2
  omega
/-- The map in block mb holds f. -/
def MDu (W : World) (mb n : Nat) (f : Nat → Value) : Prop := ∃ D : DataW Unit, W.ownsMap Try.prog 9 RDu mb n D ∧ (∀ i, Du (f i)) ∧ ∀ i, i < 256 → D.atKey (.string (LN.txt i).toList) .nil = enc (f i)
theorem MDu.lt {W : World} {mb n : Nat} {f : Nat → Value} (h : MDu W mb n f) : mb < W.heap.size := by obtain ⟨D, h1, _⟩ := h; exact h1.lt
theorem MDu.same {W W' : World} {mb n : Nat} {f : Nat → Value} (h : MDu W mb n f) (hb : W'.heap[mb]? = W.heap[mb]?) : MDu W' mb n f := by
  obtain ⟨D, ⟨es, cl, h1, h2⟩, h3⟩ := h
  exact ⟨D, ⟨es, cl, hb.trans h1, h2⟩, h3⟩
theorem MDu.made (W : World) : MDu (W.alloc (.map #[] 0)) W.heap.size 0 (fun _ => .slice none 0 0) := ⟨.map [], World.ownsMap_made _ _ _ _, fun i => .inl rfl, fun i _ => rfl⟩
theorem mDu_under : Try.prog.underlying 38 = some (.map 9 37) := Try.underlying38
theorem mDu_zero (W : World) : (zeroValue 37).run Try.prog W = .ok (.slice none 0 0) W := by kernel_rfl
theorem mDu_law : Keyed Try.prog 9 := string_keyed Try.underlying9
theorem MDu.look {W : World} {mb n : Nat} {f : Nat → Value} (h : MDu W mb n f) (i : Nat) (hi : i < 256) :
    (Instr.lookup 38 (.map (some mb)) (.string (LN.txt i)) false).run Try.prog W = .ok (f i) W := by
  obtain ⟨D, h1, h2, h3⟩ := h
  obtain ⟨v, ps, hr, hv⟩ := h1.lookup mDu_law mDu_under (mDu_zero W) (zd := .nil) (zp := []) rfl (txt_key i)
  rw [h3 i hi] at hv
  rw [hr, RDu_out (h2 i) hv]
theorem MDu.put {W : World} {mb n : Nat} {f : Nat → Value} (h : MDu W mb n f) (i : Nat) (hi : i < 256) (hn : n < 1000000000) (v : Value) (hv : Du v) :
    ∃ W', (Instr.mapUpdate 38 (.map (some mb)) (.string (LN.txt i)) v).run Try.prog W = .ok () W' ∧ MDu W' mb (n + 1) (fun y => if y = i then v else f y) ∧ W.mapTurned W' mb := by
  obtain ⟨D, h1, h2, h3⟩ := h
  obtain ⟨W', hr, h4, h5⟩ := h1.store mDu_law mDu_under (by unfold maxLen; omega) (val := v) (d := enc v) (ps := []) (txt_key i) (RDu_some hv)
  refine ⟨W', hr, ⟨_, h4, fun y => ?_, fun y hy => ?_⟩, h5⟩
  · dsimp only
    split
    · exact hv
    · exact h2 y
  · by_cases hyi : y = i
    · subst hyi
      rw [atKey_put_same h1.isMap (mDu_law.key (txt_key y))]
      simp only [if_true]
    · rw [atKey_put_other (fun e => hyi (txt_inj hy hi (by injection e)))]
      simp only [if_neg hyi]
      exact h3 y hy
end Go.Proofs.Ytgphdgalcbcamaa
