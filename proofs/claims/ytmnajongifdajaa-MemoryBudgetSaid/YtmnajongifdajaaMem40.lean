/- Maps of keys to sizes, and to marks. No conditions. -/
import Derived.Test.YtmnajongifdajaaMem39
namespace Go.Proofs.Ytmnajongifdajaa
set_option maxRecDepth 100000
set_option linter.unusedVariables false
open Go.RowKit Go.Maps
/-- How such a value reads. -/
def RSz (v : Value) : Option (DataW Unit × List MemPlace) := match v with
  | .int .i64 x => some (.lit (.int .i64 x), [])
  | _ => none
theorem RSz_out {v : Value} {x : Int} {ps : List MemPlace} (h : RSz v = some (.lit (.int .i64 x), ps)) : v = .int .i64 x := by
  unfold RSz at h
  split at h
  · simp only [Option.some.injEq, Prod.mk.injEq] at h
    have h1 := h.1
    injection h1 with h1
    injection h1 with _ h2
    rw [h2]
  · cases h
/-- The map in block mb holds f: c keys. -/
def MSz (W : World) (mb n c : Nat) (f : K4 → Option Int) : Prop := ∃ D : DataW Unit, W.ownsMap Try.prog 34 RSz mb n D ∧ (∀ k l, keyOf Try.prog 34 (kyV k) = some l → Maps.has D l = (f k).isSome ∧ D.atKey l (.lit (.int .i64 0)) = .lit (.int .i64 ((f k).getD 0))) ∧ Maps.size D = c
theorem MSz.out {W : World} {mb n c : Nat} {f : K4 → Option Int} (h : MSz W mb n c f) : ∃ D : DataW Unit, W.ownsMap Try.prog 34 RSz mb n D ∧ (∀ k l, keyOf Try.prog 34 (kyV k) = some l → Maps.has D l = (f k).isSome ∧ D.atKey l (.lit (.int .i64 0)) = .lit (.int .i64 ((f k).getD 0))) ∧ Maps.size D = c := h
theorem MSz.lt {W : World} {mb n c : Nat} {f : K4 → Option Int} (h : MSz W mb n c f) : mb < W.heap.size := by obtain ⟨D, h1, _⟩ := h.out; exact h1.lt
theorem MSz.same {W W' : World} {mb n c : Nat} {f : K4 → Option Int} (h : MSz W mb n c f) (hb : W'.heap[mb]? = W.heap[mb]?) : MSz W' mb n c f := by
  obtain ⟨D, ⟨es, cl, h1, h2⟩, h3⟩ := h.out
  exact ⟨D, ⟨es, cl, hb.trans h1, h2⟩, h3⟩
theorem MSz.made (W : World) : MSz (W.alloc (.map #[] 0)) W.heap.size 0 0 (fun _ => none) := ⟨.map [], World.ownsMap_made _ _ _ _, fun k l _ => ⟨rfl, rfl⟩, rfl⟩
theorem mSz_under : Try.prog.underlying 30 = some (.map 34 3) := Try.underlying30
theorem mSz_zero (W : World) : (zeroValue 3).run Try.prog W = .ok (.int .i64 0) W := by kernel_rfl
theorem MSz.look {W : World} {mb n c : Nat} {f : K4 → Option Int} (h : MSz W mb n c f) (k : K4) (hk : K4ok k) :
    (Instr.lookup 30 (.map (some mb)) (kyV k) false).run Try.prog W = .ok (.int .i64 ((f k).getD 0)) W := by
  obtain ⟨D, h1, h2, _⟩ := h.out
  obtain ⟨l, hl⟩ := ow_key k hk
  obtain ⟨v, ps, hr, hv⟩ := h1.lookup ow_law mSz_under (mSz_zero W) (zd := .lit (.int .i64 0)) (zp := []) rfl hl
  rw [(h2 k l hl).2] at hv
  rw [hr, RSz_out hv]
theorem MSz.look2 {W : World} {mb n c : Nat} {f : K4 → Option Int} (h : MSz W mb n c f) (k : K4) (hk : K4ok k) :
    (Instr.lookup 30 (.map (some mb)) (kyV k) true).run Try.prog W = .ok (.tuple #[.int .i64 ((f k).getD 0), .bool (f k).isSome]) W := by
  obtain ⟨D, h1, h2, _⟩ := h.out
  obtain ⟨l, hl⟩ := ow_key k hk
  obtain ⟨v, ps, hr, hv⟩ := h1.look_ok ow_law mSz_under (mSz_zero W) (zd := .lit (.int .i64 0)) (zp := []) rfl hl
  rw [(h2 k l hl).2] at hv
  rw [hr, RSz_out hv, (h2 k l hl).1]
theorem MSz.len {W : World} {mb n c : Nat} {f : K4 → Option Int} (h : MSz W mb n c f) (ty : TypeId) : (Builtin.len_ #[30] ty #[.map (some mb)]).run Try.prog W = .ok (.int .i64 c) W := by
  obtain ⟨D, h1, _, h3⟩ := h.out
  rw [h1.len mSz_under ty, h3]
theorem MSz.put {W : World} {mb n c : Nat} {f : K4 → Option Int} (h : MSz W mb n c f) (k : K4) (hk : K4ok k) (hn : n < 1000000000) (x : Int) :
    ∃ W', (Instr.mapUpdate 30 (.map (some mb)) (kyV k) (.int .i64 x)).run Try.prog W = .ok () W' ∧ MSz W' mb (n + 1) (if (f k).isSome then c else c + 1) (fun y => if y = k then some x else f y) ∧ W.mapTurned W' mb := by
  obtain ⟨D, h1, h2, hc⟩ := h.out
  obtain ⟨l, hl⟩ := ow_key k hk
  obtain ⟨W', hr, h3, h4⟩ := h1.store ow_law mSz_under (by unfold maxLen; omega) (val := .int .i64 x) (d := .lit (.int .i64 x)) (ps := []) hl rfl
  refine ⟨W', hr, ⟨_, h3, fun y ly hy => ?_, by rw [size_put (h1.tidy ow_law), (h2 k l hl).1, hc]⟩, h4⟩
  by_cases hyk : y = k
  · subst hyk
    rw [hl] at hy
    cases hy
    rw [has_put_same h1.isMap (ow_law.key hl), atKey_put_same h1.isMap (ow_law.key hl)]
    simp
  · have hne : ly ≠ l := fun e => hyk (key_inj (by rw [← e]; exact hy) hl)
    rw [has_put_other hne, atKey_put_other hne]
    simp only [if_neg hyk]
    exact h2 y ly hy
theorem MSz.del {W : World} {mb n c : Nat} {f : K4 → Option Int} (h : MSz W mb n c f) (k : K4) (hk : K4ok k) (ty : TypeId) :
    ∃ W', (Builtin.delete_ #[30, 34] ty #[.map (some mb), kyV k]).run Try.prog W = .ok (.tuple #[]) W' ∧ MSz W' mb n (if (f k).isSome then c - 1 else c) (fun y => if y = k then none else f y) ∧ W.mapTurned W' mb := by
  obtain ⟨D, h1, h2, hc⟩ := h.out
  obtain ⟨l, hl⟩ := ow_key k hk
  obtain ⟨W', hr, h3, h4⟩ := h1.drop ow_law mSz_under hl ty
  refine ⟨W', hr, ⟨_, h3, fun y ly hy => ?_, ?_⟩, h4⟩
  · by_cases hyk : y = k
    · subst hyk
      rw [hl] at hy
      cases hy
      rw [has_del_same, atKey_del_same]
      simp
    · have hne : ly ≠ l := fun e => hyk (key_inj (by rw [← e]; exact hy) hl)
      rw [has_del_other hne, atKey_del_other hne]
      simp only [if_neg hyk]
      exact h2 y ly hy
  · have hs := size_del (k := l) (h1.tidy ow_law)
    rw [(h2 k l hl).1, hc] at hs
    cases hf : (f k).isSome <;> simp [hf] at hs ⊢ <;> omega
/-- How such a value reads. -/
def RBl (v : Value) : Option (DataW Unit × List MemPlace) := match v with
  | .bool x => some (.lit (.bool x), [])
  | _ => none
theorem RBl_out {v : Value} {x : Bool} {ps : List MemPlace} (h : RBl v = some (.lit (.bool x), ps)) : v = .bool x := by
  unfold RBl at h
  split at h
  · simp only [Option.some.injEq, Prod.mk.injEq] at h
    have h1 := h.1
    injection h1 with h1
    injection h1 with h2
    rw [h2]
  · cases h
/-- The map in block mb holds f: c keys. -/
def MBl (W : World) (mb n c : Nat) (f : K4 → Option Bool) : Prop := ∃ D : DataW Unit, W.ownsMap Try.prog 34 RBl mb n D ∧ (∀ k l, keyOf Try.prog 34 (kyV k) = some l → Maps.has D l = (f k).isSome ∧ D.atKey l (.lit (.bool false)) = .lit (.bool ((f k).getD false))) ∧ Maps.size D = c
theorem MBl.out {W : World} {mb n c : Nat} {f : K4 → Option Bool} (h : MBl W mb n c f) : ∃ D : DataW Unit, W.ownsMap Try.prog 34 RBl mb n D ∧ (∀ k l, keyOf Try.prog 34 (kyV k) = some l → Maps.has D l = (f k).isSome ∧ D.atKey l (.lit (.bool false)) = .lit (.bool ((f k).getD false))) ∧ Maps.size D = c := h
theorem MBl.lt {W : World} {mb n c : Nat} {f : K4 → Option Bool} (h : MBl W mb n c f) : mb < W.heap.size := by obtain ⟨D, h1, _⟩ := h.out; exact h1.lt
theorem MBl.same {W W' : World} {mb n c : Nat} {f : K4 → Option Bool} (h : MBl W mb n c f) (hb : W'.heap[mb]? = W.heap[mb]?) : MBl W' mb n c f := by
  obtain ⟨D, ⟨es, cl, h1, h2⟩, h3⟩ := h.out
  exact ⟨D, ⟨es, cl, hb.trans h1, h2⟩, h3⟩
theorem MBl.made (W : World) : MBl (W.alloc (.map #[] 0)) W.heap.size 0 0 (fun _ => none) := ⟨.map [], World.ownsMap_made _ _ _ _, fun k l _ => ⟨rfl, rfl⟩, rfl⟩
theorem mBl_under : Try.prog.underlying 50 = some (.map 34 4) := Try.underlying50
theorem mBl_zero (W : World) : (zeroValue 4).run Try.prog W = .ok (.bool false) W := by kernel_rfl
theorem MBl.look {W : World} {mb n c : Nat} {f : K4 → Option Bool} (h : MBl W mb n c f) (k : K4) (hk : K4ok k) :
    (Instr.lookup 50 (.map (some mb)) (kyV k) false).run Try.prog W = .ok (.bool ((f k).getD false)) W := by
  obtain ⟨D, h1, h2, _⟩ := h.out
  obtain ⟨l, hl⟩ := ow_key k hk
  obtain ⟨v, ps, hr, hv⟩ := h1.lookup ow_law mBl_under (mBl_zero W) (zd := .lit (.bool false)) (zp := []) rfl hl
  rw [(h2 k l hl).2] at hv
  rw [hr, RBl_out hv]
theorem MBl.look2 {W : World} {mb n c : Nat} {f : K4 → Option Bool} (h : MBl W mb n c f) (k : K4) (hk : K4ok k) :
    (Instr.lookup 50 (.map (some mb)) (kyV k) true).run Try.prog W = .ok (.tuple #[.bool ((f k).getD false), .bool (f k).isSome]) W := by
  obtain ⟨D, h1, h2, _⟩ := h.out
  obtain ⟨l, hl⟩ := ow_key k hk
  obtain ⟨v, ps, hr, hv⟩ := h1.look_ok ow_law mBl_under (mBl_zero W) (zd := .lit (.bool false)) (zp := []) rfl hl
  rw [(h2 k l hl).2] at hv
  rw [hr, RBl_out hv, (h2 k l hl).1]
theorem MBl.len {W : World} {mb n c : Nat} {f : K4 → Option Bool} (h : MBl W mb n c f) (ty : TypeId) : (Builtin.len_ #[50] ty #[.map (some mb)]).run Try.prog W = .ok (.int .i64 c) W := by
  obtain ⟨D, h1, _, h3⟩ := h.out
  rw [h1.len mBl_under ty, h3]
theorem MBl.put {W : World} {mb n c : Nat} {f : K4 → Option Bool} (h : MBl W mb n c f) (k : K4) (hk : K4ok k) (hn : n < 1000000000) (x : Bool) :
    ∃ W', (Instr.mapUpdate 50 (.map (some mb)) (kyV k) (.bool x)).run Try.prog W = .ok () W' ∧ MBl W' mb (n + 1) (if (f k).isSome then c else c + 1) (fun y => if y = k then some x else f y) ∧ W.mapTurned W' mb := by
  obtain ⟨D, h1, h2, hc⟩ := h.out
  obtain ⟨l, hl⟩ := ow_key k hk
  obtain ⟨W', hr, h3, h4⟩ := h1.store ow_law mBl_under (by unfold maxLen; omega) (val := .bool x) (d := .lit (.bool x)) (ps := []) hl rfl
  refine ⟨W', hr, ⟨_, h3, fun y ly hy => ?_, by rw [size_put (h1.tidy ow_law), (h2 k l hl).1, hc]⟩, h4⟩
  by_cases hyk : y = k
  · subst hyk
    rw [hl] at hy
    cases hy
    rw [has_put_same h1.isMap (ow_law.key hl), atKey_put_same h1.isMap (ow_law.key hl)]
    simp
  · have hne : ly ≠ l := fun e => hyk (key_inj (by rw [← e]; exact hy) hl)
    rw [has_put_other hne, atKey_put_other hne]
    simp only [if_neg hyk]
    exact h2 y ly hy
theorem MBl.del {W : World} {mb n c : Nat} {f : K4 → Option Bool} (h : MBl W mb n c f) (k : K4) (hk : K4ok k) (ty : TypeId) :
    ∃ W', (Builtin.delete_ #[50, 34] ty #[.map (some mb), kyV k]).run Try.prog W = .ok (.tuple #[]) W' ∧ MBl W' mb n (if (f k).isSome then c - 1 else c) (fun y => if y = k then none else f y) ∧ W.mapTurned W' mb := by
  obtain ⟨D, h1, h2, hc⟩ := h.out
  obtain ⟨l, hl⟩ := ow_key k hk
  obtain ⟨W', hr, h3, h4⟩ := h1.drop ow_law mBl_under hl ty
  refine ⟨W', hr, ⟨_, h3, fun y ly hy => ?_, ?_⟩, h4⟩
  · by_cases hyk : y = k
    · subst hyk
      rw [hl] at hy
      cases hy
      rw [has_del_same, atKey_del_same]
      simp
    · have hne : ly ≠ l := fun e => hyk (key_inj (by rw [← e]; exact hy) hl)
      rw [has_del_other hne, atKey_del_other hne]
      simp only [if_neg hyk]
      exact h2 y ly hy
  · have hs := size_del (k := l) (h1.tidy ow_law)
    rw [(h2 k l hl).1, hc] at hs
    cases hf : (f k).isSome <;> simp [hf] at hs ⊢ <;> omega
theorem fnd_next {P : List En} {i : Nat} {e : En} (hn : (P.map En.key).Nodup) (h : P[i]? = some e) (k : K4) : ME.fnd k (P.take (i + 1)) = if k = e.key then some e else ME.fnd k (P.take i) := by
  have hs := ME.split_at h
  rw [hs] at hn
  have hm := (ME.mid_keys hn).1
  rw [List.take_add_one, h]
  simp only [Option.toList]
  unfold ME.fnd
  rw [List.find?_append]
  by_cases hk : k = e.key
  · rw [if_pos hk, List.find?_eq_none.2 (fun x hx => by simpa [hk] using hm x hx)]
    simp [hk]
  · rw [if_neg hk]
    have hk' : ¬ e.key = k := fun x => hk x.symm
    simp [hk']
/-- A memory beside whose blocks something is written. -/
theorem MS.kept {S F : Nat → Prop} {W w : World} {M mb root : Nat} {bu : Int} {P : List En} {k : Nat} (h : MS W M mb root bu P k F) (hf : FrS S W w) (hd : ∀ b, F b → ¬ S b) : MS w M mb root bu P k F := by
  obtain ⟨⟨L, n, h1, h2, ⟨⟨a1, a2, a3, a4, a5⟩, fM, fL, lt⟩⟩, o, l⟩ := h
  exact ⟨⟨L, n, h1, h2, ⟨⟨a1.kept hf (hd _ fM), a2.kept hf (hd _ a5) (fun b hb => hd b (fL b hb)), a3.same (hf.block mb (lt _ a4) (hd _ a4)), a4, a5⟩, fM, fL, fun b hb => Nat.lt_of_lt_of_le (lt b hb) hf.size⟩⟩, o, l⟩
/-- A key stored into a block that is there. -/
theorem set4 {w : World} {X : Nat} {u0 u1 u2 u3 : Value} {T : TypeId} (h : w.heap[X]? = some (.cells #[u0, u1, u2, u3] T (0, 0))) (a b c d : Value) :
    ∃ V, (((w.setCell ⟨X, 0, none⟩ a).setCell ⟨X, 1, none⟩ b).setCell ⟨X, 2, none⟩ c).setCell ⟨X, 3, none⟩ d = V ∧ V.heap[X]? = some (.cells #[a, b, c, d] T (0, 0)) ∧ ∀ U : World, Below U.heap.size U w → U.heap.size ≤ X → Below U.heap.size U V := by
  refine ⟨_, rfl, ?_, fun U hb hN => ?_⟩
  · exact heap_setCell_same _ X 3 _ T d (heap_setCell_same _ X 2 _ T c (heap_setCell_same _ X 1 _ T b (heap_setCell_same w X 0 _ T a h)))
  · exact bset (bset (bset (bset hb hN _) hN _) hN _) hN _
end Go.Proofs.Ytmnajongifdajaa
