/- The map of a memory: from keys to nodes. No conditions. -/
import Derived.Test.YtmnajongifdajaaMem8
import Derived.DeepKeys4
import Derived.Maps.OwnSet
import Derived.Maps.OwnOps
import Derived.Maps.Views
namespace Go.Proofs.Ytmnajongifdajaa
set_option maxRecDepth 100000
set_option linter.unusedVariables false
open Go.RowKit Go.Maps
abbrev K4 := Int × Int × Int × Int
def i64ok (a : Int) : Prop := -9223372036854775808 ≤ a ∧ a ≤ 9223372036854775807
def K4ok (k : K4) : Prop := i64ok k.1 ∧ i64ok k.2.1 ∧ i64ok k.2.2.1 ∧ i64ok k.2.2.2
theorem wf_of {a : Int} (h : i64ok a) : (Lit.int .i64 a).wf = true := by
  have hmin : IntKind.i64.min = -9223372036854775808 := rfl
  have hmax : IntKind.i64.max = 9223372036854775807 := rfl
  unfold i64ok at h
  simp only [Lit.wf, Bool.and_eq_true, decide_eq_true_eq]; omega
theorem ow_row : (34 : TypeId) < Try.prog.types.size := of_decide_eq_true (by kernel_rfl)
theorem ow_wide : (match Try.prog.underlying 34 with | some (.array _ _) | some (.struct _) => true | _ => false) = true := by rw [Try.underlying34]
theorem ow_law : Keyed Try.prog 34 := Keyed.of_law (deep_law_laid laidOut (m := 3) (by omega) ow_row (by kernel_rfl) ow_wide)
theorem ow_kt : Try.prog.keyType 34 = true := by kernel_rfl
theorem ow_cells : Try.prog.cellsOf 34 = 4 := by kernel_rfl
theorem ky_cells : Try.prog.cellsOf 32 = 3 := by kernel_rfl
theorem in_cells : Try.prog.cellsOf 3 = 1 := by kernel_rfl
theorem ow_big : 2 < Try.prog.types.size := of_decide_eq_true (by kernel_rfl)
theorem ow_size : ∃ n, Try.prog.types.size + 1 = n + 3 := ⟨Try.prog.types.size - 2, by have := ow_big; omega⟩
theorem ow_key (k : K4) (h : K4ok k) : ∃ l, keyOf Try.prog 34 (kyV k) = some l := by
  obtain ⟨a, b, c, d⟩ := k
  obtain ⟨ha, hb, hc, hd⟩ := h
  have wa := wf_of ha
  have wb := wf_of hb
  have wc := wf_of hc
  have wd := wf_of hd
  obtain ⟨n, hn⟩ := ow_size
  simp only at wa wb wc wd
  refine ⟨.string (keyBytes [.int .i64 a, .int .i64 b, .int .i64 c, .int .i64 d]), ?_⟩
  unfold keyOf
  rw [Try.underlying34]
  simp only [ow_kt, Value.formed, Try.underlying34, ow_cells, Value.cells, hn]
  simp [Program.keyLits, Try.underlying34, Try.underlying32, Try.underlying3, ow_cells, ky_cells, in_cells, wa, wb, wc, wd]
  rw [if_pos (by intro i hi; match i, hi with | 0, _ => simp | 1, _ => simp | 2, _ => simp)]
  rfl
/-- How a node's pointer reads. -/
def RP (v : Value) : Option (DataW Unit × List MemPlace) := match v with
  | .pointer none => some (.lit (.bool false), [])
  | .pointer (some ⟨b, 0, none⟩) => some (.lit (.int .i64 (b : Nat)), [])
  | _ => none
theorem RP_ptr {v : Value} {b : Nat} {ps : List MemPlace} (h : RP v = some (.lit (.int .i64 (b : Nat)), ps)) : v = ptr b := by
  unfold RP at h
  split at h
  · simp at h
  · simp only [Option.some.injEq, Prod.mk.injEq] at h
    have h1 := h.1
    injection h1 with h1
    injection h1 with _ h1
    rw [Int.ofNat.inj h1]
  · cases h
theorem RP_nil {v : Value} {ps : List MemPlace} (h : RP v = some (.lit (.bool false), ps)) : v = .pointer none := by
  unfold RP at h
  split at h
  · rfl
  · simp only [Option.some.injEq, Prod.mk.injEq] at h
    have h1 := h.1
    injection h1 with h1
    cases h1
  · cases h
def zf : DataW Unit := .lit (.bool false)
def En.key (e : En) : K4 := (e.f, e.k, e.n, e.r)
/-- The node of a key. -/
def look (L : List (Nat × En)) (k : K4) : Option Nat := (L.find? fun x => decide (x.2.key = k)).map Prod.fst
def optP (o : Option Nat) : Value := match o with | none => .pointer none | some b => ptr b
def optD (o : Option Nat) : DataW Unit := match o with | none => zf | some b => .lit (.int .i64 (b : Nat))
theorem RP_opt {v : Value} {o : Option Nat} {ps : List MemPlace} (h : RP v = some (optD o, ps)) : v = optP o := by
  cases o with
  | none => exact RP_nil h
  | some b => exact RP_ptr h
/-- The map in block mb leads from the keys of L to their nodes. -/
def OM (W : World) (mb n : Nat) (f : K4 → Option Nat) : Prop := ∃ D : DataW Unit, W.ownsMap Try.prog 34 RP mb n D ∧ ∀ k l, keyOf Try.prog 34 (kyV k) = some l → D.atKey l zf = optD (f k)
theorem OM.out {W : World} {mb n : Nat} {f : K4 → Option Nat} (h : OM W mb n f) : ∃ D : DataW Unit, W.ownsMap Try.prog 34 RP mb n D ∧ ∀ k l, keyOf Try.prog 34 (kyV k) = some l → D.atKey l zf = optD (f k) := h
theorem OM.lt {W : World} {mb n : Nat} {f : K4 → Option Nat} (h : OM W mb n f) : mb < W.heap.size := by obtain ⟨D, h1, _⟩ := h.out; exact h1.lt
theorem OM.same {W W' : World} {mb n : Nat} {f : K4 → Option Nat} (h : OM W mb n f) (hb : W'.heap[mb]? = W.heap[mb]?) : OM W' mb n f := by
  obtain ⟨D, ⟨es, cl, h1, h2⟩, h3⟩ := h.out
  exact ⟨D, ⟨es, cl, hb.trans h1, h2⟩, h3⟩
theorem OM.made (W : World) : OM (W.alloc (.map #[] 0)) W.heap.size 0 (fun _ => none) := ⟨.map [], World.ownsMap_made _ _ _ _, fun k l _ => rfl⟩
theorem ow_under : Try.prog.underlying 62 = some (.map 34 63) := Try.underlying62
theorem ow_zero (W : World) : (zeroValue 63).run Try.prog W = .ok (.pointer none) W := by kernel_rfl
theorem OM.look {W : World} {mb n : Nat} {f : K4 → Option Nat} (h : OM W mb n f) (k : K4) (hk : K4ok k) :
    (Instr.lookup 62 (.map (some mb)) (kyV k) false).run Try.prog W = .ok (optP (f k)) W := by
  obtain ⟨D, h1, h2⟩ := h.out
  obtain ⟨l, hl⟩ := ow_key k hk
  obtain ⟨v, ps, hr, hv⟩ := h1.lookup ow_law ow_under (ow_zero W) (zd := zf) (zp := []) rfl hl
  rw [h2 k l hl] at hv
  rw [hr, RP_opt hv]
theorem key_inj {a b : K4} {l : Lit} (ha : keyOf Try.prog 34 (kyV a) = some l) (hb : keyOf Try.prog 34 (kyV b) = some l) : a = b := by
  have h := ow_law.inj ha hb
  obtain ⟨a1, a2, a3, a4⟩ := a
  obtain ⟨b1, b2, b3, b4⟩ := b
  simpa [kyV] using h
theorem OM.put {W : World} {mb n : Nat} {f : K4 → Option Nat} (h : OM W mb n f) (k : K4) (hk : K4ok k) (hn : n < 1000000000) (b : Nat) :
    ∃ W', (Instr.mapUpdate 62 (.map (some mb)) (kyV k) (ptr b)).run Try.prog W = .ok () W' ∧ OM W' mb (n + 1) (fun x => if x = k then some b else f x) ∧ W.mapTurned W' mb := by
  obtain ⟨D, h1, h2⟩ := h.out
  obtain ⟨l, hl⟩ := ow_key k hk
  obtain ⟨W', hr, h3, h4⟩ := h1.store ow_law ow_under (by unfold maxLen; omega) (val := ptr b) (d := .lit (.int .i64 (b : Nat))) (ps := []) hl rfl
  refine ⟨W', hr, ⟨_, h3, fun x lx hx => ?_⟩, h4⟩
  by_cases hxk : x = k
  · subst hxk
    rw [hl] at hx
    cases hx
    show _ = optD (if x = x then some b else f x)
    rw [if_pos rfl, atKey_put_same h1.isMap (ow_law.key hl)]
    rfl
  · show _ = optD (if x = k then some b else f x)
    have hne : lx ≠ l := fun e => hxk (key_inj (by rw [← e]; exact hx) hl)
    rw [if_neg hxk, atKey_put_other hne]
    exact h2 x lx hx
theorem OM.del {W : World} {mb n : Nat} {f : K4 → Option Nat} (h : OM W mb n f) (k : K4) (hk : K4ok k) (ty : TypeId) :
    ∃ W', (Builtin.delete_ #[62, 34] ty #[.map (some mb), kyV k]).run Try.prog W = .ok (.tuple #[]) W' ∧ OM W' mb n (fun x => if x = k then none else f x) ∧ W.mapTurned W' mb := by
  obtain ⟨D, h1, h2⟩ := h.out
  obtain ⟨l, hl⟩ := ow_key k hk
  obtain ⟨W', hr, h3, h4⟩ := h1.drop ow_law ow_under hl ty
  refine ⟨W', hr, ⟨_, h3, fun x lx hx => ?_⟩, h4⟩
  by_cases hxk : x = k
  · subst hxk
    rw [hl] at hx
    cases hx
    show _ = optD (if x = x then none else f x)
    rw [if_pos rfl, atKey_del_same]
    rfl
  · show _ = optD (if x = k then none else f x)
    have hne : lx ≠ l := fun e => hxk (key_inj (by rw [← e]; exact hx) hl)
    rw [if_neg hxk, atKey_del_other hne]
    exact h2 x lx hx
theorem FrS.turned {S : Nat → Prop} {W W' : World} {b : Nat} (h : W.mapTurned W' b) (hb : S b) : FrS S W W' := by
  have hg := h.grown
  exact ⟨hg.size, fun c h1 h2 => hg.block c h1 (fun e => h2 (by rw [Option.some.inj e]; exact hb)), fun U h1 h2 => h1.grown hg h1.size (fun r e => by rw [← Option.some.inj e]; exact h2 b hb)⟩
end Go.Proofs.Ytmnajongifdajaa
