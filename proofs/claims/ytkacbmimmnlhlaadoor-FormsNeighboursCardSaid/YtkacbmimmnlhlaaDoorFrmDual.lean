/- The contract of forms.dualForms: in whatever order its entries are written, they are found. -/
import Derived.Test.YtkacbmimmnlhlaaDoorFrmOn
import Derived.MapFrom
import Derived.Carry
namespace Go.Proofs.YtkacbmimmnlhlaaDoor
set_option linter.unusedVariables false
open Go.RowKit Go.Shelf Go.Deep Go.MapKept
abbrev kv (p : Bool × Bool) : Value := .agg #[.bool p.1, .bool p.2]
theorem eq_run (p q : Bool × Bool) (V : World) : (Op.equal 63 (kv p) (kv q)).run Tryd.prog V = .ok (p == q) V := by
  obtain ⟨a, b⟩ := p
  obtain ⟨c, d⟩ := q
  cases a <;> cases b <;> cases c <;> cases d <;> kernel_rfl
theorem chk_run (e : Bool) (p : Bool × Bool) (V : World) : (Instr.checkKey e 10000 63 (kv p)).run Tryd.prog V = .ok () V := by
  obtain ⟨a, b⟩ := p
  cases e <;> cases a <;> cases b <;> kernel_rfl
abbrev Es := List ((Bool × Bool) × Int)
def en1 (e : (Bool × Bool) × Int) (i : Nat) : MapEntry := { key := kv e.1, val := .int .i64 e.2, born := i }
def ents (es : Es) : Array MapEntry := (es.zipIdx.map fun q => en1 q.1 q.2).toArray
theorem ents_snoc (es : Es) (e : (Bool × Bool) × Int) : ents (es ++ [e]) = (ents es).push (en1 e es.length) := by
  unfold ents
  rw [List.zipIdx_append, List.map_append]
  simp
def lk (p : Bool × Bool) : Es → Nat → Option (Nat × Value)
  | [], _ => none
  | e :: es, i => if p == e.1 then some (i, .int .i64 e.2) else lk p es (i + 1)
theorem ask_run (p : Bool × Bool) (V : World) : ∀ (es : Es) (j i : Nat), (Instr.findAsking 63 (kv p) ((es.zipIdx j).map fun q => en1 q.1 q.2) i).run Tryd.prog V = .ok (lk p es i) V
  | [], j, i => rfl
  | e :: es, j, i => by
    rw [List.zipIdx_cons, List.map_cons, Instr.findAsking, Sem.run_bind, show (en1 e j).key = kv e.1 from rfl, eq_run]
    simp only [Result.andThen]
    rw [lk]
    by_cases h : (p == e.1) = true
    · rw [if_pos h, if_pos h]; rfl
    · rw [if_neg h, if_neg h]; exact ask_run p V es (j + 1) (i + 1)
theorem key_run (p : Bool × Bool) (V : World) (es : Es) : (Instr.findKey 63 (kv p) (ents es).toList).run Tryd.prog V = .ok (lk p es 0) V := by
  unfold Instr.findKey
  rw [Sem.run_bind, run_underlying Tryd.underlying63]
  simp only [Result.andThen]
  cases es with
  | nil => rfl
  | cons e es => exact ask_run p V (e :: es) 0 0
theorem push_set (h : Array Obj) (x y : Obj) : (h.push x).setIfInBounds h.size y = h.push y := by
  apply Array.ext_getElem?
  intro i
  rw [Array.getElem?_setIfInBounds, Array.getElem?_push, Array.getElem?_push]
  by_cases e : h.size = i
  · subst e; simp
  · rw [if_neg e, if_neg (fun h => e h.symm), if_neg (fun h => e h.symm)]
/-- The world with such a map behind it. -/
def mw (w : World) (es : Es) : World := w.alloc (.map (ents es) es.length)
theorem mw_heap (w : World) (es : Es) : (mw w es).heap[w.heap.size]? = some (.map (ents es) es.length) := World.alloc_heap_new w _
theorem up_run (w : World) (es : Es) (a b : Bool) (n : Int) (h : lk (a, b) es 0 = none) :
    (Instr.mapUpdate 61 (.map (some w.heap.size)) (.agg #[.bool a, .bool b]) (.int .i64 n)).run Tryd.prog (mw w es) = .ok () (mw w (es ++ [((a, b), n)])) := by
  have hk := key_run (a, b) (mw w es) es
  rw [h] at hk
  have hc := chk_run false (a, b) (mw w es)
  have hs : mw w (es ++ [((a, b), n)]) = { mw w es with heap := (mw w es).heap.setIfInBounds w.heap.size (.map ((ents es).push (en1 ((a, b), n) es.length)) (es.length + 1)) } := by
    unfold mw
    rw [ents_snoc, List.length_append]
    show ({ w with heap := _ } : World) = { w with heap := _ }
    congr 1
    exact (push_set _ _ _).symm
  rw [hs]
  simp [Instr.mapUpdate, run_underlying Tryd.underlying61, Go.MapKept.run_getObj_map (mw_heap w es), hc, hk, Go.MapKept.run_setObj_map _ (mw_heap w es), Result.andThen]
  rfl
theorem lk_run (V : World) (b n : Nat) (es : Es) (hb : V.heap[b]? = some (.map (ents es) n)) (x y : Bool) (c : Int) (h : ∃ i, lk (x, y) es 0 = some (i, .int .i64 c)) :
    (Instr.lookup 61 (.map (some b)) (.agg #[.bool x, .bool y]) false).run Tryd.prog V = .ok (.int .i64 c) V := by
  obtain ⟨i, h⟩ := h
  have hk := key_run (x, y) V es
  rw [h] at hk
  simp [Instr.lookup, run_underlying Tryd.underlying61, Go.MapKept.run_getObj_map hb, chk_run _ (x, y) V, hk, Result.andThen]
end Go.Proofs.YtkacbmimmnlhlaaDoor
