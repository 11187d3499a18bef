/- The contract of forms.dualForms: in whatever order its entries are written, they are found. -/
import Derived.Test.YtkacbmimmnlhlaaDoorFrmDual
namespace Go.Proofs.YtkacbmimmnlhlaaDoor
set_option linter.unusedVariables false
open Go.RowKit Go.Shelf Go.Deep
/-- The form of a cluster by whether it is joined to, and joins on. -/
def dv (x y : Bool) : Int := if x then (if y then 3 else 4) else (if y then 2 else 1)
def hit (p : Bool × Bool) (es : Es) : Bool := match lk p es 0 with
  | some (_, .int .i64 c) => c == dv p.1 p.2
  | _ => false
def dualOk (es : Es) : Bool := hit (false, false) es && (hit (false, true) es && (hit (true, false) es && hit (true, true) es))
theorem hit_at {p : Bool × Bool} {es : Es} (h : hit p es = true) : ∃ i, lk p es 0 = some (i, .int .i64 (dv p.1 p.2)) := by
  unfold hit at h
  split at h
  · rename_i i c e
    exact ⟨i, by rw [e, show c = dv p.1 p.2 from by simpa using h]⟩
  · cases h
theorem dual_at {es : Es} (h : dualOk es = true) (x y : Bool) : ∃ i, lk (x, y) es 0 = some (i, .int .i64 (dv x y)) := by
  unfold dualOk at h
  simp only [Bool.and_eq_true] at h
  obtain ⟨h1, h2, h3, h4⟩ := h
  cases x <;> cases y
  · exact hit_at h1
  · exact hit_at h2
  · exact hit_at h3
  · exact hit_at h4
set_option maxRecDepth 100000 in
set_option maxHeartbeats 4000000 in
theorem dual_any (w : World) :
    Calls Tryd.prog 39 #[] w fun e w' => ∃ es, dualOk es = true ∧ e = .returned (.map (some w.heap.size)) ∧ w' = mw w.drew es := by
  have hmk : (Instr.makeMap 61 none).run Tryd.prog w.drew = .ok (.map (some w.heap.size)) (mw w.drew []) := run_makeMap _ _
  have hup : ∀ (es fs : Es) (a b : Bool) (n : Int), lk (a, b) es 0 = none → fs = es ++ [((a, b), n)] → (Instr.mapUpdate 61 (.map (some w.heap.size)) (.agg #[.bool a, .bool b]) (.int .i64 n)).run Tryd.prog (mw w.drew es) = .ok () (mw w.drew fs) := fun es fs a b n h e => by subst e; exact up_run w.drew es a b n h
  have u1 := hup [] [((false, false), 1)] false false 1 rfl rfl
  have u2 := hup [] [((false, true), 2)] false true 2 rfl rfl
  have u3 := hup [] [((true, true), 3)] true true 3 rfl rfl
  have u4 := hup [] [((true, false), 4)] true false 4 rfl rfl
  have u5 := hup [((false, false), 1)] [((false, false), 1), ((false, true), 2)] false true 2 rfl rfl
  have u6 := hup [((false, false), 1)] [((false, false), 1), ((true, true), 3)] true true 3 rfl rfl
  have u7 := hup [((false, false), 1)] [((false, false), 1), ((true, false), 4)] true false 4 rfl rfl
  have u8 := hup [((false, true), 2)] [((false, true), 2), ((false, false), 1)] false false 1 rfl rfl
  have u9 := hup [((false, true), 2)] [((false, true), 2), ((true, true), 3)] true true 3 rfl rfl
  have u10 := hup [((false, true), 2)] [((false, true), 2), ((true, false), 4)] true false 4 rfl rfl
  have u11 := hup [((true, true), 3)] [((true, true), 3), ((false, false), 1)] false false 1 rfl rfl
  have u12 := hup [((true, true), 3)] [((true, true), 3), ((false, true), 2)] false true 2 rfl rfl
  have u13 := hup [((true, true), 3)] [((true, true), 3), ((true, false), 4)] true false 4 rfl rfl
  have u14 := hup [((true, false), 4)] [((true, false), 4), ((false, false), 1)] false false 1 rfl rfl
  have u15 := hup [((true, false), 4)] [((true, false), 4), ((false, true), 2)] false true 2 rfl rfl
  have u16 := hup [((true, false), 4)] [((true, false), 4), ((true, true), 3)] true true 3 rfl rfl
  have u17 := hup [((false, false), 1), ((false, true), 2)] [((false, false), 1), ((false, true), 2), ((true, true), 3)] true true 3 rfl rfl
  have u18 := hup [((false, false), 1), ((false, true), 2)] [((false, false), 1), ((false, true), 2), ((true, false), 4)] true false 4 rfl rfl
  have u19 := hup [((false, false), 1), ((true, true), 3)] [((false, false), 1), ((true, true), 3), ((false, true), 2)] false true 2 rfl rfl
  have u20 := hup [((false, false), 1), ((true, true), 3)] [((false, false), 1), ((true, true), 3), ((true, false), 4)] true false 4 rfl rfl
  have u21 := hup [((false, false), 1), ((true, false), 4)] [((false, false), 1), ((true, false), 4), ((false, true), 2)] false true 2 rfl rfl
  have u22 := hup [((false, false), 1), ((true, false), 4)] [((false, false), 1), ((true, false), 4), ((true, true), 3)] true true 3 rfl rfl
  have u23 := hup [((false, true), 2), ((false, false), 1)] [((false, true), 2), ((false, false), 1), ((true, true), 3)] true true 3 rfl rfl
  have u24 := hup [((false, true), 2), ((false, false), 1)] [((false, true), 2), ((false, false), 1), ((true, false), 4)] true false 4 rfl rfl
  have u25 := hup [((false, true), 2), ((true, true), 3)] [((false, true), 2), ((true, true), 3), ((false, false), 1)] false false 1 rfl rfl
  have u26 := hup [((false, true), 2), ((true, true), 3)] [((false, true), 2), ((true, true), 3), ((true, false), 4)] true false 4 rfl rfl
  have u27 := hup [((false, true), 2), ((true, false), 4)] [((false, true), 2), ((true, false), 4), ((false, false), 1)] false false 1 rfl rfl
  have u28 := hup [((false, true), 2), ((true, false), 4)] [((false, true), 2), ((true, false), 4), ((true, true), 3)] true true 3 rfl rfl
  have u29 := hup [((true, true), 3), ((false, false), 1)] [((true, true), 3), ((false, false), 1), ((false, true), 2)] false true 2 rfl rfl
  have u30 := hup [((true, true), 3), ((false, false), 1)] [((true, true), 3), ((false, false), 1), ((true, false), 4)] true false 4 rfl rfl
  have u31 := hup [((true, true), 3), ((false, true), 2)] [((true, true), 3), ((false, true), 2), ((false, false), 1)] false false 1 rfl rfl
  have u32 := hup [((true, true), 3), ((false, true), 2)] [((true, true), 3), ((false, true), 2), ((true, false), 4)] true false 4 rfl rfl
  have u33 := hup [((true, true), 3), ((true, false), 4)] [((true, true), 3), ((true, false), 4), ((false, false), 1)] false false 1 rfl rfl
  have u34 := hup [((true, true), 3), ((true, false), 4)] [((true, true), 3), ((true, false), 4), ((false, true), 2)] false true 2 rfl rfl
  have u35 := hup [((true, false), 4), ((false, false), 1)] [((true, false), 4), ((false, false), 1), ((false, true), 2)] false true 2 rfl rfl
  have u36 := hup [((true, false), 4), ((false, false), 1)] [((true, false), 4), ((false, false), 1), ((true, true), 3)] true true 3 rfl rfl
  have u37 := hup [((true, false), 4), ((false, true), 2)] [((true, false), 4), ((false, true), 2), ((false, false), 1)] false false 1 rfl rfl
  have u38 := hup [((true, false), 4), ((false, true), 2)] [((true, false), 4), ((false, true), 2), ((true, true), 3)] true true 3 rfl rfl
  have u39 := hup [((true, false), 4), ((true, true), 3)] [((true, false), 4), ((true, true), 3), ((false, false), 1)] false false 1 rfl rfl
  have u40 := hup [((true, false), 4), ((true, true), 3)] [((true, false), 4), ((true, true), 3), ((false, true), 2)] false true 2 rfl rfl
  have u41 := hup [((false, false), 1), ((false, true), 2), ((true, true), 3)] [((false, false), 1), ((false, true), 2), ((true, true), 3), ((true, false), 4)] true false 4 rfl rfl
  have u42 := hup [((false, false), 1), ((false, true), 2), ((true, false), 4)] [((false, false), 1), ((false, true), 2), ((true, false), 4), ((true, true), 3)] true true 3 rfl rfl
  have u43 := hup [((false, false), 1), ((true, true), 3), ((false, true), 2)] [((false, false), 1), ((true, true), 3), ((false, true), 2), ((true, false), 4)] true false 4 rfl rfl
  have u44 := hup [((false, false), 1), ((true, true), 3), ((true, false), 4)] [((false, false), 1), ((true, true), 3), ((true, false), 4), ((false, true), 2)] false true 2 rfl rfl
  have u45 := hup [((false, false), 1), ((true, false), 4), ((false, true), 2)] [((false, false), 1), ((true, false), 4), ((false, true), 2), ((true, true), 3)] true true 3 rfl rfl
  have u46 := hup [((false, false), 1), ((true, false), 4), ((true, true), 3)] [((false, false), 1), ((true, false), 4), ((true, true), 3), ((false, true), 2)] false true 2 rfl rfl
  have u47 := hup [((false, true), 2), ((false, false), 1), ((true, true), 3)] [((false, true), 2), ((false, false), 1), ((true, true), 3), ((true, false), 4)] true false 4 rfl rfl
  have u48 := hup [((false, true), 2), ((false, false), 1), ((true, false), 4)] [((false, true), 2), ((false, false), 1), ((true, false), 4), ((true, true), 3)] true true 3 rfl rfl
  have u49 := hup [((false, true), 2), ((true, true), 3), ((false, false), 1)] [((false, true), 2), ((true, true), 3), ((false, false), 1), ((true, false), 4)] true false 4 rfl rfl
  have u50 := hup [((false, true), 2), ((true, true), 3), ((true, false), 4)] [((false, true), 2), ((true, true), 3), ((true, false), 4), ((false, false), 1)] false false 1 rfl rfl
  have u51 := hup [((false, true), 2), ((true, false), 4), ((false, false), 1)] [((false, true), 2), ((true, false), 4), ((false, false), 1), ((true, true), 3)] true true 3 rfl rfl
  have u52 := hup [((false, true), 2), ((true, false), 4), ((true, true), 3)] [((false, true), 2), ((true, false), 4), ((true, true), 3), ((false, false), 1)] false false 1 rfl rfl
  have u53 := hup [((true, true), 3), ((false, false), 1), ((false, true), 2)] [((true, true), 3), ((false, false), 1), ((false, true), 2), ((true, false), 4)] true false 4 rfl rfl
  have u54 := hup [((true, true), 3), ((false, false), 1), ((true, false), 4)] [((true, true), 3), ((false, false), 1), ((true, false), 4), ((false, true), 2)] false true 2 rfl rfl
  have u55 := hup [((true, true), 3), ((false, true), 2), ((false, false), 1)] [((true, true), 3), ((false, true), 2), ((false, false), 1), ((true, false), 4)] true false 4 rfl rfl
  have u56 := hup [((true, true), 3), ((false, true), 2), ((true, false), 4)] [((true, true), 3), ((false, true), 2), ((true, false), 4), ((false, false), 1)] false false 1 rfl rfl
  have u57 := hup [((true, true), 3), ((true, false), 4), ((false, false), 1)] [((true, true), 3), ((true, false), 4), ((false, false), 1), ((false, true), 2)] false true 2 rfl rfl
  have u58 := hup [((true, true), 3), ((true, false), 4), ((false, true), 2)] [((true, true), 3), ((true, false), 4), ((false, true), 2), ((false, false), 1)] false false 1 rfl rfl
  have u59 := hup [((true, false), 4), ((false, false), 1), ((false, true), 2)] [((true, false), 4), ((false, false), 1), ((false, true), 2), ((true, true), 3)] true true 3 rfl rfl
  have u60 := hup [((true, false), 4), ((false, false), 1), ((true, true), 3)] [((true, false), 4), ((false, false), 1), ((true, true), 3), ((false, true), 2)] false true 2 rfl rfl
  have u61 := hup [((true, false), 4), ((false, true), 2), ((false, false), 1)] [((true, false), 4), ((false, true), 2), ((false, false), 1), ((true, true), 3)] true true 3 rfl rfl
  have u62 := hup [((true, false), 4), ((false, true), 2), ((true, true), 3)] [((true, false), 4), ((false, true), 2), ((true, true), 3), ((false, false), 1)] false false 1 rfl rfl
  have u63 := hup [((true, false), 4), ((true, true), 3), ((false, false), 1)] [((true, false), 4), ((true, true), 3), ((false, false), 1), ((false, true), 2)] false true 2 rfl rfl
  have u64 := hup [((true, false), 4), ((true, true), 3), ((false, true), 2)] [((true, false), 4), ((true, true), 3), ((false, true), 2), ((false, false), 1)] false false 1 rfl rfl
  clear hup
  go_enter Tryd.func39, Tryd.ntmps39
  go_wp2_with fail
  go_region
  all_goals (go_wp2; go_ret; exact ⟨_, by rfl, rfl, rfl⟩)
end Go.Proofs.YtkacbmimmnlhlaaDoor
