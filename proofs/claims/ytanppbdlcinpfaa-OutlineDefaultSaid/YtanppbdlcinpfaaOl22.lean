/- Points, anchors and moves compared. No conditions. -/
import Derived.Test.YtanppbdlcinpfaaAx31
import Derived.Test.YtanppbdlcinpfaaOl5
import Derived.Deep.RegionHeld3
set_option linter.unusedSimpArgs false
set_option linter.unusedVariables false
namespace Go.Proofs.Ytanppbdlcinpfaa
set_option maxRecDepth 100000
set_option linter.unusedVariables false
open Go.RowKit Go.Deep
theorem eq_ac (w : World) (p q : Ac) : (binOp .eql 30 (.agg #[.int .i64 p.c, .int .i64 p.x, .int .i64 p.y]) (.agg #[.int .i64 q.c, .int .i64 q.x, .int .i64 q.y])).run Try.prog w = .ok (.bool (decide (p = q))) w := by
  obtain ⟨a0, a1, a2⟩ := p
  obtain ⟨b0, b1, b2⟩ := q
  have hd : decide ((⟨a0, a1, a2⟩ : Ac) = ⟨b0, b1, b2⟩) = (a0 == b0 && a1 == b1 && a2 == b2) := by
    rw [Bool.eq_iff_iff]
    simp [and_assoc]
  rw [hd]
  have p0 : ∀ (a : Int) (b : Int) (c : Int), (part 3 #[.int .i64 a, .int .i64 b, .int .i64 c] 0).run Try.prog w = .ok (.int .i64 a) w := fun a b c => by simp [part, isAgg, run_underlying Try.underlying3]
  have p1 : ∀ (a : Int) (b : Int) (c : Int), (part 3 #[.int .i64 a, .int .i64 b, .int .i64 c] 1).run Try.prog w = .ok (.int .i64 b) w := fun a b c => by simp [part, isAgg, run_underlying Try.underlying3]
  have p2 : ∀ (a : Int) (b : Int) (c : Int), (part 3 #[.int .i64 a, .int .i64 b, .int .i64 c] 2).run Try.prog w = .ok (.int .i64 c) w := fun a b c => by simp [part, isAgg, run_underlying Try.underlying3]
  have pe : ∀ a b : Int, (Op.equalIn 9999 3 (.int .i64 a) (.int .i64 b)).run Try.prog w = .ok (a == b) w := fun a b => run_equalIn_int w 9998 3 .i64 .i64 _ _ Try.underlying3
  dsimp only
  rw [run_eql_struct, Op.equalIn]
  simp only [Sem.run_bind, run_underlying Try.underlying30, Result.andThen_ok]
  cases h0 : (a0 == b0) <;> cases h1 : (a1 == b1) <;> cases h2 : (a2 == b2) <;> simp [p0, p1, p2, pe, h0, h1, h2]
theorem neq_ac (w : World) (p q : Ac) : (binOp .neq 30 (.agg #[.int .i64 p.c, .int .i64 p.x, .int .i64 p.y]) (.agg #[.int .i64 q.c, .int .i64 q.x, .int .i64 q.y])).run Try.prog w = .ok (.bool (!decide (p = q))) w := by
  have h := eq_ac w p q
  rw [run_eql_struct] at h
  rw [run_neq_struct]
  generalize (Op.equalIn 10000 30 (.agg #[.int .i64 p.c, .int .i64 p.x, .int .i64 p.y]) (.agg #[.int .i64 q.c, .int .i64 q.x, .int .i64 q.y])).run Try.prog w = r at h ⊢
  cases r with
  | ok b w' =>
    simp at h ⊢
    obtain ⟨h1, h2⟩ := h
    exact ⟨by rw [h1], h2⟩
  | halt x w' => simp at h
theorem eq_pt (w : World) (p q : Pt) : (binOp .eql 81 (.agg #[.int .i64 p.x, .int .i64 p.y, .bool p.on]) (.agg #[.int .i64 q.x, .int .i64 q.y, .bool q.on])).run Try.prog w = .ok (.bool (decide (p = q))) w := by
  obtain ⟨a0, a1, a2⟩ := p
  obtain ⟨b0, b1, b2⟩ := q
  have hd : decide ((⟨a0, a1, a2⟩ : Pt) = ⟨b0, b1, b2⟩) = (a0 == b0 && a1 == b1 && a2 == b2) := by
    rw [Bool.eq_iff_iff]
    simp [and_assoc]
  rw [hd]
  have p0 : ∀ (a : Int) (b : Int) (c : Bool), (part 3 #[.int .i64 a, .int .i64 b, .bool c] 0).run Try.prog w = .ok (.int .i64 a) w := fun a b c => by simp [part, isAgg, run_underlying Try.underlying3]
  have p1 : ∀ (a : Int) (b : Int) (c : Bool), (part 3 #[.int .i64 a, .int .i64 b, .bool c] 1).run Try.prog w = .ok (.int .i64 b) w := fun a b c => by simp [part, isAgg, run_underlying Try.underlying3]
  have p2 : ∀ (a : Int) (b : Int) (c : Bool), (part 4 #[.int .i64 a, .int .i64 b, .bool c] 2).run Try.prog w = .ok (.bool c) w := fun a b c => by simp [part, isAgg, run_underlying Try.underlying4]
  have pe : ∀ a b : Int, (Op.equalIn 9999 3 (.int .i64 a) (.int .i64 b)).run Try.prog w = .ok (a == b) w := fun a b => run_equalIn_int w 9998 3 .i64 .i64 _ _ Try.underlying3
  have pb : ∀ a b : Bool, (Op.equalIn 9999 4 (.bool a) (.bool b)).run Try.prog w = .ok (a == b) w := fun a b => run_equalIn_bool w 9998 4 a b Try.underlying4
  dsimp only
  rw [run_eql_struct, Op.equalIn]
  simp only [Sem.run_bind, run_underlying Try.underlying81, Result.andThen_ok]
  cases h0 : (a0 == b0) <;> cases h1 : (a1 == b1) <;> cases h2 : (a2 == b2) <;> simp [p0, p1, p2, pe, pb, h0, h1, h2]
theorem neq_pt (w : World) (p q : Pt) : (binOp .neq 81 (.agg #[.int .i64 p.x, .int .i64 p.y, .bool p.on]) (.agg #[.int .i64 q.x, .int .i64 q.y, .bool q.on])).run Try.prog w = .ok (.bool (!decide (p = q))) w := by
  have h := eq_pt w p q
  rw [run_eql_struct] at h
  rw [run_neq_struct]
  generalize (Op.equalIn 10000 81 (.agg #[.int .i64 p.x, .int .i64 p.y, .bool p.on]) (.agg #[.int .i64 q.x, .int .i64 q.y, .bool q.on])).run Try.prog w = r at h ⊢
  cases r with
  | ok b w' =>
    simp at h ⊢
    obtain ⟨h1, h2⟩ := h
    exact ⟨by rw [h1], h2⟩
  | halt x w' => simp at h
theorem neq_mv (w : World) (p q : Int × Int) : (binOp .neq 72 (.agg #[.int .i64 p.1, .int .i64 p.2]) (.agg #[.int .i64 q.1, .int .i64 q.2])).run Try.prog w = .ok (.bool (!decide (p = q))) w := by
  rw [neq_two]
  congr 3
  rw [Bool.eq_iff_iff]
  simp [Prod.ext_iff]
end Go.Proofs.Ytanppbdlcinpfaa
