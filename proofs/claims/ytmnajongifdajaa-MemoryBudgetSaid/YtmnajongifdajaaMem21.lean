/- Keys compared. No conditions. -/
import Derived.Test.YtmnajongifdajaaMem9
namespace Go.Proofs.Ytmnajongifdajaa
set_option maxRecDepth 100000
set_option linter.unusedVariables false
open Go.RowKit Go.Deep
theorem eq_ky (d : Nat) (w : World) (b c e b' c' e' : Int) : (Op.equalIn (d + 2) 32 (.agg #[.int .i64 b, .int .i64 c, .int .i64 e]) (.agg #[.int .i64 b', .int .i64 c', .int .i64 e'])).run Try.prog w = .ok (b == b' && c == c' && e == e') w := by
  have p0 : ∀ a b c : Int, (part 3 #[.int .i64 a, .int .i64 b, .int .i64 c] 0).run Try.prog w = .ok (.int .i64 a) w := fun a b c => by simp [part, isAgg, run_underlying Try.underlying3]
  have p1 : ∀ a b c : Int, (part 3 #[.int .i64 a, .int .i64 b, .int .i64 c] 1).run Try.prog w = .ok (.int .i64 b) w := fun a b c => by simp [part, isAgg, run_underlying Try.underlying3]
  have p2 : ∀ a b c : Int, (part 3 #[.int .i64 a, .int .i64 b, .int .i64 c] 2).run Try.prog w = .ok (.int .i64 c) w := fun a b c => by simp [part, isAgg, run_underlying Try.underlying3]
  have pe : ∀ a b : Int, (Op.equalIn (d + 1) 3 (.int .i64 a) (.int .i64 b)).run Try.prog w = .ok (a == b) w := fun a b => run_equalIn_int w d 3 .i64 .i64 _ _ Try.underlying3
  rw [Op.equalIn]
  simp only [Sem.run_bind, run_underlying Try.underlying32, Result.andThen_ok]
  cases hx : (b == b') <;> cases hy : (c == c') <;> cases hz : (e == e') <;> simp [p1, p2, pe, hx, hy, hz, p0]
theorem eq_ow (w : World) (a b : K4) : (binOp .eql 34 (kyV a) (kyV b)).run Try.prog w = .ok (.bool (decide (a = b))) w := by
  obtain ⟨a1, a2, a3, a4⟩ := a
  obtain ⟨b1, b2, b3, b4⟩ := b
  have hd : decide ((a1, a2, a3, a4) = (b1, b2, b3, b4)) = (a1 == b1 && (a2 == b2 && a3 == b3 && a4 == b4)) := by
    rw [Bool.eq_iff_iff]
    simp [and_assoc]
  rw [hd]
  have p0 : ∀ a b c d : Int, (part 3 #[.int .i64 a, .int .i64 b, .int .i64 c, .int .i64 d] 0).run Try.prog w = .ok (.int .i64 a) w := fun a b c d => by simp [part, isAgg, run_underlying Try.underlying3]
  have p1 : ∀ a b c d : Int, (part 32 #[.int .i64 a, .int .i64 b, .int .i64 c, .int .i64 d] 1).run Try.prog w = .ok (.agg #[.int .i64 b, .int .i64 c, .int .i64 d]) w := fun a b c d => by
    have hs : (sizeOf 32).run Try.prog w = .ok 3 w := by kernel_rfl
    simp [part, isAgg, run_underlying Try.underlying32, hs]
  have pe : ∀ a b : Int, (Op.equalIn 9999 3 (.int .i64 a) (.int .i64 b)).run Try.prog w = .ok (a == b) w := fun a b => run_equalIn_int w 9998 3 .i64 .i64 _ _ Try.underlying3
  have pk : ∀ b c e b' c' e' : Int, (Op.equalIn 9999 32 (.agg #[.int .i64 b, .int .i64 c, .int .i64 e]) (.agg #[.int .i64 b', .int .i64 c', .int .i64 e'])).run Try.prog w = .ok (b == b' && c == c' && e == e') w := fun _ _ _ _ _ _ => eq_ky 9997 w _ _ _ _ _ _
  simp only [kyV]
  rw [run_eql_struct, Op.equalIn]
  simp only [Sem.run_bind, run_underlying Try.underlying34, Result.andThen_ok]
  obtain ⟨z, hz⟩ : ∃ z, (a2 == b2 && a3 == b3 && a4 == b4) = z := ⟨_, rfl⟩
  have pk' := pk a2 a3 a4 b2 b3 b4
  rw [hz] at pk' ⊢
  cases hx : (a1 == b1) <;> cases z <;> simp [p1, pe, hx, pk', p0]
theorem neq_ow (w : World) (a b : K4) : (binOp .neq 34 (kyV a) (kyV b)).run Try.prog w = .ok (.bool (!decide (a = b))) w := by
  have h := eq_ow w a b
  simp only [kyV] at h ⊢
  rw [run_eql_struct] at h
  rw [run_neq_struct]
  generalize (Op.equalIn 10000 34 (.agg #[.int .i64 a.1, .int .i64 a.2.1, .int .i64 a.2.2.1, .int .i64 a.2.2.2]) (.agg #[.int .i64 b.1, .int .i64 b.2.1, .int .i64 b.2.2.1, .int .i64 b.2.2.2])).run Try.prog w = r at h ⊢
  cases r with
  | ok b w' =>
    simp at h ⊢
    obtain ⟨h1, h2⟩ := h
    exact ⟨by rw [h1], h2⟩
  | halt x w' => simp at h
end Go.Proofs.Ytmnajongifdajaa
