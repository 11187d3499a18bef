/- Draw of the reference of layer 1: numbers from a list, one after the other. No conditions. -/
import Derived.Test.YtpmmincophaaiaaMod
import Derived.Test.YtpmmincophaaiaaApp
import Derived.Deep.Cut
import Derived.Maps.AppendAt
namespace Go.Proofs.Ytpmmincophaaiaa
set_option maxRecDepth 100000
set_option linter.unusedVariables false
open Go.RowKit Go.Deep
/-- The next number, and the place behind it. -/
def nx (L : List Int) (a : Nat) (n : Int) : Int × Nat := if L.length ≤ a then (0, a) else (L.getD a 0 % n, a + 1)
theorem nx_bd (L : List Int) (a : Nat) {n : Int} (hn : 1 ≤ n) (ha : a ≤ L.length) : 0 ≤ (nx L a n).1 ∧ (nx L a n).1 < n ∧ (nx L a n).2 ≤ L.length := by
  unfold nx
  by_cases h : L.length ≤ a
  · rw [if_pos h]
    exact ⟨Int.le_refl _, by simp only; omega, ha⟩
  · rw [if_neg h]
    exact ⟨Int.emod_nonneg _ (by omega), Int.emod_lt_of_pos _ (by omega), by simp only; omega⟩
/-- A Draw in a block of its own. -/
def DwB (W : World) (B : Nat) (v : Value) (a : Nat) : Prop := W.heap[B]? = some (.cells #[v, .int .i64 (a : Int)] 48 (0, 0))
theorem DwB.lt {W : World} {B : Nat} {v : Value} {a : Nat} (h : DwB W B v a) : B < W.heap.size := (Array.getElem?_eq_some_iff.1 h).1
theorem DwB.keep {W W' : World} {B : Nat} {v : Value} {a : Nat} (h : DwB W B v a) (hb : Below W.heap.size W W') : DwB W' B v a := (hb.block B h.lt).trans h
/-- The numbers of a Draw lie below a block. -/
def DwRow (W : World) (B : Nat) (la : Option Addr) (L : List Int) : Prop := L = [] ∨ ∃ g o, la = some ⟨g, o, none⟩ ∧ g < B ∧ g < W.heap.size ∧ ∀ i, i < L.length → W.cell? ⟨g, o + i, none⟩ = some (.int .i64 (L.getD i 0))
theorem DwRow.keep {W W' : World} {B : Nat} {la : Option Addr} {L : List Int} (h : DwRow W B la L) (hb : Below W.heap.size W W') : DwRow W' B la L := by
  rcases h with h | ⟨g, o, e, h1, h2, h3⟩
  · exact .inl h
  · exact .inr ⟨g, o, e, h1, Nat.lt_of_lt_of_le h2 hb.size, fun i hi => (hb.cell (p := ⟨g, o + i, none⟩) h2).trans (h3 i hi)⟩
theorem DwRow.grown {W W' : World} {B : Nat} {la : Option Addr} {L : List Int} (h : DwRow W B la L) (hg : W.grownBy W' (some B)) : DwRow W' B la L := by
  rcases h with h | ⟨g, o, e, h1, h2, h3⟩
  · exact .inl h
  · exact .inr ⟨g, o, e, h1, Nat.lt_of_lt_of_le h2 hg.size, fun i hi => (World.cell?_of_block (a := ⟨g, o + i, none⟩) (hg.block g h2 (fun e => by have := Option.some.inj e; omega))).trans (h3 i hi)⟩
set_option maxHeartbeats 4000000 in
theorem next_any (L : List Int) (la : Option Addr) (lc B a : Nat) (n : Int) (w : World) (hd : DwB w B (.slice la L.length lc) a) (hr : DwRow w B la L) (ha : a ≤ L.length) (hL : L.length ≤ 9223372036854775807) (h0 : 1 ≤ n) (h1 : n ≤ 1000000) :
    Calls Try.prog 17 #[.pointer (some ⟨B, 0, none⟩), .int .i64 n] w fun e w' => e = .returned (.int .i64 (nx L a n).1) ∧ DwB w' B (.slice la L.length lc) (nx L a n).2 ∧ w.grownBy w' (some B) := by
  have hd0 := hd
  unfold DwB at hd0
  have c0 : w.cell? ⟨B, 0, none⟩ = some (.slice la L.length lc) := by simp [World.cell?, hd0]
  have c1 : w.cell? ⟨B, 1, none⟩ = some (.int .i64 (a : Int)) := by simp [World.cell?, hd0]
  have f1 : w.frozen? ⟨B, 1, none⟩ = false := by simp [World.frozen?, hd0]
  have HD := Lib.hid hd0
  obtain ⟨m, hm⟩ : ∃ m, L.length = m := ⟨_, rfl⟩
  have HM := Lib.hid hm
  rw [hm] at c0 hL ha HD ⊢
  by_cases h : m ≤ a
  · obtain rfl : a = m := by omega
    have hx : nx L a n = (0, a) := if_pos (by omega)
    have HX := Lib.hid hx
    rw [hx]
    clear hx hm hd hd0 hr
    go_enter Try.func17, Try.ntmps17
    go_wp2_with fail
    go_quiet (fail)
    go_wp2
    go_ret
    exact ⟨rfl, by unfold DwB; simpa using HD.out, by first | exact World.grownBy.refl _ _ | exact ⟨rfl, rfl, rfl, Nat.le_refl _, fun _ _ _ => rfl⟩⟩
  · have hlt : a < m := by omega
    have hx : nx L a n = (L.getD a 0 % n, a + 1) := if_neg (by omega)
    have HX := Lib.hid hx
    rw [hx]
    rcases hr with hr | ⟨g, o, rfl, hgB, hg, hc⟩
    · rw [hr] at hm
      simp at hm
      omega
    have c2 := hc a (by omega)
    obtain ⟨y, hy⟩ : ∃ y, L.getD a 0 = y := ⟨_, rfl⟩
    rw [hy] at c2 ⊢
    have hne : B ≠ g := by omega
    have hii : ¬ (m : Int) ≤ (a : Int) := by omega
    clear hx hm hd hd0 hc hy
    go_enter Try.func17, Try.ntmps17
    go_wp2_with fail
    go_quiet (fail)
    go_upto_region 4 with fail
    obtain ⟨W1, hW1⟩ : ∃ W1, (w.drewN nq).setCell ⟨B, 1, none⟩ (.int .i64 ((a : Int) + 1)) = W1 := ⟨_, rfl⟩
    have hd1 : W1.heap[B]? = some (.cells #[.slice (some ⟨g, o, none⟩) m lc, .int .i64 ((a : Int) + 1)] 48 (0, 0)) := by
      rw [← hW1]
      exact heap_setCell_same (w.drewN nq) B 1 _ 48 (.int .i64 ((a : Int) + 1)) (by simpa using HD.out)
    have hg1 : w.grownBy W1 (some B) := by
      rw [← hW1]
      have h1 : w.grownBy (w.drewN nq) (some B) := ⟨rfl, rfl, rfl, Nat.le_refl _, fun _ _ _ => rfl⟩
      exact World.grownBy.trans h1 ⟨rfl, rfl, rfl, by simp, fun k _ hk => Below.heap_setCell _ _ _ k (fun e => hk (by rw [e]))⟩
    rw [hW1]
    have x0 : W1.cell? ⟨B, 0, none⟩ = some (.slice (some ⟨g, o, none⟩) m lc) := by simp [World.cell?, hd1]
    have x1 : W1.cell? ⟨B, 1, none⟩ = some (.int .i64 ((a : Int) + 1)) := by simp [World.cell?, hd1]
    have x2 : W1.cell? ⟨g, o + a, none⟩ = some (.int .i64 y) := (World.cell?_of_block (a := ⟨g, o + a, none⟩) (hg1.block g hg (fun e => by have := Option.some.inj e; omega))).trans c2
    have hai : (a : Int) + 1 - 1 = (a : Int) := by omega
    have hwr : IntKind.i64.wrap ((a : Int) + 1 - 1) = (a : Int) := by rw [IntKind.wrap_i64]; omega
    have hwr2 : IntKind.i64.wrap (a : Int) = (a : Int) := by rw [IntKind.wrap_i64]; omega
    have ha0 : (0 : Int) ≤ (a : Int) := by omega
    have ham : (a : Int) < (m : Int) := by omega
    have HD1 := Lib.hid hd1
    have HG1 := Lib.hid hg1
    clear hW1 hd1 hg1 c0 c1 f1 c2
    go_region_held3 (fun w' => w'.cell? ⟨B, 0, none⟩ = some (.slice (some ⟨g, o, none⟩) m lc) ∧ w'.cell? ⟨B, 1, none⟩ = some (.int .i64 ((a : Int) + 1)) ∧ w'.cell? ⟨g, o + a, none⟩ = some (.int .i64 y)) (go_keep) (first | (go_at_call 15; refine (mod_any _ _ _ (by omega) (by omega)).mono ?_; rintro e w' ⟨rfl, rfl⟩))
    go_wp2
    go_ret
    exact ⟨rfl, by unfold DwB; show W1.heap[B]? = _; rw [HD1.out]; simp, World.grownBy.trans HG1.out ⟨rfl, rfl, rfl, Nat.le_refl _, fun _ _ _ => rfl⟩⟩
end Go.Proofs.Ytpmmincophaaiaa
