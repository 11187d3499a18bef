/- The contract of cluster.At. -/
import Derived.Test.YtnikddmcphcmeaaDoorCluBase
namespace Go.Proofs.YtnikddmcphcmeaaDoor
open Go.RowKit Go.Shelf
attribute [local go_sem] Oper.semAt_some
namespace CP
/-- How many of these clusters end at i or before it. -/
def upto (l : List (Nat × Nat)) (i : Int) : Nat := (l.takeWhile fun x => decide ((x.2 : Int) ≤ i)).length
def at' (s : ByteArray) (i : Int) : Int := if i < 0 ∨ (s.size : Int) ≤ i then -1 else (upto (split s) i : Int)
theorem at_bad {s : ByteArray} {i : Int} (h : i < 0 ∨ (s.size : Int) ≤ i) : at' s i = -1 := if_pos h
theorem at_good {s : ByteArray} {i : Int} (h0 : ¬ i < 0) (h2 : ¬ (s.size : Int) ≤ i) : at' s i = (upto (split s) i : Int) := if_neg (by omega)
def Sm (l : List (Nat × Nat)) (i : Int) : Prop := ∀ y ∈ l, (y.2 : Int) ≤ i
theorem Sm.nil (i : Int) : Sm [] i := fun y hy => by cases hy
theorem Sm.snoc {l : List (Nat × Nat)} {x : Nat × Nat} {i : Int} (h : Sm l i) (hx : ¬ i < (x.2 : Int)) : Sm (l ++ [x]) i := fun y hy => by
  rcases List.mem_append.1 hy with hy | hy
  · exact h y hy
  · obtain rfl := List.mem_singleton.1 hy
    omega
theorem upto_all {l : List (Nat × Nat)} {i : Int} (h : Sm l i) : upto l i = l.length := by
  unfold upto
  induction l with
  | nil => rfl
  | cons a l ih =>
    rw [List.takeWhile_cons, if_pos (by simpa using h a (by simp)), List.length_cons, ih (fun x hx => h x (by simp [hx])), List.length_cons]
theorem upto_stop {l p : List (Nat × Nat)} {x : Nat × Nat} {i : Int} (hp : p ++ [x] <+: l) (h : Sm p i) (hx : i < (x.2 : Int)) : upto l i = p.length := by
  obtain ⟨r, rfl⟩ := hp
  unfold upto
  rw [List.append_assoc, List.takeWhile_append_of_pos (fun a ha => by simpa using h a ha), List.singleton_append, List.takeWhile_cons, if_neg (by simp; omega), List.append_nil]
end CP
theorem kp_set {S : Nat → Prop} {W : World} {B : Nat} {v : Value} (hS : ∀ b, S b → b ≠ B) : KpS S W (W.setCell ⟨B, 0, none⟩ v) :=
  ⟨(grownBy_setCell' W B v).size, fun p hp hl => by
    simp only [World.cell?, Below.heap_setCell W ⟨B, 0, none⟩ v p.block (hS _ hp)]⟩
set_option maxRecDepth 100000 in
set_option maxHeartbeats 4000000 in
theorem at_in (n : Nat) (hn : 3 ≤ n) (s : ByteArray) (i : Int) (g : Nat × Nat) (w : World) (hl : Laid w g) (hs : s.size ≤ 1000000000) :
    CallsIn Fence.wide n Tryd.prog 15 #[.string s, .int .i64 i] w fun e W' => e = .returned (.int .i64 (CP.at' s i)) ∧ Below w.heap.size w W' := by
  have h1 : 1 ≤ n := by omega
  refine callsIn_of_wp_marks Tryd.func15 rfl trivial ?_ rfl
  simp only [Tryd.ntmps15, List.size_toArray, List.length_cons, List.length_nil, Nat.reduceAdd, Nat.reduceSub, Array.replicate_succ, Array.replicate_zero, List.push_toArray, List.append_toArray, List.nil_append, List.cons_append]
  by_cases h0 : i < 0
  · gi_wp2
    exact ⟨_, results_tmp rfl _ _ _, by rw [CP.at_bad (.inl h0)]; rfl, (Below.refl _ w).alloc (Nat.le_refl _) _⟩
  · by_cases h2 : (s.size : Int) ≤ i
    · gi_wp2
      exact ⟨_, results_tmp rfl _ _ _, by rw [CP.at_bad (.inr h2)]; rfl, (Below.refl _ w).alloc (Nat.le_refl _) _⟩
    · have HG := Lib.hid (CP.at_good h0 h2)
      gi_wp2_with (refine ⟨trivial, ?_⟩; gi_at_call 22; refine (callsIn_wide.2 (clusters_any s _)).mono ?_; rintro e w' ⟨rfl, rfl⟩)
      have hlen : Hid ((CP.split s).length ≤ s.size) := Lib.hid (CP.split_length s)
      have bA := ((((Boxed.new w 3 (.int .i64 i)).alloc (.cells #[.int .i64 0] 3)).alloc (.cells #[.string s] 9)).alloc (.cells #[.string s] 9)).alloc (.cells #[.func (.func 30) #[] #[.pointer (some ⟨((w.alloc (.cells #[.int .i64 i] 3)).alloc (.cells #[.int .i64 0] 3)).heap.size + 1, 0, none⟩)]] 48)
      have bO := (((Boxed.new (w.alloc (.cells #[.int .i64 i] 3)) 3 (.int .i64 0)).alloc (.cells #[.string s] 9)).alloc (.cells #[.string s] 9)).alloc (.cells #[.func (.func 30) #[] #[.pointer (some ⟨((w.alloc (.cells #[.int .i64 i] 3)).alloc (.cells #[.int .i64 0] 3)).heap.size + 1, 0, none⟩)]] 48)
      have b1 := ((Boxed.new ((w.alloc (.cells #[.int .i64 i] 3)).alloc (.cells #[.int .i64 0] 3)) 9 (.string s)).alloc (.cells #[.string s] 9)).alloc (.cells #[.func (.func 30) #[] #[.pointer (some ⟨((w.alloc (.cells #[.int .i64 i] 3)).alloc (.cells #[.int .i64 0] 3)).heap.size + 1, 0, none⟩)]] 48)
      have b2 := (Boxed.new (((w.alloc (.cells #[.int .i64 i] 3)).alloc (.cells #[.int .i64 0] 3)).alloc (.cells #[.string s] 9)) 9 (.string s)).alloc (.cells #[.func (.func 30) #[] #[.pointer (some ⟨((w.alloc (.cells #[.int .i64 i] 3)).alloc (.cells #[.int .i64 0] 3)).heap.size + 1, 0, none⟩)]] 48)
      have b3 := Boxed.new ((((w.alloc (.cells #[.int .i64 i] 3)).alloc (.cells #[.int .i64 0] 3)).alloc (.cells #[.string s] 9)).alloc (.cells #[.string s] 9)) 48 (.func (.func 30) #[] #[.pointer (some ⟨((w.alloc (.cells #[.int .i64 i] 3)).alloc (.cells #[.int .i64 0] 3)).heap.size + 1, 0, none⟩)])
      have hB0 : Below w.heap.size w (iterWorld ((w.alloc (.cells #[.int .i64 i] 3)).alloc (.cells #[.int .i64 0] 3)) s) := (((((Below.refl _ w).alloc (Nat.le_refl _) _).alloc (by simp) _).alloc (by simp; omega) _).alloc (by simp; omega) _).alloc (by simp; omega) _
      have hsz : (iterWorld ((w.alloc (.cells #[.int .i64 i] 3)).alloc (.cells #[.int .i64 0] 3)) s).heap.size = w.heap.size + 5 := by simp [iterWorld]
      change Boxed (iterWorld ((w.alloc (.cells #[.int .i64 i] 3)).alloc (.cells #[.int .i64 0] 3)) s) _ _ _ at bA bO b1 b2 b3
      simp only [World.size_alloc] at bA bO b1 b2 b3 ⊢
      generalize iterWorld ((w.alloc (.cells #[.int .i64 i] 3)).alloc (.cells #[.int .i64 0] 3)) s = W0 at *
      refine wpIn_rangeFunc_ownH rfl h1 (gf := 27) (lb := #[.pointer (some ⟨w.heap.size + 1 + 1, 0, none⟩), .pointer (some ⟨w.heap.size + 1 + 1 + 1 + 1, 0, none⟩)]) rfl trivial (enters_of Tryd.func27 (by kernel_rfl) rfl)
        (iter_stops (n - 1) (by omega) (w.heap.size + 1 + 1) (w.heap.size + 1 + 1 + 1 + 1) (w.heap.size + 1 + 1 + 1) (fun b => b < w.heap.size ∨ b = w.heap.size + 2 ∨ b = w.heap.size + 3 ∨ b = w.heap.size + 4) s g (by unfold maxLen; omega) W0 (by omega) (by omega) (by omega) (.inl hl.lt) (.inl hl.lt0) (hl.mono hB0) b1.cell b2.cell b3.cell)
        KpS.trans (hKb := ?hKb) (Below.refl _ _) (fun _ => rfl)
        (fun pre W => ((Boxed W (w.heap.size + 1) 3 (.int .i64 (pre.length : Int)) ∧ Boxed W w.heap.size 3 (.int .i64 i) ∧ Boxed W (w.heap.size + 4) 48 (.func (.func 30) #[] #[.pointer (some ⟨w.heap.size + 3, 0, none⟩)])) ∧ CP.Sm pre i) ∧ Below w.heap.size w W)
        (fun c pre W => (∃ p x, pre = p ++ [x] ∧ c = .exit 0 ∧ CP.Sm p i ∧ i < (x.2 : Int) ∧ Boxed W (w.heap.size + 1) 3 (.int .i64 (p.length : Int))) ∧ Below w.heap.size w W)
        (OwnFrom.and (OwnFrom.and (OwnFrom.and (Own.from (boxed_own _ _ _) _) (OwnFrom.and (Own.from (boxed_own _ _ _) _) (Own.from (boxed_own _ _ _) _))) (ownFrom_pure _ _)) (ownFrom_below (Nat.le_refl _) (by omega)))
        (fun c => OwnFrom.and (fun pre X Y row hs hg hr => by obtain ⟨p, x, e1, e2, e3, e4, e5⟩ := hs; exact ⟨p, x, e1, e2, e3, e4, boxed_own _ _ (fun (_ : Unit) => Value.int .i64 (p.length : Int)) () X Y row e5 hg (fun r e => (hr r e).2)⟩) (ownFrom_below (Nat.le_refl _) (by omega)))
        ⟨⟨⟨bO, bA, b3⟩, CP.Sm.nil i⟩, hB0⟩
        (fun x a' W => ∃ Bx, w.heap.size + 4 < Bx ∧ W.heap[Bx]? = some (.cells #[.int .i64 (x.1 : Int), .int .i64 (x.2 : Int)] 30 (0, 0)) ∧ a' = { tmps := #[.string s, .int .i64 i, undef, .pointer (some ⟨w.heap.size, 0, none⟩), .int .i64 0, .pointer (some ⟨w.heap.size + 1, 0, none⟩), .pointer (some ⟨Bx, 0, none⟩), .int .i64 i, .bool false, .bool false, .int .i64 i, .string s, .int .i64 (s.size : Int), .bool false, .bool false, .string s,
          .func (.func 27) #[] #[.pointer (some ⟨w.heap.size + 1 + 1, 0, none⟩), .pointer (some ⟨w.heap.size + 1 + 1 + 1 + 1, 0, none⟩)], sp x, undef, undef, undef, undef, undef, undef, undef], defers := [] })
        (fun x a' _ X Y row hs hg hr => by obtain ⟨Bx, h1, h2, h3⟩ := hs; exact ⟨Bx, h1, row_kept h2 hg (fun r e => (hr r e).2), h3⟩)
        ?assign ?body ?done ?stop
      case hKb =>
        intro W l o o' hlW hl ho _
        exact kp_put (o := o) (fun b hb => by omega)
      case assign =>
        rintro l pre x W K ⟨⟨⟨B1, B2, B3⟩, hall⟩, hB⟩ hK
        have hsW := hB.size
        have hs4 := B3.lt
        gi_wp2
        refine hK _ _ ((KeepsOthers.alloc _ _).from _) (KpS.of ((Below.refl _ W).alloc (Nat.le_refl _) _)) ⟨⟨⟨B1.alloc _, B2.alloc _, B3.alloc _⟩, hall⟩, hB.alloc hsW _⟩ ⟨W.heap.size, by omega, World.alloc_heap_new W _, rfl⟩
      case body =>
        rintro l pre x a' W hl ⟨r, hr⟩ ⟨⟨⟨B1, B2, B3⟩, hall⟩, hB⟩ ⟨Bx, hBx, bX, rfl⟩ hlt
        have hc := B1.cell
        have hf := B1.frozen
        have hc2 := B2.cell
        obtain ⟨x0, x1⟩ := two_cells bX
        have hpl := hlen.out
        by_cases hx : i < (x.2 : Int)
        · gi_wp2
          exact ⟨KeepsFrom.refl _ _, ⟨pre, x, rfl, rfl, hall, hx, B1⟩, hB⟩
        · gi_wp2
          refine ⟨(KeepsOthers.setCell _ _ _).from _, kp_set (fun b hb => by omega), ⟨⟨?_, B2.other (by omega) _, B3.other (by omega) _⟩, hall.snoc (by omega)⟩, hB.setCell (p := ⟨w.heap.size + 1, 0, none⟩) (by simp) _⟩
          have := B1.set (.int .i64 ((pre.length : Int) + 1))
          simpa using this
      case done =>
        rintro D zs W hD rfl ⟨⟨⟨B1, B2, B3⟩, hall⟩, hB⟩ hK
        have hc := B1.cell
        gi_wp2
        refine ⟨by simp, .inl ⟨_, _, rfl, run_takeDeferred hK, ?_⟩⟩
        exact ⟨_, results_tmp rfl _ _ _, by rw [HG.out, CP.upto_all hall]; rfl, hB.trans (belowK_b (w := w) (Nat.le_refl _) W D _ _ (by omega) hK rfl rfl)⟩
      case stop =>
        rintro D c pre W hD hp ⟨⟨p, x, rfl, rfl, hall, hx, B1⟩, hB⟩ hK
        have hc := B1.cell
        gi_wp2
        refine ⟨by simp, .inl ⟨_, _, rfl, run_takeDeferred hK, ?_⟩⟩
        exact ⟨_, results_tmp rfl _ _ _, by rw [HG.out, CP.upto_stop hp hall hx]; rfl, hB.trans (belowK_b (w := w) (Nat.le_refl _) W D _ _ (by omega) hK rfl rfl)⟩
theorem at_any (s : ByteArray) (i : Int) (g : Nat × Nat) (w : World) (hl : Laid w g) (hs : s.size ≤ 1000000000) :
    Calls Tryd.prog 15 #[.string s, .int .i64 i] w fun e W' => e = .returned (.int .i64 (CP.at' s i)) ∧ Below w.heap.size w W' :=
  callsIn_wide.1 (at_in 3 (Nat.le_refl _) s i g w hl hs)
theorem split_any (s : ByteArray) (g : Nat × Nat) (w : World) (hl : Laid w g) (hs : s.size ≤ 1000000000) :
    Calls Tryd.prog 13 #[.string s] w fun e W' => ∃ v, e = .returned v ∧ W'.ownsRow w.heap.size 30 2 v (CP.split s).length ((CP.split s).flatMap fun x => [.int .i64 (x.1 : Int), .int .i64 (x.2 : Int)]) ∧ Below w.heap.size w W' :=
  callsIn_wide.1 (split_in 3 (Nat.le_refl _) s g w hl hs)
end Go.Proofs.YtnikddmcphcmeaaDoor
