/- The contract of cluster.Split. -/
import Derived.Test.YtbgmbcngkmlfeaaDoorCluIter
import Derived.RangeFuncBox
import Derived.Maps.AppendAt
namespace Go.Proofs.YtbgmbcngkmlfeaaDoor
set_option linter.unusedVariables false
open Go.RowKit Go.Shelf
attribute [local go_sem] Oper.semAt_some
theorem info_span : (Tryd.prog.info? 52).map (fun i => (i.zero, i.size, i.bytes)) = some (some (.agg #[.int .i64 0, .int .i64 0]), 2, 16) := by kernel_rfl
theorem row_kept {X Y : World} {row : Option Nat} {B : Nat} {c : Array Value} {t : TypeId} (h : X.heap[B]? = some (.cells c t (0, 0))) (hg : X.grownBy Y row) (hr : ∀ r, row = some r → ∃ o : Obj, X.heap[r]? = some o ∧ o.isCells = false) : Y.heap[B]? = some (.cells c t (0, 0)) :=
  (hg.block B (Array.getElem?_eq_some_iff.1 h).1 (fun e => by obtain ⟨o, ho, hc⟩ := hr B e.symm; rw [h] at ho; cases ho; cases hc)).trans h
theorem two_cells {X : World} {B : Nat} {a b : Value} {t : TypeId} (h : X.heap[B]? = some (.cells #[a, b] t (0, 0))) : X.cell? ⟨B, 0, none⟩ = some a ∧ X.cell? ⟨B, 1, none⟩ = some b := by
  constructor <;> simp [World.cell?, h]
theorem two_src {X : World} {B : Nat} {a b : Value} {t : TypeId} (h : X.heap[B]? = some (.cells #[a, b] t (0, 0))) : ∀ j u, [a, b][j]? = some u → X.cell? ((⟨B, 0, none⟩ : Addr).add j) = some u := by
  intro j u hj
  match j, hj with
  | 0, hj => simp at hj; subst hj; exact (two_cells h).1
  | 1, hj => simp at hj; subst hj; simpa [Addr.add] using (two_cells h).2
  | j + 2, hj => simp at hj
theorem kp_put {S : Nat → Prop} {W : World} {l : Nat} {o o' : Obj} (hS : ∀ b, S b → b ≠ l) : KpS S W (W.putObj l o') := by
  refine ⟨(grownBy_putObj' W l o').size, fun p hp hl => ?_⟩
  simp only [World.cell?, (grownBy_putObj' W l o').block p.block hl (fun e => hS _ hp (by simpa using e))]
theorem kp_appended {S : Nat → Prop} {W w1 : World} {B : Nat} {tmp : Obj} {v v' : Value} (hgrow : (W.alloc tmp).grownBy w1 v.ownBlock) (hS : ∀ b, S b → b < W.heap.size → b ≠ B ∧ some b ≠ v.ownBlock) : KpS S W (w1.setCell ⟨B, 0, none⟩ v') := by
  have hsz : W.heap.size ≤ (w1.setCell ⟨B, 0, none⟩ v').heap.size := by
    have h1 := hgrow.size
    have h2 := (grownBy_setCell' w1 B v').size
    simp at h1
    omega
  refine ⟨hsz, fun p hp hl => ?_⟩
  obtain ⟨h1, h2⟩ := hS _ hp hl
  have e1 : (w1.setCell ⟨B, 0, none⟩ v').heap[p.block]? = W.heap[p.block]? := by
    rw [Below.heap_setCell _ _ _ _ h1, hgrow.block p.block (by simp; omega) h2]
    exact Below.heap_alloc W _ _ hl
  simp only [World.cell?, e1]
set_option maxRecDepth 100000 in
set_option maxHeartbeats 4000000 in
theorem split_in (n : Nat) (hn : 3 ≤ n) (s : ByteArray) (g : Nat × Nat) (w : World) (hl : Laid w g) (hs : s.size ≤ 1000000000) :
    CallsIn Fence.wide n Tryd.prog 44 #[.string s] w fun e W' => ∃ v, e = .returned v ∧ W'.ownsRow w.heap.size 52 2 v (CP.split s).length ((CP.split s).flatMap fun x => [.int .i64 (x.1 : Int), .int .i64 (x.2 : Int)]) ∧ Below w.heap.size w W' := by
  have h1 : 1 ≤ n := by omega
  obtain ⟨i0, hi, hz0, hz1, hz2⟩ := info_parts info_span
  refine callsIn_of_wp_marks Tryd.func44 rfl trivial ?_ rfl
  simp only [Tryd.ntmps44, List.size_toArray, List.length_cons, List.length_nil, Nat.reduceAdd, Nat.reduceSub, Array.replicate_succ, Array.replicate_zero, List.push_toArray, List.append_toArray, List.nil_append, List.cons_append]
  gi_wp2_with (refine ⟨trivial, ?_⟩; gi_at_call 54; refine (callsIn_wide.2 (clusters_any s _)).mono ?_; rintro e w' ⟨rfl, rfl⟩)
  have hlen : Hid ((CP.split s).length ≤ s.size) := Lib.hid (CP.split_length s)
  have bO := (((Boxed.new w 60 (.slice none 0 0)).alloc (.cells #[.string s] 9)).alloc (.cells #[.string s] 9)).alloc (.cells #[.func (.func 61) #[] #[.pointer (some ⟨(w.alloc (.cells #[.slice none 0 0] 60)).heap.size + 1, 0, none⟩)]] 75)
  have b1 := ((Boxed.new (w.alloc (.cells #[.slice none 0 0] 60)) 9 (.string s)).alloc (.cells #[.string s] 9)).alloc (.cells #[.func (.func 61) #[] #[.pointer (some ⟨(w.alloc (.cells #[.slice none 0 0] 60)).heap.size + 1, 0, none⟩)]] 75)
  have b2 := (Boxed.new ((w.alloc (.cells #[.slice none 0 0] 60)).alloc (.cells #[.string s] 9)) 9 (.string s)).alloc (.cells #[.func (.func 61) #[] #[.pointer (some ⟨(w.alloc (.cells #[.slice none 0 0] 60)).heap.size + 1, 0, none⟩)]] 75)
  have b3 := Boxed.new (((w.alloc (.cells #[.slice none 0 0] 60)).alloc (.cells #[.string s] 9)).alloc (.cells #[.string s] 9)) 75 (.func (.func 61) #[] #[.pointer (some ⟨(w.alloc (.cells #[.slice none 0 0] 60)).heap.size + 1, 0, none⟩)])
  have hB0 : Below w.heap.size w (iterWorld (w.alloc (.cells #[.slice none 0 0] 60)) s) := ((((Below.refl _ w).alloc (Nat.le_refl _) _).alloc (by simp) _).alloc (by simp; omega) _).alloc (by simp; omega) _
  have hsz : (iterWorld (w.alloc (.cells #[.slice none 0 0] 60)) s).heap.size = w.heap.size + 4 := by simp [iterWorld]
  change Boxed (iterWorld (w.alloc (.cells #[.slice none 0 0] 60)) s) _ _ _ at bO b1 b2 b3
  simp only [World.size_alloc] at bO b1 b2 b3 ⊢
  generalize iterWorld (w.alloc (.cells #[.slice none 0 0] 60)) s = W0 at *
  refine wpIn_rangeFunc_ownH rfl h1 (gf := 59) (lb := #[.pointer (some ⟨w.heap.size + 1, 0, none⟩), .pointer (some ⟨w.heap.size + 1 + 1 + 1, 0, none⟩)]) rfl trivial (enters_of Tryd.func59 (by kernel_rfl) rfl)
    (iter_stops (n - 1) (by omega) (w.heap.size + 1) (w.heap.size + 1 + 1 + 1) (w.heap.size + 1 + 1) (fun b => b < w.heap.size ∨ b = w.heap.size + 1 ∨ b = w.heap.size + 2 ∨ b = w.heap.size + 3) s g (by unfold maxLen; omega) W0 (by omega) (by omega) (by omega) (.inl hl.lt) (.inl hl.lt0) (hl.mono hB0) b1.cell b2.cell b3.cell)
    KpS.trans (hKb := ?hKb) (Below.refl _ _) (fun _ => rfl)
    (fun pre W => ((∃ v, Boxed W w.heap.size 60 v ∧ W.ownsRow w.heap.size 52 2 v pre.length (pre.flatMap fun x => [.int .i64 (x.1 : Int), .int .i64 (x.2 : Int)]) ∧ True) ∧
      Boxed W (w.heap.size + 1) 9 (.string s) ∧ Boxed W (w.heap.size + 2) 9 (.string s) ∧ Boxed W (w.heap.size + 3) 75 (.func (.func 61) #[] #[.pointer (some ⟨w.heap.size + 2, 0, none⟩)])) ∧ Below w.heap.size w W)
    (fun _ _ _ => False)
    (OwnFrom.and (OwnFrom.and (Own.from (holdsRow_own w.heap.size w.heap.size 60 52 2 (fun pre : List (Nat × Nat) => pre.length) (fun pre : List (Nat × Nat) => pre.flatMap fun x : Nat × Nat => [.int .i64 (x.1 : Int), .int .i64 (x.2 : Int)]) (fun _ _ => True)) _)
      (OwnFrom.and (Own.from (boxed_own _ _ _) _) (OwnFrom.and (Own.from (boxed_own _ _ _) _) (Own.from (boxed_own _ _ _) _)))) (ownFrom_below (Nat.le_refl _) (by omega)))
    (fun _ _ _ _ _ hs _ _ => hs)
    ⟨⟨⟨_, bO, World.ownsRow_nil _ _ _ _, trivial⟩, b1, b2, b3⟩, hB0⟩
    (fun x a' W => ∃ Bx, w.heap.size + 3 < Bx ∧ W.heap[Bx]? = some (.cells #[.int .i64 (x.1 : Int), .int .i64 (x.2 : Int)] 52 (0, 0)) ∧ a' = { tmps := #[.string s, undef, .slice none 0 0, .pointer (some ⟨w.heap.size, 0, none⟩), .pointer (some ⟨Bx, 0, none⟩), .string s, .func (.func 59) #[] #[.pointer (some ⟨w.heap.size + 1, 0, none⟩), .pointer (some ⟨w.heap.size + 1 + 1 + 1, 0, none⟩)], sp x, undef, undef, undef, undef, undef], defers := [] })
    (fun x a' _ X Y row hs hg hr => by obtain ⟨Bx, h1, h2, h3⟩ := hs; exact ⟨Bx, h1, row_kept h2 hg (fun r e => (hr r e).2), h3⟩)
    ?assign ?body ?done ?stop
  case hKb =>
    intro W l o o' hlW hl ho _
    exact kp_put (o := o) (fun b hb => by omega)
  case assign =>
    rintro l pre x W K ⟨⟨⟨v, hv, hrow, _⟩, B1, B2, B3⟩, hB⟩ hK
    have hsW := hB.size
    have hs4 := B3.lt
    gi_wp2
    refine hK _ _ ((KeepsOthers.alloc _ _).from _) (KpS.of ((Below.refl _ W).alloc (Nat.le_refl _) _)) ⟨⟨⟨v, hv.alloc _, hrow.alloc _, trivial⟩, B1.alloc _, B2.alloc _, B3.alloc _⟩, hB.alloc hsW _⟩ ⟨W.heap.size, by omega, World.alloc_heap_new W _, rfl⟩
  case body =>
    rintro l pre x a' W hl ⟨r, hr⟩ ⟨⟨⟨v, hv, hrow, _⟩, B1, B2, B3⟩, hB⟩ ⟨Bx, hBx, bX, rfl⟩ hlt
    have hc := hv.cell
    obtain ⟨x0, x1⟩ := two_cells bX
    have hpl := hlen.out
    gi_wp2_with (gi_at_builtin; refine wpListIn_append_own _ rfl _ _ 60 rfl w.heap.size 52 i0 (.agg #[.int .i64 0, .int .i64 0]) 2 16 Tryd.underlying60 hi hz0 hz1 hz2 rfl (by decide) _ _ _ rfl (hrow.alloc _) ⟨W.heap.size, 0, none⟩ 1 1 [.int .i64 (x.1 : Int), .int .i64 (x.2 : Int)] rfl rfl (two_src (World.alloc_heap_new W _)) (by simp [Value.oneCell']) (by unfold maxLen; omega) (by omega) (by have := hB.size; simp; omega) ?_; intro v' w1 hown' hgrow _; obtain ⟨g', cap', rfl⟩ := ownsRow_succ hown'; obtain ⟨hv1, hv2, hr2, hk2, hb2⟩ := hv.appended (by decide) hrow hB.size (Nat.le_refl _) hown' hgrow; have hc1 := hv1.cell; have hf1 := hv1.frozen)
    have HS : ∀ b, (b < w.heap.size ∨ b = w.heap.size + 1 ∨ b = w.heap.size + 2 ∨ b = w.heap.size + 3) → b < W.heap.size → b ≠ w.heap.size ∧ some b ≠ v.ownBlock := by
      intro b hb _
      refine ⟨by omega, ?_⟩
      rcases hb with hb | rfl | rfl | rfl
      · intro e
        rcases hrow.2 with ⟨rfl, _⟩ | ⟨g, cap, cur, rfl, hgb, _, _⟩
        · simp [Value.ownBlock] at e
        · obtain rfl : b = g := by simpa [Value.ownBlock] using e
          omega
      · exact B1.not_row (by decide) hrow
      · exact B2.not_row (by decide) hrow
      · exact B3.not_row (by decide) hrow
    have hk := kp_appended (v' := Value.slice (some ⟨g', 0, none⟩) (pre.length + 1) cap') hgrow HS
    refine ⟨hk2.from _, hk, ⟨⟨_, hv2, by simpa using hr2, trivial⟩, ?_, ?_, ?_⟩, hB.trans hb2⟩
    · exact ((B1.alloc _).kept hgrow (B1.not_row (by decide) hrow)).other (by omega) _
    · exact ((B2.alloc _).kept hgrow (B2.not_row (by decide) hrow)).other (by omega) _
    · exact ((B3.alloc _).kept hgrow (B3.not_row (by decide) hrow)).other (by omega) _
  case done =>
    rintro D zs W hD rfl ⟨⟨⟨v, hv, hrow, _⟩, B1, B2, B3⟩, hB⟩ hK
    have hc := hv.cell
    gi_wp2
    refine ⟨by simp, .inl ⟨_, _, rfl, run_takeDeferred hK, ?_⟩⟩
    exact ⟨_, results_tmp rfl _ _ _, v, rfl, ownsRow_putObj hrow _ hK rfl, hB.trans (belowK_b (w := w) (Nat.le_refl _) W D _ _ (by omega) hK rfl rfl)⟩
  case stop =>
    rintro D c pre W _ _ h _
    exact h.elim
end Go.Proofs.YtbgmbcngkmlfeaaDoor
