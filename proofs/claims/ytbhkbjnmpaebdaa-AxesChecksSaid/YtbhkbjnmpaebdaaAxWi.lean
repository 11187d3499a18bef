/- Within of the program. No conditions. -/
import Derived.Test.YtbhkbjnmpaebdaaAxSc
import Derived.Test.YtbhkbjnmpaebdaaAx2b
namespace Go.Proofs.Ytbhkbjnmpaebdaa.AX
def ins (x : Int × Pr) : Bool := decide (x.2.1 ≤ x.1 ∧ x.1 ≤ x.2.2)
def within (at' : List Int) (l : List Pr) : Bool := ranges l (at'.length : Int) && (at'.zip l).all ins
theorem within_no {at' : List Int} {l : List Pr} (h : ranges l (at'.length : Int) = false) : within at' l = false := by unfold within; rw [h]; rfl
theorem within_out {at' : List Int} {l : List Pr} {j : Nat} {x : Int × Pr} (hx : (at'.zip l)[j]? = some x) (h : ins x = false) : within at' l = false := by
  unfold within
  rw [Bool.and_eq_false_iff]
  right
  rw [List.all_eq_false]
  exact ⟨x, List.mem_of_getElem? hx, by rw [h]; simp⟩
theorem within_yes {at' : List Int} {l : List Pr} (h : ranges l (at'.length : Int) = true) (h2 : ∀ x ∈ at'.zip l, ins x = true) : within at' l = true := by
  unfold within
  rw [h, Bool.true_and, List.all_eq_true]
  exact h2
end Go.Proofs.Ytbhkbjnmpaebdaa.AX
namespace Go.Proofs.Ytbhkbjnmpaebdaa
set_option maxRecDepth 100000
set_option linter.unusedVariables false
open Go.RowKit Go.Shelf Go.Deep
attribute [local go_sem] Oper.semAt_some
/-- A bool in a block of its own. -/
def BlB (V : World) (g : Nat) (b : Bool) : Prop := V.heap[g]? = some (.cells #[.bool b] 4 (0, 0))
theorem BlB.lt {V : World} {g : Nat} {b : Bool} (h : BlB V g b) : g < V.heap.size := (Array.getElem?_eq_some_iff.1 h).1
theorem BlB.keep {V V' : World} {g : Nat} {b : Bool} (h : BlB V g b) (hb : Below V.heap.size V V') : BlB V' g b := (hb.block g h.lt).trans h
theorem BlB.cell {V : World} {g : Nat} {b : Bool} (h : BlB V g b) : V.cell? ⟨g, 0, none⟩ = some (.bool b) := by
  unfold BlB at h
  simp [World.cell?, h]
theorem BlB.frozen {V : World} {g : Nat} {b : Bool} (h : BlB V g b) : V.frozen? ⟨g, 0, none⟩ = false := by
  unfold BlB at h
  simp [World.frozen?, h]
theorem BlB.put {V : World} {g : Nat} {b : Bool} (h : BlB V g b) (c : Bool) : BlB (V.setCell ⟨g, 0, none⟩ (.bool c)) g c :=
  (heap_setCell_same _ g 0 #[.bool b] 4 (.bool c) h).trans (by simp)
theorem BlB.obj {V : World} {g D : Nat} {b : Bool} (h : BlB V g b) (hD : g ≠ D) (o : Obj) : BlB (V.putObj D o) g b :=
  ((grownBy_putObj' V D o).block g h.lt (fun e => hD (Option.some.inj e))).trans h
theorem results_bool {fn : Func} {p : Tmp} (h : fn.results = #[.cell p 4]) (tmps : Array Value) (w : World) (g : Nat) (b : Bool) (hp : tmps.getD p undef = .pointer (some ⟨g, 0, none⟩)) (h2 : BlB w g b) :
    (results fn tmps).run Try.prog w = .ok (.bool b) w := by
  have hp' : tmps[p]?.getD undef = .pointer (some ⟨g, 0, none⟩) := by simpa using hp
  have hc := h2.cell
  have e2 : (loadVar 4 ⟨g, 0, none⟩).run Try.prog w = .ok (.bool b) w := by
    simp [loadVar, isAgg, run_underlying Try.underlying4, hc, go_sem]
  simp [results, h, hp', asAddr, e2]
theorem ownPostG_ret {α : Type} {B : Nat} {Kp : World → World → Prop} {I : List α → World → Prop} {Ix : Code → List α → World → Prop} {xs : List α} {W W' : World} {a : Act} (h : KeepsFrom B W W') (h2 : Ix .ret xs W') : ownPostG B Kp I Ix xs W .ret a W' := ⟨h, h2⟩
theorem two (w : World) (o0 o1 : Obj) (B : Nat) (hB : w.heap.size = B) : ∃ W0, (w.alloc o0).alloc o1 = W0 ∧ W0.heap[B]? = some o0 ∧ W0.heap[B + 1]? = some o1 ∧ Below B w W0 ∧ W0.heap.size = B + 2 := by
  subst hB
  have a0 := heap_alloc_new w o0
  have a1 := heap_alloc_new (w.alloc o0) o1
  simp only [World.size_alloc] at a1
  exact ⟨_, rfl, (Below.heap_alloc _ _ _ (by simp)).trans a0, a1, balloc (balloc (Below.refl _ _) _) _, by simp⟩
theorem ranges_c {l : List AX.Pr} {k : Int} {r : Bool} (h : AX.ranges l k = r) (v : Value) (w : World) (hl : l.length ≤ 1000000000000) (hv : PrAt w v l) :
    Calls Try.prog 32 #[v, .int .i64 k] w fun e w' => e = .returned (.bool r) ∧ Below w.heap.size w w' := by
  have := ranges_any l v k w hl hv
  rwa [h] at this
set_option maxHeartbeats 8000000 in
theorem within_in (n : Nat) (hn : 4 ≤ n) (at' : List Int) (l : List AX.Pr) (va v : Value) (w : World) (hal : at'.length ≤ 1000000000000) (hl : l.length ≤ 1000000000000) (ha : InAt w va at') (hv : PrAt w v l) :
    CallsIn Fence.wide n Try.prog 34 #[va, v] w fun e w' => e = .returned (.bool (AX.within at' l)) ∧ Below w.heap.size w w' := by
  have h1 : 1 ≤ n := by omega
  have HV : Hid (∀ V, Below w.heap.size w V → PrAt V v l) := Lib.hid fun V hV => hv.keep hV
  have HA : Hid (∀ V, Below w.heap.size w V → InAt V va at') := Lib.hid fun V hV => ha.keep hV
  obtain ⟨a, c, rfl, -⟩ := hv
  obtain ⟨aa, ac, rfl, -⟩ := ha
  obtain ⟨m, hm⟩ : ∃ m, l.length = m := ⟨_, rfl⟩
  obtain ⟨k, hk⟩ : ∃ k, at'.length = k := ⟨_, rfl⟩
  have HM := Lib.hid hm
  have HK := Lib.hid hk
  rw [hm] at hl HV ⊢
  rw [hk] at hal HA ⊢
  obtain ⟨r1, hr1⟩ : ∃ r, AX.ranges l (k : Int) = r := ⟨_, rfl⟩
  have CR : Hid (∀ V, Below w.heap.size w V → Calls Try.prog 32 #[.slice a m c, .int .i64 (k : Int)] V fun e w' => e = .returned (.bool r1) ∧ Below V.heap.size V w') := Lib.hid fun V hV => ranges_c hr1 _ _ (by rw [HM.out]; exact hl) (HV.out V hV)
  have HR1 := Lib.hid hr1
  clear hm hk hr1
  refine callsIn_of_wp_marks Try.func34 rfl trivial ?_ rfl
  simp only [Try.ntmps34, List.size_toArray, List.length_cons, List.length_nil, Nat.reduceAdd, Nat.reduceSub, Array.replicate_succ, Array.replicate_zero, List.push_toArray, List.append_toArray, List.nil_append, List.cons_append]
  gi_wp2_with fail
  refine ⟨trivial, ?_⟩
  gi_at_call 32
  obtain ⟨W0, hW0⟩ : ∃ W0, w.alloc (.cells #[.bool false] 4) = W0 := ⟨_, rfl⟩
  obtain ⟨B, hB⟩ : ∃ B, w.heap.size = B := ⟨_, rfl⟩
  have hs1 : BlB W0 B false := by rw [← hW0, ← hB]; exact heap_alloc_new w _
  have hb0 : Below w.heap.size w W0 := by rw [← hW0]; exact balloc (Below.refl _ _) _
  rw [hW0, hB]
  have HB := Lib.hid hB
  clear hW0 hB
  refine (callsIn_wide.2 (CR.out _ hb0)).mono ?_
  rintro e w1 ⟨rfl, k1⟩
  have hs1' := hs1.keep k1
  have x0 := hs1'.cell
  have f0 := hs1'.frozen
  cases r1 with
  | false =>
    gi_wp2
    have hno : AX.within at' l = false := AX.within_no (by rw [HK.out, HR1.out])
    have hbe := bset (bnext hb0 k1) (p := ⟨B, 0, none⟩) (by rw [HB.out]; exact Nat.le_refl _) (.bool false)
    exact retM (results_bool rfl _ _ B false rfl (hs1'.put false)) ⟨by rw [hno], hbe⟩
  | true =>
    gi_wp2_with (refine ⟨trivial, ?_⟩; gi_at_call 67; refine (callsIn_wide.2 (boI_any _ _ _ _ _ _ rfl _ _ _ rfl)).mono ?_; rintro e w4 ⟨rfl, rfl⟩)
    obtain ⟨C, hC⟩ : ∃ C, w1.heap.size = C := ⟨_, rfl⟩
    obtain ⟨W4, hW4, b1, b2, hb4, hsz⟩ := two w1 (.cells #[.slice aa k ac] 25) (.cells #[.slice a m c] 22) C hC
    rw [hW4]
    rw [hC]
    have hbw3 : Below w.heap.size w w1 := bnext hb0 k1
    have hb4' : Below w1.heap.size w1 W4 := by rw [hC]; exact hb4
    have hbw4 : Below w.heap.size w W4 := bnext hbw3 hb4'
    have hBC : B < C := by have := hs1'.lt; omega
    have q1 : W4.cell? ⟨C, 0, none⟩ = some (.slice aa k ac) := by simp [World.cell?, b1]
    have q2 : W4.cell? ⟨C + 1, 0, none⟩ = some (.slice a m c) := by simp [World.cell?, b2]
    have HC := Lib.hid hC
    have HSZ := Lib.hid hsz
    have hlen : Hid (∀ pre x, AX.zpre at' l pre → (at'.zip l)[pre.length]? = some x → AX.zpre at' l (pre ++ [x])) := Lib.hid AX.zpre_step
    clear x0 f0 hC hW4
    refine range_given rfl h1 (gf := 77) (lb := #[.pointer (some ⟨C, 0, none⟩), .pointer (some ⟨C + 1, 0, none⟩)]) rfl trivial (enters_of Try.func77 (by kernel_rfl) rfl)
      (boI_given (n - 1) (by omega) C (C + 1) (C + 2) at' l (.slice aa k ac) (.slice a m c) (by rw [HK.out]; exact hal) (by rw [HM.out]; exact hl) w1 W4 hb4' (by rw [HC.out]; omega) (HA.out _ hbw3) (HV.out _ hbw3) (by omega) (by omega) q1 q2)
      KpN.trans (fun W l o o' hl h _ _ => kpn_put hl h) (Below.refl _ _) (fun _ => rfl)
      (fun pre U => AX.zpre at' l pre ∧ (∀ x ∈ pre, AX.ins x = true) ∧ Below W4.heap.size W4 U)
      (fun e pre U => e = .ret ∧ AX.within at' l = false ∧ BlB U B false ∧ Below w.heap.size w U)
      (OwnFrom.and (ownFrom_pure _ _) (OwnFrom.and (ownFrom_pure _ _) (ownFrom_below (Nat.le_refl _) (Nat.le_refl _))))
      (fun e pre X Y row hs hg hr => by obtain ⟨h1, h2, h3, h5⟩ := hs; exact ⟨h1, h2, row_kept h3 hg (fun r e => (hr r e).2), h5.grown hg h5.size (fun r e => by have := (hr r e).1; have := hbw4.size; omega)⟩)
      (fun pre X Y b hs hg hb _ _ => ⟨hs.1, hs.2.1, hs.2.2.grown hg hs.2.2.size (fun k e => by cases e; exact hb)⟩)
      (fun e pre X Y b hs hg hb _ _ => by obtain ⟨h1, h2, h3, h5⟩ := hs; exact ⟨h1, h2, (hg.block B h3.lt (fun e => by have := Option.some.inj e; omega)).trans h3, h5.grown hg h5.size (fun r e => by have := Option.some.inj e; have := hbw4.size; omega)⟩)
      ⟨AX.zpre_nil, by simp, Below.refl _ _⟩
      (fun pre x a' U => ∃ (Bx : Nat), W4.heap.size ≤ Bx ∧ (at'.zip l)[pre.length]? = some x ∧ U.heap[Bx]? = some (.cells #[.int .i64 x.2.1, .int .i64 x.2.2] 30 (0, 0)) ∧ a' = { tmps := #[.slice aa k ac, .slice a m c, undef, undef, .pointer (some ⟨B, 0, none⟩), .int .i64 x.1, .pointer (some ⟨Bx, 0, none⟩), .slice a m c, .slice aa k ac, .int .i64 (k : Int), .bool true, .bool false, .slice aa k ac, .slice a m c, .func (.func 77) #[] #[.pointer (some ⟨C, 0, none⟩), .pointer (some ⟨C + 1, 0, none⟩)], .int .i64 x.1, .agg #[.int .i64 x.2.1, .int .i64 x.2.2], undef, undef, undef, undef, undef, undef, undef, undef, undef, undef], defers := [] })
      (fun pre x a' _ X Y row hs hg hr => by obtain ⟨Bx, h1, h2, h3, h4⟩ := hs; exact ⟨Bx, h1, h2, row_kept h3 hg (fun r e => (hr r e).2), h4⟩)
      ?assign ?body ?done ?stop
    case assign =>
      rintro L pre ⟨xn, x1, x2⟩ U K ⟨hz, hin, hbU⟩ hx hK
      simp only [boIE]
      have HKK := Lib.hid hK
      have HX := Lib.hid hx
      clear hK hx
      gi_wp2
      have hbA : Below U.heap.size U (U.alloc (.cells #[.int .i64 x1, .int .i64 x2] 30)) := (Below.refl _ U).alloc (Nat.le_refl _) _
      exact HKK.out _ _ ((KeepsOthers.alloc _ _).from _) (KpN.of hbA hbU.size) ⟨hz, hin, hbU.alloc hbU.size _⟩ ⟨U.heap.size, hbU.size, HX.out, heap_alloc_new U _, rfl⟩
    case body =>
      rintro L pre ⟨xn, x1, x2⟩ a' U hL hr ⟨hz, hin, hbU⟩ ⟨Bx, hBx, hx, hdb, rfl⟩
      have HZ := Lib.hid (hlen.out pre _ hz hx)
      have HIN := Lib.hid hin
      have HX := Lib.hid hx
      have HBU := Lib.hid hbU
      have HBW := Lib.hid (bnext hbw4 hbU)
      have hbB : BlB U B false := (hbU.block B (by omega)).trans ((hb4.block B hBC).trans hs1')
      simp only at hdb
      have d0 : U.cell? ⟨Bx, 0, none⟩ = some (.int .i64 x1) := by simp [World.cell?, hdb]
      have d1 : U.cell? ⟨Bx, 1, none⟩ = some (.int .i64 x2) := by simp [World.cell?, hdb]
      have x0 := hbB.cell
      have f0 := hbB.frozen
      clear hz hx hin hr hL hbU
      by_cases hlo : xn < x1
      · gi_wp2
        have hno : AX.within at' l = false := AX.within_out HX.out (by unfold AX.ins; simp; omega)
        exact ownPostG_ret (((KeepsOthers.setCell _ _ _)).from _) ⟨rfl, hno, hbB.put false, bset HBW.out (by rw [HB.out]; exact Nat.le_refl _) _⟩
      · by_cases hhi : x2 < xn
        · gi_wp2
          have hno : AX.within at' l = false := AX.within_out HX.out (by unfold AX.ins; simp; omega)
          exact ownPostG_ret (((KeepsOthers.setCell _ _ _)).from _) ⟨rfl, hno, hbB.put false, bset HBW.out (by rw [HB.out]; exact Nat.le_refl _) _⟩
        · gi_wp2
          refine ⟨(KeepsOthers.refl _).from _, KpN.refl _ _, HZ.out, ?_, by have := HBU.out; rwa [HSZ.out] at this⟩
          intro y1 y2 y3 hx
          rcases List.mem_append.1 hx with hx | hx
          · exact HIN.out _ hx
          · obtain ⟨rfl, rfl, rfl⟩ : y1 = xn ∧ y2 = x1 ∧ y3 = x2 := by simpa using hx
            unfold AX.ins
            simp
            omega
    case done =>
      rintro D zs W hD hzs ⟨hz, hin, hbW⟩ hKD
      have hzz := AX.zpre_end hz hzs
      subst hzz
      have hyes : AX.within at' l = true := AX.within_yes (by rw [HK.out, HR1.out]) hin
      have HY := Lib.hid hyes
      have hbB : BlB W B false := (hbW.block B (by omega)).trans ((hb4.block B hBC).trans hs1')
      have x0 := hbB.cell
      have f0 := hbB.frozen
      have HBW := Lib.hid (bnext hbw4 hbW)
      have hlt := hbB.lt
      have hBD : B ≠ D := by omega
      clear hz hzs hyes hbW hin
      gi_wp2
      have hbe := bset HBW.out (p := ⟨B, 0, none⟩) (by rw [HB.out]; exact Nat.le_refl _) (.bool true)
      have hKD' : (W.setCell ⟨B, 0, none⟩ (.bool true)).heap[D]? = some (.deferred (some [])) := (Below.heap_setCell _ _ _ _ (by simp; omega)).trans hKD
      refine ⟨by simp, .inl ⟨_, _, rfl, run_takeDeferred hKD', ?_⟩⟩
      exact ⟨_, results_bool rfl _ _ B true rfl ((hbB.put true).obj hBD _), by rw [HY.out], hbe.trans (belowK_b (w := w) (Nat.le_refl _) _ D _ _ (by rw [HB.out]; omega) hKD' rfl rfl)⟩
    case stop =>
      rintro D e pre W hD - ⟨rfl, hno, hbB, hbW⟩ hKD
      have HY := Lib.hid hno
      have HBW := Lib.hid hbW
      have hlt := hbB.lt
      have hBD : B ≠ D := by omega
      clear hno hbW
      gi_wp2
      refine ⟨by simp, .inl ⟨_, _, rfl, run_takeDeferred hKD, ?_⟩⟩
      exact ⟨_, results_bool rfl _ _ B false rfl (hbB.obj hBD _), by rw [HY.out], HBW.out.trans (belowK_b (w := w) (Nat.le_refl _) _ D _ _ (by rw [HB.out]; omega) hKD rfl rfl)⟩
theorem within_any (at' : List Int) (l : List AX.Pr) (va v : Value) (w : World) (hal : at'.length ≤ 1000000000000) (hl : l.length ≤ 1000000000000) (ha : InAt w va at') (hv : PrAt w v l) :
    Calls Try.prog 34 #[va, v] w fun e w' => e = .returned (.bool (AX.within at' l)) ∧ Below w.heap.size w w' :=
  callsIn_wide.1 (within_in 4 (Nat.le_refl _) at' l va v w hal hl ha hv)
end Go.Proofs.Ytbhkbjnmpaebdaa
