/- Scalar of the program. No conditions. -/
import Derived.Test.YtbhkbjnmpaebdaaAx2a
import Derived.Test.YtbhkbjnmpaebdaaMarks
import Derived.Test.YtbhkbjnmpaebdaaHeldIn
import Derived.Deep.Cut
namespace Go.Proofs.Ytbhkbjnmpaebdaa.AX
def prod (xs : List (Tn × Int)) : Int × Int := xs.foldl (fun p x => (F.FP.timesS p.1 p.2 (strength x.1 x.2).1 (strength x.1 x.2).2).1) (1, 1)
theorem prod_snoc (xs : List (Tn × Int)) (x : Tn × Int) : prod (xs ++ [x]) = (F.FP.timesS (prod xs).1 (prod xs).2 (strength x.1 x.2).1 (strength x.1 x.2).2).1 := by
  unfold prod
  rw [List.foldl_append]
  rfl
def scalar (l : List Tn) (at' : List Int) : Int × Int := if right l (at'.length : Int) = true ∧ coords at' = true then prod (l.zip at') else (0, 1)
def zpre {α β : Type} (l : List α) (at' : List β) (pre : List (α × β)) : Prop := pre = (l.zip at').take pre.length
theorem zpre_nil {α β : Type} {l : List α} {at' : List β} : zpre l at' [] := rfl
theorem zpre_step {α β : Type} {l : List α} {at' : List β} (pre : List (α × β)) (x : α × β) (h : zpre l at' pre) (hx : (l.zip at')[pre.length]? = some x) : zpre l at' (pre ++ [x]) := by
  unfold zpre at h ⊢
  rw [List.length_append, List.length_singleton, List.take_add_one, ← h, hx]
  rfl
theorem zpre_end {α β : Type} {l : List α} {at' : List β} {pre : List (α × β)} (h : zpre l at' pre) (hl : pre.length = (l.zip at').length) : pre = l.zip at' := by
  unfold zpre at h
  rw [h, hl, List.take_length]
end Go.Proofs.Ytbhkbjnmpaebdaa.AX
namespace Go.Proofs.Ytbhkbjnmpaebdaa
set_option maxRecDepth 100000
set_option linter.unusedVariables false
open Go.RowKit Go.Shelf Go.Deep
attribute [local go_sem] Oper.semAt_some
theorem right_c {l : List AX.Tn} {k : Int} {r : Bool} (h : AX.right l k = r) (v : Value) (w : World) (hl : l.length ≤ 1000000000000) (hv : TnAt w v l) :
    Calls Try.prog 23 #[.agg #[v], .int .i64 k] w fun e w' => e = .returned (.bool r) ∧ Below w.heap.size w w' := by
  have := right_any l v k w hl hv
  rwa [h] at this
theorem coords_c {l : List Int} {r : Bool} (h : AX.coords l = r) (v : Value) (w : World) (hl : l.length ≤ 1000000000000) (hv : InAt w v l) :
    Calls Try.prog 56 #[v] w fun e w' => e = .returned (.bool r) ∧ w' = w := by
  have := coords_any l v w hl hv.row
  rwa [h] at this
theorem str_c {t : AX.Tn} {n : Int} {r : Int × Int} (h : AX.strength t n = r) (w : World) (ht : AX.tent t = true) (hn : AX.coord n = true) :
    Calls Try.prog 59 #[.agg #[.int .i64 t.1, .int .i64 t.2.1, .int .i64 t.2.2], .int .i64 n] w fun e w' => e = .returned (.agg #[.int .i64 r.1, .int .i64 r.2]) ∧ Below w.heap.size w w' := by
  have := str_any t n w ht hn
  rwa [h] at this
theorem times_c {p s : Int × Int} {r : (Int × Int) × Bool} (h : F.FP.timesS p.1 p.2 s.1 s.2 = r) (w : World) :
    Calls Try.prog 38 #[.agg #[.int .i64 p.1, .int .i64 p.2], .agg #[.int .i64 s.1, .int .i64 s.2]] w fun e w' => e = .returned (.tuple #[.agg #[.int .i64 r.1.1, .int .i64 r.1.2], .bool r.2]) ∧ Below w.heap.size w w' := by
  have := F.times_any p.1 p.2 s.1 s.2 w
  rwa [h] at this
theorem keeps_below {A B : World} (h : Below A.heap.size A B) : KeepsOthers A B := ⟨h.size, fun k o hk _ => (h.block k (Array.getElem?_eq_some_iff.1 hk).1).trans hk⟩
theorem row_kept {X Y : World} {row : Option Nat} {B : Nat} {c : Array Value} {t : TypeId} (h : X.heap[B]? = some (.cells c t (0, 0))) (hg : X.grownBy Y row) (hr : ∀ r, row = some r → ∃ o : Obj, X.heap[r]? = some o ∧ o.isCells = false) : Y.heap[B]? = some (.cells c t (0, 0)) :=
  (hg.block B (Array.getElem?_eq_some_iff.1 h).1 (fun e => by obtain ⟨o, ho, hc⟩ := hr B e.symm; rw [h] at ho; cases ho; cases hc)).trans h
theorem retM {F : Fence} {n : Nat} {P : Program} {fn : Func} {R : Ending → World → Prop} {tmps : Array Value} {w : World} {v : Value} (h1 : (results fn tmps).run P w = .ok v w) (h2 : R (.returned v) w) : bodyPostM F n P fn R .ret { tmps := tmps, defers := [] } w := ⟨v, h1, h2⟩
theorem sc_set {U w6 : World} {N C : Nat} (hb : Below U.heap.size U w6) (hN : N ≤ U.heap.size) {p : Int × Int} (hs : ScB w6 C p) (q : Int × Int) : KpN (N, C) U ((w6.setCell ⟨C, 0, none⟩ (.int .i64 q.1)).setCell ⟨C, 1, none⟩ (.int .i64 q.2)) :=
  ⟨by simpa using hb.size, fun x hx hne => by
    rw [World.cell?_setCell_far _ _ _ _ (fun e => hne e.symm), World.cell?_setCell_far _ _ _ _ (fun e => hne e.symm)]
    exact hb.cell (Nat.lt_of_lt_of_le hx hN)⟩
theorem cells3 {V : World} {g : Nat} {a b c : Value} {T : TypeId} (h : V.heap[g]? = some (.cells #[a, b, c] T (0, 0))) : V.cell? ⟨g, 0, none⟩ = some a ∧ V.cell? ⟨g, 1, none⟩ = some b ∧ V.cell? ⟨g, 2, none⟩ = some c := by simp [World.cell?, h]
theorem scalar_no {l : List AX.Tn} {at' : List Int} (h : ¬ (AX.right l (at'.length : Int) = true ∧ AX.coords at' = true)) : AX.scalar l at' = (0, 1) := by unfold AX.scalar; rw [if_neg h]
theorem three (w : World) (o0 o1 o2 : Obj) (B : Nat) (hB : w.heap.size = B) : ∃ W0, ((w.alloc o0).alloc o1).alloc o2 = W0 ∧ W0.heap[B]? = some o0 ∧ W0.heap[B + 1]? = some o1 ∧ W0.heap[B + 2]? = some o2 ∧ Below B w W0 ∧ W0.heap.size = B + 3 := by
  subst hB
  have a0 := heap_alloc_new w o0
  have a1 := heap_alloc_new (w.alloc o0) o1
  have a2 := heap_alloc_new ((w.alloc o0).alloc o1) o2
  simp only [World.size_alloc] at a1 a2
  refine ⟨_, rfl, ?_, ?_, a2, balloc (balloc (balloc (Below.refl _ _) _) _) _, by simp⟩
  · exact (Below.heap_alloc _ _ _ (by simp; omega)).trans ((Below.heap_alloc _ _ _ (by simp)).trans a0)
  · exact (Below.heap_alloc _ _ _ (by simp)).trans a1
set_option maxHeartbeats 8000000 in
theorem scalar_in (n : Nat) (hn : 4 ≤ n) (l : List AX.Tn) (at' : List Int) (v va : Value) (w : World) (hl : l.length ≤ 1000000000000) (hal : at'.length ≤ 1000000000000) (hv : TnAt w v l) (ha : InAt w va at') :
    CallsIn Fence.wide n Try.prog 25 #[.agg #[v], va] w fun e w' => e = .returned (.agg #[.int .i64 (AX.scalar l at').1, .int .i64 (AX.scalar l at').2]) ∧ Below w.heap.size w w' := by
  have h1 : 1 ≤ n := by omega
  have HV : Hid (∀ V, Below w.heap.size w V → TnAt V v l) := Lib.hid fun V hV => hv.keep hV
  have HA : Hid (∀ V, Below w.heap.size w V → InAt V va at') := Lib.hid fun V hV => ha.keep hV
  obtain ⟨a, c, rfl, -⟩ := hv
  obtain ⟨aa, ac, rfl, -⟩ := ha
  obtain ⟨m, hm⟩ : ∃ m, l.length = m := ⟨_, rfl⟩
  obtain ⟨k, hk⟩ : ∃ k, at'.length = k := ⟨_, rfl⟩
  have HM := Lib.hid hm
  have HK := Lib.hid hk
  rw [hm] at hl HV ⊢
  rw [hk] at hal HA ⊢
  obtain ⟨r1, hr1⟩ : ∃ r, AX.right l (k : Int) = r := ⟨_, rfl⟩
  obtain ⟨r2, hr2⟩ : ∃ r, AX.coords at' = r := ⟨_, rfl⟩
  have CR : Hid (∀ V, Below w.heap.size w V → Calls Try.prog 23 #[.agg #[.slice a m c], .int .i64 (k : Int)] V fun e w' => e = .returned (.bool r1) ∧ Below V.heap.size V w') := Lib.hid fun V hV => right_c hr1 _ _ (by rw [HM.out]; exact hl) (HV.out V hV)
  have CC : Hid (∀ V, Below w.heap.size w V → Calls Try.prog 56 #[.slice aa k ac] V fun e w' => e = .returned (.bool r2) ∧ w' = V) := Lib.hid fun V hV => coords_c hr2 _ _ (by rw [HK.out]; exact hal) (HA.out V hV)
  have HR1 := Lib.hid hr1
  have HR2 := Lib.hid hr2
  clear hm hk hr1 hr2
  refine callsIn_of_wp_marks Try.func25 rfl trivial ?_ rfl
  simp only [Try.ntmps25, List.size_toArray, List.length_cons, List.length_nil, Nat.reduceAdd, Nat.reduceSub, Array.replicate_succ, Array.replicate_zero, List.push_toArray, List.append_toArray, List.nil_append, List.cons_append]
  gi_wp2_with fail
  refine ⟨trivial, ?_⟩
  gi_at_call 23
  obtain ⟨W0, hW0⟩ : ∃ W0, (w.alloc (.cells #[.slice a m c] 42)).alloc (.cells #[.int .i64 0, .int .i64 0] 50) = W0 := ⟨_, rfl⟩
  obtain ⟨B, hB⟩ : ∃ B, w.heap.size = B := ⟨_, rfl⟩
  have hs1 : ScB W0 (B + 1) (0, 0) := by rw [← hW0, ← hB]; have := heap_alloc_new (w.alloc (.cells #[.slice a m c] 42)) (.cells #[.int .i64 0, .int .i64 0] 50); rw [World.size_alloc] at this; exact this
  have hv0 : W0.heap[B]? = some (.cells #[.slice a m c] 42 (0, 0)) := by rw [← hW0, ← hB]; exact (Below.heap_alloc _ _ _ (by simp)).trans (heap_alloc_new w _)
  have hb0 : Below w.heap.size w W0 := by rw [← hW0]; exact balloc (balloc (Below.refl _ _) _) _
  rw [hW0, hB]
  have HB := Lib.hid hB
  clear hW0 hB
  refine (callsIn_wide.2 (CR.out _ hb0)).mono ?_
  rintro e w1 ⟨rfl, k1⟩
  have hs1' := hs1.keep k1
  have hv1 := (k1.block B (Array.getElem?_eq_some_iff.1 hv0).1).trans hv0
  cases r1 with
  | false =>
    gi_wp2_with (refine ⟨trivial, ?_⟩; first | (gi_at_call 57; refine (callsIn_wide.2 (fr_c (a := 0) (b := 1) (r := (0, 1)) rfl _ (by omega) (by omega) (by omega) (by omega) (by omega))).mono ?_; rintro e w3 ⟨rfl, k3⟩; have hs3 := ScB.keep hs1' k3; obtain ⟨x0, x1⟩ := hs3.cells; have f0 := hs3.frozen 0; have f1 := hs3.frozen 1) | skip)
    have hno : AX.scalar l at' = (0, 1) := scalar_no (by rw [HK.out, HR1.out]; simp)
    have hbe := bset (bset (bnext (bnext hb0 k1) k3) (p := ⟨B + 1, 0, none⟩) (by rw [HB.out]; exact Nat.le_succ _) (.int .i64 0)) (p := ⟨B + 1, 1, none⟩) (by rw [HB.out]; exact Nat.le_succ _) (.int .i64 1)
    exact retM (results_cell_row Try.results25 _ _ (B + 1) 50 _ (0, 0) _ rfl (ScB.put hs3 (0, 1)) Try.underlying50 rfl (by kernel_rfl)) ⟨by rw [hno], hbe⟩
  | true =>
    gi_wp2_with fail
    refine ⟨trivial, ?_⟩
    gi_at_call 56
    refine (callsIn_wide.2 (CC.out _ (bnext hb0 k1))).mono ?_
    rintro e w2 ⟨rfl, rfl⟩
    cases r2 with
    | false =>
      gi_wp2_with (refine ⟨trivial, ?_⟩; first | (gi_at_call 57; refine (callsIn_wide.2 (fr_c (a := 0) (b := 1) (r := (0, 1)) rfl _ (by omega) (by omega) (by omega) (by omega) (by omega))).mono ?_; rintro e w3 ⟨rfl, k3⟩; have hs3 := ScB.keep hs1' k3; obtain ⟨x0, x1⟩ := hs3.cells; have f0 := hs3.frozen 0; have f1 := hs3.frozen 1) | skip)
      have hno : AX.scalar l at' = (0, 1) := scalar_no (by rw [HK.out, HR1.out, HR2.out]; simp)
      have hbe := bset (bset (bnext (bnext hb0 k1) k3) (p := ⟨B + 1, 0, none⟩) (by rw [HB.out]; exact Nat.le_succ _) (.int .i64 0)) (p := ⟨B + 1, 1, none⟩) (by rw [HB.out]; exact Nat.le_succ _) (.int .i64 1)
      exact retM (results_cell_row Try.results25 _ _ (B + 1) 50 _ (0, 0) _ rfl (ScB.put hs3 (0, 1)) Try.underlying50 rfl (by kernel_rfl)) ⟨by rw [hno], hbe⟩
    | true =>
      gi_wp2_with (refine ⟨trivial, ?_⟩; first | (gi_at_call 57; refine (callsIn_wide.2 (fr_c (a := 1) (b := 1) (r := (1, 1)) rfl _ (by omega) (by omega) (by omega) (by omega) (by omega))).mono ?_; rintro e w3 ⟨rfl, k3⟩; have hs3 := ScB.keep hs1' k3; have hv3 := (k3.block B (Array.getElem?_eq_some_iff.1 hv1).1).trans hv1; have y0 : w3.cell? ⟨B, 0, none⟩ = some (.slice a m c) := (by simp [World.cell?, hv3]); have yb : (w3.alloc (.cells #[.int .i64 1, .int .i64 1] 50)).cell? ⟨B, 0, none⟩ = some (.slice a m c) := (by rw [← y0]; exact (balloc (Below.refl _ _) _).cell (Array.getElem?_eq_some_iff.1 hv3).1); have hne : w3.heap.size ≠ B := (by have := (Array.getElem?_eq_some_iff.1 hv3).1; omega); have hne' : B ≠ w3.heap.size := hne.symm) | (gi_at_call 58; refine (callsIn_wide.2 (boT_any _ _ _ _ _ _ rfl _ _ _ rfl)).mono ?_; rintro e w4 ⟨rfl, rfl⟩))
      obtain ⟨C, hC⟩ : ∃ C, w3.heap.size = C := ⟨_, rfl⟩
      obtain ⟨W4, hW4, b0, b1, b2, hb4, hsz⟩ := three w3 (.cells #[.int .i64 1, .int .i64 1] 50) (.cells #[.slice a m c] 40) (.cells #[.slice aa k ac] 25) C hC
      rw [hW4]
      rw [hC] at hne hne' ⊢
      have hbw3 : Below w.heap.size w w3 := bnext (bnext hb0 k1) k3
      have hb4' : Below w3.heap.size w3 W4 := by rw [hC]; exact hb4
      have hbw4 : Below w.heap.size w W4 := bnext hbw3 hb4'
      have hBC : B + 1 < C := by have := hs3.lt; omega
      have q1 : W4.cell? ⟨C + 1, 0, none⟩ = some (.slice a m c) := by simp [World.cell?, b1]
      have q2 : W4.cell? ⟨C + 2, 0, none⟩ = some (.slice aa k ac) := by simp [World.cell?, b2]
      have HC := Lib.hid hC
      have HSZ := Lib.hid hsz
      have hlen : Hid (∀ pre x, AX.zpre l at' pre → (l.zip at')[pre.length]? = some x → AX.zpre l at' (pre ++ [x])) := Lib.hid AX.zpre_step
      clear y0 yb hC hW4 hne hne' hv3
      refine range_given rfl h1 (gf := 74) (lb := #[.pointer (some ⟨C + 1, 0, none⟩), .pointer (some ⟨C + 1 + 1, 0, none⟩)]) rfl trivial (enters_of Try.func74 (by kernel_rfl) rfl)
        (boT_given (n - 1) (by omega) (C + 1) (C + 2) C l at' (.slice a m c) (.slice aa k ac) (by rw [HM.out]; exact hl) (by rw [HK.out]; exact hal) w3 W4 hb4' (by rw [HC.out]; exact Nat.le_refl _) (HV.out _ hbw3) (HA.out _ hbw3) (by omega) (by omega) q1 q2)
        KpN.trans (fun W l o o' hl h _ _ => kpn_put hl h) (Below.refl _ _) (fun _ => rfl)
        (fun pre U => AX.zpre l at' pre ∧ ScB U C (AX.prod pre) ∧ Below C w3 U ∧ W4.heap.size ≤ U.heap.size)
        (fun e pre U => False)
        (OwnFrom.and (ownFrom_pure _ _) (OwnFrom.and (fun pre X Y row hs hg hr => row_kept hs hg (fun r e => (hr r e).2)) (OwnFrom.and (ownFrom_below (by rw [HC.out]; exact Nat.le_refl _) (by omega)) (fun pre X Y row hs hg hr => Nat.le_trans hs hg.size))))
        (fun e pre X Y row hs hg hr => hs)
        (fun pre X Y b hs hg hb _ _ => ⟨hs.1, (hg.block C hs.2.1.lt (fun e => by have := Option.some.inj e; omega)).trans hs.2.1, hs.2.2.1.grown hg (by have := hs.2.1.lt; omega) (fun k e => by cases e; omega), Nat.le_trans hs.2.2.2 hg.size⟩)
        (fun e pre X Y b hs hg hb _ _ => hs)
        ⟨AX.zpre_nil, b0, hb4, Nat.le_refl _⟩
        (fun pre x a' U => ∃ (Bx : Nat), W4.heap.size ≤ Bx ∧ (l.zip at')[pre.length]? = some x ∧ U.heap[Bx]? = some (.cells #[.int .i64 x.1.1, .int .i64 x.1.2.1, .int .i64 x.1.2.2] 71 (0, 0)) ∧ a' = { tmps := #[.agg #[.slice a m c], .slice aa k ac, .pointer (some ⟨B, 0, none⟩), undef, .pointer (some ⟨B + 1, 0, none⟩), .pointer (some ⟨C, 0, none⟩), .pointer (some ⟨Bx, 0, none⟩), .int .i64 x.2, .agg #[.slice a m c], .slice aa k ac, .int .i64 (k : Int), .bool true, .bool false, .bool false, .slice aa k ac, .bool true, .bool false, .bool false, undef, .agg #[.int .i64 1, .int .i64 1], .pointer (some ⟨B, 0, none⟩), .slice a m c, .slice aa k ac, .func (.func 74) #[] #[.pointer (some ⟨C + 1, 0, none⟩), .pointer (some ⟨C + 1 + 1, 0, none⟩)], .agg #[.int .i64 x.1.1, .int .i64 x.1.2.1, .int .i64 x.1.2.2], .int .i64 x.2, undef, undef, undef, undef, undef, undef, undef, undef, undef], defers := [] })
        (fun pre x a' _ X Y row hs hg hr => by obtain ⟨Bx, h1, h2, h3, h4⟩ := hs; exact ⟨Bx, h1, h2, row_kept h3 hg (fun r e => (hr r e).2), h4⟩)
        ?assign ?body ?done ?stop
      case stop => rintro D e pre W hD - h hKD; exact h.elim
      case assign =>
        rintro L pre ⟨⟨xf, xp, xq⟩, xn⟩ U K ⟨hz, hsc, hbU, hsU⟩ hx hK
        simp only [boTE]
        have HKK := Lib.hid hK
        have HX := Lib.hid hx
        clear hK hx
        gi_wp2
        have hbA : Below U.heap.size U (U.alloc (.cells #[.int .i64 xf, .int .i64 xp, .int .i64 xq] 71)) := (Below.refl _ U).alloc (Nat.le_refl _) _
        exact HKK.out _ _ ((KeepsOthers.alloc _ _).from _) (KpN.of hbA hsU) ⟨hz, hsc.keep hbA, hbU.alloc (by have := hsc.lt; omega) _, Nat.le_trans hsU hbA.size⟩ ⟨U.heap.size, hsU, HX.out, heap_alloc_new U _, rfl⟩
      case body =>
        rintro L pre ⟨⟨xf, xp, xq⟩, xn⟩ a' U hL hr ⟨hz, hsc, hbU, hsU⟩ ⟨Bx, hBx, hx, hdb, rfl⟩
        have hx2 := List.getElem?_zip_eq_some.1 hx
        have htn : AX.tent (xf, xp, xq) = true := ((AX.right_iff _ _).1 HR1.out).2 _ (List.mem_of_getElem? hx2.1)
        have hco : AX.coord xn = true := ((AX.coords_iff _).1 HR2.out).1 _ (List.mem_of_getElem? hx2.2)
        have hpr := AX.prod_snoc pre ((xf, xp, xq), xn)
        obtain ⟨⟨p1, p2⟩, hp⟩ : ∃ p, AX.prod pre = p := ⟨_, rfl⟩
        obtain ⟨⟨s1, s2⟩, hs⟩ : ∃ p, AX.strength (xf, xp, xq) xn = p := ⟨_, rfl⟩
        simp only at hpr
        rw [hp, hs] at hpr
        rw [hp] at hsc
        obtain ⟨⟨⟨r1, r2⟩, rb⟩, hr1⟩ : ∃ r, F.FP.timesS p1 p2 s1 s2 = r := ⟨_, rfl⟩
        simp only at hpr
        rw [hr1] at hpr
        have CS : Hid (∀ V, Calls Try.prog 59 #[.agg #[.int .i64 xf, .int .i64 xp, .int .i64 xq], .int .i64 xn] V fun e w' => e = .returned (.agg #[.int .i64 s1, .int .i64 s2]) ∧ Below V.heap.size V w') := Lib.hid fun V => str_c hs V htn hco
        have CT : Hid (∀ V, Calls Try.prog 38 #[.agg #[.int .i64 p1, .int .i64 p2], .agg #[.int .i64 s1, .int .i64 s2]] V fun e w' => e = .returned (.tuple #[.agg #[.int .i64 r1, .int .i64 r2], .bool rb]) ∧ Below V.heap.size V w') := Lib.hid fun V => times_c (p := (p1, p2)) (s := (s1, s2)) hr1 V
        have HZ := Lib.hid (hlen.out pre _ hz hx)
        have HPR := Lib.hid hpr
        have HBU := Lib.hid hbU
        have hCB : C ≠ Bx := by omega
        have hCU := hsc.lt
        have hBU := (Array.getElem?_eq_some_iff.1 hdb).1
        have hp' := hp
        obtain ⟨c0, c1⟩ := hsc.cells
        clear hp hs hr1 hpr hz hx hx2 htn hco hr hL hbU hp'
        gi_wp2_with fail
        refine wpIn_region_held (fun w' => w'.cell? ⟨Bx, 0, none⟩ = some (.int .i64 xf) ∧ w'.cell? ⟨Bx, 1, none⟩ = some (.int .i64 xp) ∧ w'.cell? ⟨Bx, 2, none⟩ = some (.int .i64 xq)) (by kernel_rfl) (by kernel_rfl) ?_ (fun hHeld => ?_)
        · first | exact cells3 hx6 | exact cells3 hx5 | exact cells3 hdb | exact cells3 ((Below.heap_setCell _ _ _ _ (by simp; omega)).trans ((Below.heap_setCell _ _ _ _ (by simp; omega)).trans hx6))
        refine wpAnyH_take (i := 1) (oi := { dst := some 28, op := Op.load 71 (Operand.tmp 6), type := 71, pos := "axes.go:137", after := #[], guard := none }) (v := ?_) rfl (by kernel_rfl) (by kernel_rfl) (by kernel_rfl) (fun _ _ _ h => h) (Or.inl ⟨by rfl, ?_⟩) (by assumption) ?_
        rotate_left
        · ((intro w hSw; (try dsimp only at hSw); go_simp; (try rw [if_neg (by omega)])); try with_reducible rfl)
        (try simp only [Act.put, List.setIfInBounds_toArray, List.set_cons_zero, List.set_cons_succ])
        refine wpAnyH_take (i := 2) (oi := { dst := some 29, op := Op.move (Operand.tmp 7), type := 3, pos := "axes.go:137", after := #[], guard := none }) (v := ?_) rfl (by kernel_rfl) (by kernel_rfl) (by kernel_rfl) (fun _ _ _ h => h) (Or.inl ⟨by rfl, ?_⟩) (by assumption) ?_
        rotate_left
        · ((intro w hSw; (try dsimp only at hSw); go_simp; (try rw [if_neg (by omega)])); try with_reducible rfl)
        (try simp only [Act.put, List.setIfInBounds_toArray, List.set_cons_zero, List.set_cons_succ])
        refine wpAnyH_ready (rs := [0, 3]) (by kernel_rfl) (by simp) ?_
        refine AllReadyH.cons (o := { dst := some 27, op := Op.load 50 (Operand.tmp 5), type := 50, pos := "axes.go:137", after := #[], guard := none }) rfl (fun K hK => ?_) ?_
        · go_simp
          refine hK.out _ _ ?_ (fun hHeld => ?_)
          · first | exact cells3 hx6 | exact cells3 hx5 | exact cells3 hdb | exact cells3 ((Below.heap_setCell _ _ _ _ (by simp; omega)).trans ((Below.heap_setCell _ _ _ _ (by simp; omega)).trans hx6))
          clear hK K
          (try simp only [Act.put, List.setIfInBounds_toArray, List.set_cons_zero, List.set_cons_succ])
          refine wpAnyH_ready (rs := [3]) (by kernel_rfl) (by simp) ?_
          refine AllReadyH.cons (o := { dst := some 30, op := Op.call { callee := Callee.value (Operand.func 59), args := #[Operand.tmp 28, Operand.tmp 29], argTypes := #[71, 3] }, type := 50, pos := "axes.go:137", after := #[{ on := 1, ground := Ground.data }, { on := 2, ground := Ground.data }], guard := none }) rfl (fun K hK => ?_) ?_
          · (go_simp; go_at_call 59; refine (CS.out _).mono ?_; rintro e w5 ⟨rfl, hb5⟩; have hx5 := (hb5.block Bx hBU).trans hdb; have hs5 := ScB.keep (V := U.drew) hsc hb5; obtain ⟨d0, d1⟩ := hs5.cells; dsimp only)
            refine hK.out _ _ ?_ (fun hHeld => ?_)
            · first | exact cells3 hx6 | exact cells3 hx5 | exact cells3 hdb | exact cells3 ((Below.heap_setCell _ _ _ _ (by simp; omega)).trans ((Below.heap_setCell _ _ _ _ (by simp; omega)).trans hx6))
            clear hK K
            (try simp only [Act.put, List.setIfInBounds_toArray, List.set_cons_zero, List.set_cons_succ])
            refine wpAnyH_ready (rs := [4]) (by kernel_rfl) (by simp) ?_
            refine AllReadyH.cons (o := { dst := some 31, op := Op.call { callee := Callee.value (Operand.func 38), args := #[Operand.tmp 27, Operand.tmp 30], argTypes := #[50, 50] }, type := 72, pos := "axes.go:137", after := #[{ on := 0, ground := Ground.data }, { on := 3, ground := Ground.data }, { on := 3, ground := Ground.chain }], guard := none }) rfl (fun K hK => ?_) ?_
            · (go_simp; go_at_call 38; refine (CT.out _).mono ?_; rintro e w6 ⟨rfl, hb6⟩; have hx6 := (hb6.block Bx (Array.getElem?_eq_some_iff.1 hx5).1).trans hx5; have hs6 := ScB.keep hs5 hb6; obtain ⟨e0, e1⟩ := hs6.cells; have f0 := hs6.frozen 0; have f1 := hs6.frozen 1; dsimp only)
              refine hK.out _ _ ?_ (fun hHeld => ?_)
              · first | exact cells3 hx6 | exact cells3 hx5 | exact cells3 hdb | exact cells3 ((Below.heap_setCell _ _ _ _ (by simp; omega)).trans ((Below.heap_setCell _ _ _ _ (by simp; omega)).trans hx6))
              clear hK K
              (try simp only [Act.put, List.setIfInBounds_toArray, List.set_cons_zero, List.set_cons_succ])
              refine wpAnyH_take (i := 5) (oi := { dst := some 26, op := Op.move (Operand.tmp 31), type := 72, pos := "axes.go:137", after := #[{ on := 4, ground := Ground.data }], guard := none }) (v := ?_) rfl (by kernel_rfl) (by kernel_rfl) (by kernel_rfl) (fun _ _ _ h => h) (Or.inl ⟨by rfl, ?_⟩) (by assumption) ?_
              rotate_left
              · ((intro w hSw; (try dsimp only at hSw); go_simp; (try rw [if_neg (by omega)])); try with_reducible rfl)
              (try simp only [Act.put, List.setIfInBounds_toArray, List.set_cons_zero, List.set_cons_succ])
              refine wpAnyH_take (i := 6) (oi := { dst := some 32, op := Op.extract (Operand.tmp 26) 0, type := 50, pos := "axes.go:137", after := #[{ on := 5, ground := Ground.data }], guard := none }) (v := ?_) rfl (by kernel_rfl) (by kernel_rfl) (by kernel_rfl) (fun _ _ _ h => h) (Or.inl ⟨by rfl, ?_⟩) (by assumption) ?_
              rotate_left
              · ((intro w hSw; (try dsimp only at hSw); go_simp; (try rw [if_neg (by omega)])); try with_reducible rfl)
              (try simp only [Act.put, List.setIfInBounds_toArray, List.set_cons_zero, List.set_cons_succ])
              refine wpAnyH_take (i := 7) (oi := { dst := some 33, op := Op.extract (Operand.tmp 26) 1, type := 4, pos := "axes.go:137", after := #[{ on := 5, ground := Ground.data }, { on := 8, ground := Ground.gcOnly Departure.lateStores }], guard := none }) (v := ?_) rfl (by kernel_rfl) (by kernel_rfl) (by kernel_rfl) (fun _ _ _ h => h) (Or.inl ⟨by rfl, ?_⟩) (by assumption) ?_
              rotate_left
              · ((intro w hSw; (try dsimp only at hSw); go_simp; (try rw [if_neg (by omega)])); try with_reducible rfl)
              (try simp only [Act.put, List.setIfInBounds_toArray, List.set_cons_zero, List.set_cons_succ])
              refine wpAnyH_ready (rs := [8]) (by kernel_rfl) (by simp) ?_
              refine AllReadyH.cons (o := { dst := none, op := Op.store 50 (Operand.tmp 5) (Operand.tmp 32), type := 0, pos := "axes.go:137", after := #[{ on := 6, ground := Ground.data }, { on := 4, ground := Ground.chain }, { on := 0, ground := Ground.phase }, { on := 1, ground := Ground.phase }, { on := 2, ground := Ground.phase }, { on := 3, ground := Ground.phase }, { on := 4, ground := Ground.phase }, { on := 5, ground := Ground.phase }, { on := 6, ground := Ground.phase }, { on := 7, ground := Ground.textOnly Departure.lateStores }], guard := none }) rfl (fun K hK => ?_) ?_
              · go_simp
                refine hK.out _ _ ?_ (fun hHeld => ?_)
                · first | exact cells3 hx6 | exact cells3 hx5 | exact cells3 hdb | exact cells3 ((Below.heap_setCell _ _ _ _ (by simp; omega)).trans ((Below.heap_setCell _ _ _ _ (by simp; omega)).trans hx6))
                clear hK K
                (try simp only [Act.put, List.setIfInBounds_toArray, List.set_cons_zero, List.set_cons_succ])
                refine wpAnyH_done (by kernel_rfl) ?_ _
                simp only [onlyN]
                gi_wp2
                have hq6 := hs6.put (r1, r2)
                have hb5d : Below U.heap.size U w5 := bnext (Below.drew (Below.refl _ U)) hb5
                have hb6d : Below U.heap.size U w6 := bnext hb5d hb6
                have hbz := bset (bset (bnext (w := w3) (by rw [HC.out]; exact HBU.out) hb6d) (p := ⟨C, 0, none⟩) (by rw [HC.out]; exact Nat.le_refl _) (.int .i64 r1)) (p := ⟨C, 1, none⟩) (by rw [HC.out]; exact Nat.le_refl _) (.int .i64 r2)
                rw [HC.out] at hbz
                exact ⟨((keeps_below hb6d).trans ((KeepsOthers.setCell _ _ _).trans (KeepsOthers.setCell _ _ _))).from _, sc_set hb6d (by omega) hs6 (r1, r2), HZ.out, by rw [HPR.out]; exact hq6, hbz, by have := hb6d.size; simp; omega⟩
              exact AllReadyH.nil
            exact AllReadyH.nil
          exact AllReadyH.nil
        refine AllReadyH.cons (o := { dst := some 30, op := Op.call { callee := Callee.value (Operand.func 59), args := #[Operand.tmp 28, Operand.tmp 29], argTypes := #[71, 3] }, type := 50, pos := "axes.go:137", after := #[{ on := 1, ground := Ground.data }, { on := 2, ground := Ground.data }], guard := none }) rfl (fun K hK => ?_) ?_
        · (go_simp; go_at_call 59; refine (CS.out _).mono ?_; rintro e w5 ⟨rfl, hb5⟩; have hx5 := (hb5.block Bx hBU).trans hdb; have hs5 := ScB.keep (V := U.drew) hsc hb5; obtain ⟨d0, d1⟩ := hs5.cells; dsimp only)
          refine hK.out _ _ ?_ (fun hHeld => ?_)
          · first | exact cells3 hx6 | exact cells3 hx5 | exact cells3 hdb | exact cells3 ((Below.heap_setCell _ _ _ _ (by simp; omega)).trans ((Below.heap_setCell _ _ _ _ (by simp; omega)).trans hx6))
          clear hK K
          (try simp only [Act.put, List.setIfInBounds_toArray, List.set_cons_zero, List.set_cons_succ])
          refine wpAnyH_ready (rs := [0]) (by kernel_rfl) (by simp) ?_
          refine AllReadyH.cons (o := { dst := some 27, op := Op.load 50 (Operand.tmp 5), type := 50, pos := "axes.go:137", after := #[], guard := none }) rfl (fun K hK => ?_) ?_
          · go_simp
            refine hK.out _ _ ?_ (fun hHeld => ?_)
            · first | exact cells3 hx6 | exact cells3 hx5 | exact cells3 hdb | exact cells3 ((Below.heap_setCell _ _ _ _ (by simp; omega)).trans ((Below.heap_setCell _ _ _ _ (by simp; omega)).trans hx6))
            clear hK K
            (try simp only [Act.put, List.setIfInBounds_toArray, List.set_cons_zero, List.set_cons_succ])
            refine wpAnyH_ready (rs := [4]) (by kernel_rfl) (by simp) ?_
            refine AllReadyH.cons (o := { dst := some 31, op := Op.call { callee := Callee.value (Operand.func 38), args := #[Operand.tmp 27, Operand.tmp 30], argTypes := #[50, 50] }, type := 72, pos := "axes.go:137", after := #[{ on := 0, ground := Ground.data }, { on := 3, ground := Ground.data }, { on := 3, ground := Ground.chain }], guard := none }) rfl (fun K hK => ?_) ?_
            · (go_simp; go_at_call 38; refine (CT.out _).mono ?_; rintro e w6 ⟨rfl, hb6⟩; have hx6 := (hb6.block Bx (Array.getElem?_eq_some_iff.1 hx5).1).trans hx5; have hs6 := ScB.keep hs5 hb6; obtain ⟨e0, e1⟩ := hs6.cells; have f0 := hs6.frozen 0; have f1 := hs6.frozen 1; dsimp only)
              refine hK.out _ _ ?_ (fun hHeld => ?_)
              · first | exact cells3 hx6 | exact cells3 hx5 | exact cells3 hdb | exact cells3 ((Below.heap_setCell _ _ _ _ (by simp; omega)).trans ((Below.heap_setCell _ _ _ _ (by simp; omega)).trans hx6))
              clear hK K
              (try simp only [Act.put, List.setIfInBounds_toArray, List.set_cons_zero, List.set_cons_succ])
              refine wpAnyH_take (i := 5) (oi := { dst := some 26, op := Op.move (Operand.tmp 31), type := 72, pos := "axes.go:137", after := #[{ on := 4, ground := Ground.data }], guard := none }) (v := ?_) rfl (by kernel_rfl) (by kernel_rfl) (by kernel_rfl) (fun _ _ _ h => h) (Or.inl ⟨by rfl, ?_⟩) (by assumption) ?_
              rotate_left
              · ((intro w hSw; (try dsimp only at hSw); go_simp; (try rw [if_neg (by omega)])); try with_reducible rfl)
              (try simp only [Act.put, List.setIfInBounds_toArray, List.set_cons_zero, List.set_cons_succ])
              refine wpAnyH_take (i := 6) (oi := { dst := some 32, op := Op.extract (Operand.tmp 26) 0, type := 50, pos := "axes.go:137", after := #[{ on := 5, ground := Ground.data }], guard := none }) (v := ?_) rfl (by kernel_rfl) (by kernel_rfl) (by kernel_rfl) (fun _ _ _ h => h) (Or.inl ⟨by rfl, ?_⟩) (by assumption) ?_
              rotate_left
              · ((intro w hSw; (try dsimp only at hSw); go_simp; (try rw [if_neg (by omega)])); try with_reducible rfl)
              (try simp only [Act.put, List.setIfInBounds_toArray, List.set_cons_zero, List.set_cons_succ])
              refine wpAnyH_take (i := 7) (oi := { dst := some 33, op := Op.extract (Operand.tmp 26) 1, type := 4, pos := "axes.go:137", after := #[{ on := 5, ground := Ground.data }, { on := 8, ground := Ground.gcOnly Departure.lateStores }], guard := none }) (v := ?_) rfl (by kernel_rfl) (by kernel_rfl) (by kernel_rfl) (fun _ _ _ h => h) (Or.inl ⟨by rfl, ?_⟩) (by assumption) ?_
              rotate_left
              · ((intro w hSw; (try dsimp only at hSw); go_simp; (try rw [if_neg (by omega)])); try with_reducible rfl)
              (try simp only [Act.put, List.setIfInBounds_toArray, List.set_cons_zero, List.set_cons_succ])
              refine wpAnyH_ready (rs := [8]) (by kernel_rfl) (by simp) ?_
              refine AllReadyH.cons (o := { dst := none, op := Op.store 50 (Operand.tmp 5) (Operand.tmp 32), type := 0, pos := "axes.go:137", after := #[{ on := 6, ground := Ground.data }, { on := 4, ground := Ground.chain }, { on := 0, ground := Ground.phase }, { on := 1, ground := Ground.phase }, { on := 2, ground := Ground.phase }, { on := 3, ground := Ground.phase }, { on := 4, ground := Ground.phase }, { on := 5, ground := Ground.phase }, { on := 6, ground := Ground.phase }, { on := 7, ground := Ground.textOnly Departure.lateStores }], guard := none }) rfl (fun K hK => ?_) ?_
              · go_simp
                refine hK.out _ _ ?_ (fun hHeld => ?_)
                · first | exact cells3 hx6 | exact cells3 hx5 | exact cells3 hdb | exact cells3 ((Below.heap_setCell _ _ _ _ (by simp; omega)).trans ((Below.heap_setCell _ _ _ _ (by simp; omega)).trans hx6))
                clear hK K
                (try simp only [Act.put, List.setIfInBounds_toArray, List.set_cons_zero, List.set_cons_succ])
                refine wpAnyH_done (by kernel_rfl) ?_ _
                simp only [onlyN]
                gi_wp2
                have hq6 := hs6.put (r1, r2)
                have hb5d : Below U.heap.size U w5 := bnext (Below.drew (Below.refl _ U)) hb5
                have hb6d : Below U.heap.size U w6 := bnext hb5d hb6
                have hbz := bset (bset (bnext (w := w3) (by rw [HC.out]; exact HBU.out) hb6d) (p := ⟨C, 0, none⟩) (by rw [HC.out]; exact Nat.le_refl _) (.int .i64 r1)) (p := ⟨C, 1, none⟩) (by rw [HC.out]; exact Nat.le_refl _) (.int .i64 r2)
                rw [HC.out] at hbz
                exact ⟨((keeps_below hb6d).trans ((KeepsOthers.setCell _ _ _).trans (KeepsOthers.setCell _ _ _))).from _, sc_set hb6d (by omega) hs6 (r1, r2), HZ.out, by rw [HPR.out]; exact hq6, hbz, by have := hb6d.size; simp; omega⟩
              exact AllReadyH.nil
            exact AllReadyH.nil
          exact AllReadyH.nil
        exact AllReadyH.nil
      case done =>
        rintro D zs W hD hzs ⟨hz, hsc, hbW, hsW⟩ hKD
        have hzz := AX.zpre_end hz hzs
        subst hzz
        have hyes : AX.scalar l at' = AX.prod (l.zip at') := by
          unfold AX.scalar
          rw [HK.out, HR1.out, HR2.out, if_pos ⟨rfl, rfl⟩]
        obtain ⟨⟨p1, p2⟩, hp⟩ : ∃ p, AX.prod (l.zip at') = p := ⟨_, rfl⟩
        rw [hp] at hsc hyes
        have HY := Lib.hid hyes
        have hs1W : ScB W (B + 1) (0, 0) := (hbW.block (B + 1) hBC).trans hs3
        obtain ⟨c0, c1⟩ := hsc.cells
        obtain ⟨d0, d1⟩ := hs1W.cells
        have f0 := hs1W.frozen 0
        have f1 := hs1W.frozen 1
        have hsz1 := hs1W.lt
        have hD1 : C + 3 ≤ D := by omega
        have HBW := Lib.hid (bnext hbw3 (by rw [HC.out]; exact hbW))
        clear hz hzs hyes hp hbW
        gi_wp2
        have hq1 := hs1W.put (p1, p2)
        have hbe := bset (bset HBW.out (p := ⟨B + 1, 0, none⟩) (by rw [HB.out]; exact Nat.le_succ _) (.int .i64 p1)) (p := ⟨B + 1, 1, none⟩) (by rw [HB.out]; exact Nat.le_succ _) (.int .i64 p2)
        have hKD' : ((W.setCell ⟨B + 1, 0, none⟩ (.int .i64 p1)).setCell ⟨B + 1, 1, none⟩ (.int .i64 p2)).heap[D]? = some (.deferred (some [])) := (Below.heap_setCell _ _ _ _ (by simp; omega)).trans ((Below.heap_setCell _ _ _ _ (by simp; omega)).trans hKD)
        refine ⟨by simp, .inl ⟨_, _, rfl, run_takeDeferred hKD', ?_⟩⟩
        have hq2 := ((grownBy_putObj' _ D (.deferred none)).block (B + 1) hq1.lt (fun e => by have := Option.some.inj e; omega)).trans hq1
        exact ⟨_, results_cell_row Try.results25 _ _ (B + 1) 50 _ (0, 0) _ rfl hq2 Try.underlying50 rfl (by kernel_rfl), by rw [HY.out], hbe.trans (belowK_b (w := w) (Nat.le_refl _) _ D _ _ (by rw [HB.out]; omega) hKD' rfl rfl)⟩
theorem scalar_any (l : List AX.Tn) (at' : List Int) (v va : Value) (w : World) (hl : l.length ≤ 1000000000000) (hal : at'.length ≤ 1000000000000) (hv : TnAt w v l) (ha : InAt w va at') :
    Calls Try.prog 25 #[.agg #[v], va] w fun e w' => e = .returned (.agg #[.int .i64 (AX.scalar l at').1, .int .i64 (AX.scalar l at').2]) ∧ Below w.heap.size w w' :=
  callsIn_wide.1 (scalar_in 4 (Nat.le_refl _) l at' v va w hl hal hv ha)
end Go.Proofs.Ytbhkbjnmpaebdaa
