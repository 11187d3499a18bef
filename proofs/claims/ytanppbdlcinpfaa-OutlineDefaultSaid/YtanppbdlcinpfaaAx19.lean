/- Texts merged: AxSc, Ax8, Ax19. No conditions. -/
import Derived.Test.YtanppbdlcinpfaaAx2a
import Derived.Test.YtanppbdlcinpfaaHeldIn
import Derived.Deep.Cut
import Derived.Deep.RegionHeld
/- Scalar of the program. No conditions. -/
section
namespace Go.Proofs.Ytanppbdlcinpfaa.AX
def prod (xs : List (Tn × Int)) : Int × Int := xs.foldl (fun p x => (F.FP.timesS p.1 p.2 (strength x.1 x.2).1 (strength x.1 x.2).2).1) (1, 1)
theorem prod_snoc (xs : List (Tn × Int)) (x : Tn × Int) : prod (xs ++ [x]) = (F.FP.timesS (prod xs).1 (prod xs).2 (strength x.1 x.2).1 (strength x.1 x.2).2).1 := by
  unfold prod
  rw [List.foldl_append]
  rfl
def scalar (l : List Tn) (at' : List Int) : Int × Int := if right l (at'.length : Int) = true ∧ coords at' = true then prod (l.zip at') else (0, 1)
def zpre {α β : Type} (l : List α) (at' : List β) (pre : List (α × β)) : Prop := pre = (l.zip at').take pre.length
theorem zpre_nil {α β : Type} {l : List α} {at' : List β} : zpre l at' [] := rfl
theorem zpre_step {α β : Type} {l : List α} {at' : List β} (pre : List (α × β)) (x : α × β) (h : zpre l at' pre) (hx : (l.zip at')[pre.length]? = some x) : zpre l at' (pre ++ [x]) := by
  unfold zpre at h ⊢
  rw [List.length_append, List.length_singleton, List.take_add_one, ← h, hx]
  rfl
theorem zpre_end {α β : Type} {l : List α} {at' : List β} {pre : List (α × β)} (h : zpre l at' pre) (hl : pre.length = (l.zip at').length) : pre = l.zip at' := by
  unfold zpre at h
  rw [h, hl, List.take_length]
end Go.Proofs.Ytanppbdlcinpfaa.AX
namespace Go.Proofs.Ytanppbdlcinpfaa
set_option maxRecDepth 100000
set_option linter.unusedVariables false
open Go.RowKit Go.Shelf Go.Deep
attribute [local go_sem] Oper.semAt_some
theorem right_c {l : List AX.Tn} {k : Int} {r : Bool} (h : AX.right l k = r) (v : Value) (w : World) (hl : l.length ≤ 1000000000000) (hv : TnAt w v l) :
    Calls Try.prog 34 #[.agg #[v], .int .i64 k] w fun e w' => e = .returned (.bool r) ∧ Below w.heap.size w w' := by
  have := right_any l v k w hl hv
  rwa [h] at this
theorem coords_c {l : List Int} {r : Bool} (h : AX.coords l = r) (v : Value) (w : World) (hl : l.length ≤ 1000000000000) (hv : InAt w v l) :
    Calls Try.prog 57 #[v] w fun e w' => e = .returned (.bool r) ∧ w' = w := by
  have := coords_any l v w hl hv.row
  rwa [h] at this
theorem str_c {t : AX.Tn} {n : Int} {r : Int × Int} (h : AX.strength t n = r) (w : World) (ht : AX.tent t = true) (hn : AX.coord n = true) :
    Calls Try.prog 61 #[.agg #[.int .i64 t.1, .int .i64 t.2.1, .int .i64 t.2.2], .int .i64 n] w fun e w' => e = .returned (.agg #[.int .i64 r.1, .int .i64 r.2]) ∧ Below w.heap.size w w' := by
  have := str_any t n w ht hn
  rwa [h] at this
theorem times_c {p s : Int × Int} {r : (Int × Int) × Bool} (h : F.FP.timesS p.1 p.2 s.1 s.2 = r) (w : World) :
    Calls Try.prog 60 #[.agg #[.int .i64 p.1, .int .i64 p.2], .agg #[.int .i64 s.1, .int .i64 s.2]] w fun e w' => e = .returned (.tuple #[.agg #[.int .i64 r.1.1, .int .i64 r.1.2], .bool r.2]) ∧ Below w.heap.size w w' := by
  have := F.times_any p.1 p.2 s.1 s.2 w
  rwa [h] at this
theorem keeps_below {A B : World} (h : Below A.heap.size A B) : KeepsOthers A B := ⟨h.size, fun k o hk _ => (h.block k (Array.getElem?_eq_some_iff.1 hk).1).trans hk⟩
theorem row_kept {X Y : World} {row : Option Nat} {B : Nat} {c : Array Value} {t : TypeId} (h : X.heap[B]? = some (.cells c t (0, 0))) (hg : X.grownBy Y row) (hr : ∀ r, row = some r → ∃ o : Obj, X.heap[r]? = some o ∧ o.isCells = false) : Y.heap[B]? = some (.cells c t (0, 0)) :=
  (hg.block B (Array.getElem?_eq_some_iff.1 h).1 (fun e => by obtain ⟨o, ho, hc⟩ := hr B e.symm; rw [h] at ho; cases ho; cases hc)).trans h
theorem retM {F : Fence} {n : Nat} {P : Program} {fn : Func} {R : Ending → World → Prop} {tmps : Array Value} {w : World} {v : Value} (h1 : (results fn tmps).run P w = .ok v w) (h2 : R (.returned v) w) : bodyPostM F n P fn R .ret { tmps := tmps, defers := [] } w := ⟨v, h1, h2⟩
theorem sc_set {U w6 : World} {N C : Nat} (hb : Below U.heap.size U w6) (hN : N ≤ U.heap.size) {p : Int × Int} (hs : ScB w6 C p) (q : Int × Int) : KpN (N, C) U ((w6.setCell ⟨C, 0, none⟩ (.int .i64 q.1)).setCell ⟨C, 1, none⟩ (.int .i64 q.2)) :=
  ⟨by simpa using hb.size, fun x hx hne => by
    rw [World.cell?_setCell_far _ _ _ _ (fun e => hne e.symm), World.cell?_setCell_far _ _ _ _ (fun e => hne e.symm)]
    exact hb.cell (Nat.lt_of_lt_of_le hx hN)⟩
theorem cells3 {V : World} {g : Nat} {a b c : Value} {T : TypeId} (h : V.heap[g]? = some (.cells #[a, b, c] T (0, 0))) : V.cell? ⟨g, 0, none⟩ = some a ∧ V.cell? ⟨g, 1, none⟩ = some b ∧ V.cell? ⟨g, 2, none⟩ = some c := by simp [World.cell?, h]
theorem scalar_no {l : List AX.Tn} {at' : List Int} (h : ¬ (AX.right l (at'.length : Int) = true ∧ AX.coords at' = true)) : AX.scalar l at' = (0, 1) := by unfold AX.scalar; rw [if_neg h]
theorem three (w : World) (o0 o1 o2 : Obj) (B : Nat) (hB : w.heap.size = B) : ∃ W0, ((w.alloc o0).alloc o1).alloc o2 = W0 ∧ W0.heap[B]? = some o0 ∧ W0.heap[B + 1]? = some o1 ∧ W0.heap[B + 2]? = some o2 ∧ Below B w W0 ∧ W0.heap.size = B + 3 := by
  subst hB
  have a0 := heap_alloc_new w o0
  have a1 := heap_alloc_new (w.alloc o0) o1
  have a2 := heap_alloc_new ((w.alloc o0).alloc o1) o2
  simp only [World.size_alloc] at a1 a2
  refine ⟨_, rfl, ?_, ?_, a2, balloc (balloc (balloc (Below.refl _ _) _) _) _, by simp⟩
  · exact (Below.heap_alloc _ _ _ (by simp; omega)).trans ((Below.heap_alloc _ _ _ (by simp)).trans a0)
  · exact (Below.heap_alloc _ _ _ (by simp)).trans a1
set_option maxHeartbeats 8000000 in
theorem scalar_in (n : Nat) (hn : 4 ≤ n) (l : List AX.Tn) (at' : List Int) (v va : Value) (w : World) (hl : l.length ≤ 1000000000000) (hal : at'.length ≤ 1000000000000) (hv : TnAt w v l) (ha : InAt w va at') :
    CallsIn Fence.wide n Try.prog 22 #[.agg #[v], va] w fun e w' => e = .returned (.agg #[.int .i64 (AX.scalar l at').1, .int .i64 (AX.scalar l at').2]) ∧ Below w.heap.size w w' := by
  have h1 : 1 ≤ n := by omega
  have HV : Hid (∀ V, Below w.heap.size w V → TnAt V v l) := Lib.hid fun V hV => hv.keep hV
  have HA : Hid (∀ V, Below w.heap.size w V → InAt V va at') := Lib.hid fun V hV => ha.keep hV
  obtain ⟨a, c, rfl, -⟩ := hv
  obtain ⟨aa, ac, rfl, -⟩ := ha
  obtain ⟨m, hm⟩ : ∃ m, l.length = m := ⟨_, rfl⟩
  obtain ⟨k, hk⟩ : ∃ k, at'.length = k := ⟨_, rfl⟩
  have HM := Lib.hid hm
  have HK := Lib.hid hk
  rw [hm] at hl HV ⊢
  rw [hk] at hal HA ⊢
  obtain ⟨r1, hr1⟩ : ∃ r, AX.right l (k : Int) = r := ⟨_, rfl⟩
  obtain ⟨r2, hr2⟩ : ∃ r, AX.coords at' = r := ⟨_, rfl⟩
  have CR : Hid (∀ V, Below w.heap.size w V → Calls Try.prog 34 #[.agg #[.slice a m c], .int .i64 (k : Int)] V fun e w' => e = .returned (.bool r1) ∧ Below V.heap.size V w') := Lib.hid fun V hV => right_c hr1 _ _ (by rw [HM.out]; exact hl) (HV.out V hV)
  have CC : Hid (∀ V, Below w.heap.size w V → Calls Try.prog 57 #[.slice aa k ac] V fun e w' => e = .returned (.bool r2) ∧ w' = V) := Lib.hid fun V hV => coords_c hr2 _ _ (by rw [HK.out]; exact hal) (HA.out V hV)
  have HR1 := Lib.hid hr1
  have HR2 := Lib.hid hr2
  clear hm hk hr1 hr2
  refine callsIn_of_wp_marks Try.func22 rfl trivial ?_ rfl
  simp only [Try.ntmps22, List.size_toArray, List.length_cons, List.length_nil, Nat.reduceAdd, Nat.reduceSub, Array.replicate_succ, Array.replicate_zero, List.push_toArray, List.append_toArray, List.nil_append, List.cons_append]
  gi_wp2_with fail
  refine ⟨trivial, ?_⟩
  gi_at_call 34
  obtain ⟨W0, hW0⟩ : ∃ W0, (w.alloc (.cells #[.slice a m c] 63)).alloc (.cells #[.int .i64 0, .int .i64 0] 65) = W0 := ⟨_, rfl⟩
  obtain ⟨B, hB⟩ : ∃ B, w.heap.size = B := ⟨_, rfl⟩
  have hs1 : ScB W0 (B + 1) (0, 0) := by rw [← hW0, ← hB]; have := heap_alloc_new (w.alloc (.cells #[.slice a m c] 63)) (.cells #[.int .i64 0, .int .i64 0] 65); rw [World.size_alloc] at this; exact this
  have hv0 : W0.heap[B]? = some (.cells #[.slice a m c] 63 (0, 0)) := by rw [← hW0, ← hB]; exact (Below.heap_alloc _ _ _ (by simp)).trans (heap_alloc_new w _)
  have hb0 : Below w.heap.size w W0 := by rw [← hW0]; exact balloc (balloc (Below.refl _ _) _) _
  rw [hW0, hB]
  have HB := Lib.hid hB
  clear hW0 hB
  refine (callsIn_wide.2 (CR.out _ hb0)).mono ?_
  rintro e w1 ⟨rfl, k1⟩
  have hs1' := hs1.keep k1
  have hv1 := (k1.block B (Array.getElem?_eq_some_iff.1 hv0).1).trans hv0
  cases r1 with
  | false =>
    gi_wp2_with (refine ⟨trivial, ?_⟩; first | (gi_at_call 58; refine (callsIn_wide.2 (fr_c (a := 0) (b := 1) (r := (0, 1)) rfl _ (by omega) (by omega) (by omega) (by omega) (by omega))).mono ?_; rintro e w3 ⟨rfl, k3⟩; have hs3 := ScB.keep hs1' k3; obtain ⟨x0, x1⟩ := hs3.cells; have f0 := hs3.frozen 0; have f1 := hs3.frozen 1) | skip)
    have hno : AX.scalar l at' = (0, 1) := scalar_no (by rw [HK.out, HR1.out]; simp)
    have hbe := bset (bset (bnext (bnext hb0 k1) k3) (p := ⟨B + 1, 0, none⟩) (by rw [HB.out]; exact Nat.le_succ _) (.int .i64 0)) (p := ⟨B + 1, 1, none⟩) (by rw [HB.out]; exact Nat.le_succ _) (.int .i64 1)
    exact retM (results_cell_row Try.results22 _ _ (B + 1) 65 _ (0, 0) _ rfl (ScB.put hs3 (0, 1)) Try.underlying65 rfl (by kernel_rfl)) ⟨by rw [hno], hbe⟩
  | true =>
    gi_wp2_with fail
    refine ⟨trivial, ?_⟩
    gi_at_call 57
    refine (callsIn_wide.2 (CC.out _ (bnext hb0 k1))).mono ?_
    rintro e w2 ⟨rfl, rfl⟩
    cases r2 with
    | false =>
      gi_wp2_with (refine ⟨trivial, ?_⟩; first | (gi_at_call 58; refine (callsIn_wide.2 (fr_c (a := 0) (b := 1) (r := (0, 1)) rfl _ (by omega) (by omega) (by omega) (by omega) (by omega))).mono ?_; rintro e w3 ⟨rfl, k3⟩; have hs3 := ScB.keep hs1' k3; obtain ⟨x0, x1⟩ := hs3.cells; have f0 := hs3.frozen 0; have f1 := hs3.frozen 1) | skip)
      have hno : AX.scalar l at' = (0, 1) := scalar_no (by rw [HK.out, HR1.out, HR2.out]; simp)
      have hbe := bset (bset (bnext (bnext hb0 k1) k3) (p := ⟨B + 1, 0, none⟩) (by rw [HB.out]; exact Nat.le_succ _) (.int .i64 0)) (p := ⟨B + 1, 1, none⟩) (by rw [HB.out]; exact Nat.le_succ _) (.int .i64 1)
      exact retM (results_cell_row Try.results22 _ _ (B + 1) 65 _ (0, 0) _ rfl (ScB.put hs3 (0, 1)) Try.underlying65 rfl (by kernel_rfl)) ⟨by rw [hno], hbe⟩
    | true =>
      gi_wp2_with (refine ⟨trivial, ?_⟩; first | (gi_at_call 58; refine (callsIn_wide.2 (fr_c (a := 1) (b := 1) (r := (1, 1)) rfl _ (by omega) (by omega) (by omega) (by omega) (by omega))).mono ?_; rintro e w3 ⟨rfl, k3⟩; have hs3 := ScB.keep hs1' k3; have hv3 := (k3.block B (Array.getElem?_eq_some_iff.1 hv1).1).trans hv1; have y0 : w3.cell? ⟨B, 0, none⟩ = some (.slice a m c) := (by simp [World.cell?, hv3]); have yb : (w3.alloc (.cells #[.int .i64 1, .int .i64 1] 65)).cell? ⟨B, 0, none⟩ = some (.slice a m c) := (by rw [← y0]; exact (balloc (Below.refl _ _) _).cell (Array.getElem?_eq_some_iff.1 hv3).1); have hne : w3.heap.size ≠ B := (by have := (Array.getElem?_eq_some_iff.1 hv3).1; omega); have hne' : B ≠ w3.heap.size := hne.symm) | (gi_at_call 59; refine (callsIn_wide.2 (boT_any _ _ _ _ _ _ rfl _ _ _ rfl)).mono ?_; rintro e w4 ⟨rfl, rfl⟩))
      obtain ⟨C, hC⟩ : ∃ C, w3.heap.size = C := ⟨_, rfl⟩
      obtain ⟨W4, hW4, b0, b1, b2, hb4, hsz⟩ := three w3 (.cells #[.int .i64 1, .int .i64 1] 65) (.cells #[.slice a m c] 61) (.cells #[.slice aa k ac] 22) C hC
      rw [hW4]
      rw [hC] at hne hne' ⊢
      have hbw3 : Below w.heap.size w w3 := bnext (bnext hb0 k1) k3
      have hb4' : Below w3.heap.size w3 W4 := by rw [hC]; exact hb4
      have hbw4 : Below w.heap.size w W4 := bnext hbw3 hb4'
      have hBC : B + 1 < C := by have := hs3.lt; omega
      have q1 : W4.cell? ⟨C + 1, 0, none⟩ = some (.slice a m c) := by simp [World.cell?, b1]
      have q2 : W4.cell? ⟨C + 2, 0, none⟩ = some (.slice aa k ac) := by simp [World.cell?, b2]
      have HC := Lib.hid hC
      have HSZ := Lib.hid hsz
      have hlen : Hid (∀ pre x, AX.zpre l at' pre → (l.zip at')[pre.length]? = some x → AX.zpre l at' (pre ++ [x])) := Lib.hid AX.zpre_step
      clear y0 yb hC hW4 hne hne' hv3
      refine range_given rfl h1 (gf := 91) (lb := #[.pointer (some ⟨C + 1, 0, none⟩), .pointer (some ⟨C + 1 + 1, 0, none⟩)]) rfl trivial (enters_of Try.func91 (by kernel_rfl) rfl)
        (boT_given (n - 1) (by omega) (C + 1) (C + 2) C l at' (.slice a m c) (.slice aa k ac) (by rw [HM.out]; exact hl) (by rw [HK.out]; exact hal) w3 W4 hb4' (by rw [HC.out]; exact Nat.le_refl _) (HV.out _ hbw3) (HA.out _ hbw3) (by omega) (by omega) q1 q2)
        KpN.trans (fun W l o o' hl h _ _ => kpn_put hl h) (Below.refl _ _) (fun _ => rfl)
        (fun pre U => AX.zpre l at' pre ∧ ScB U C (AX.prod pre) ∧ Below C w3 U ∧ W4.heap.size ≤ U.heap.size)
        (fun e pre U => False)
        (OwnFrom.and (ownFrom_pure _ _) (OwnFrom.and (fun pre X Y row hs hg hr => row_kept hs hg (fun r e => (hr r e).2)) (OwnFrom.and (ownFrom_below (by rw [HC.out]; exact Nat.le_refl _) (by omega)) (fun pre X Y row hs hg hr => Nat.le_trans hs hg.size))))
        (fun e pre X Y row hs hg hr => hs)
        (fun pre X Y b hs hg hb _ _ => ⟨hs.1, (hg.block C hs.2.1.lt (fun e => by have := Option.some.inj e; omega)).trans hs.2.1, hs.2.2.1.grown hg (by have := hs.2.1.lt; omega) (fun k e => by cases e; omega), Nat.le_trans hs.2.2.2 hg.size⟩)
        (fun e pre X Y b hs hg hb _ _ => hs)
        ⟨AX.zpre_nil, b0, hb4, Nat.le_refl _⟩
        (fun pre x a' U => ∃ (Bx : Nat), W4.heap.size ≤ Bx ∧ (l.zip at')[pre.length]? = some x ∧ U.heap[Bx]? = some (.cells #[.int .i64 x.1.1, .int .i64 x.1.2.1, .int .i64 x.1.2.2] 119 (0, 0)) ∧ a' = { tmps := #[.agg #[.slice a m c], .slice aa k ac, .pointer (some ⟨B, 0, none⟩), undef, .pointer (some ⟨B + 1, 0, none⟩), .pointer (some ⟨C, 0, none⟩), .pointer (some ⟨Bx, 0, none⟩), .int .i64 x.2, .agg #[.slice a m c], .slice aa k ac, .int .i64 (k : Int), .bool true, .bool false, .bool false, .slice aa k ac, .bool true, .bool false, .bool false, undef, .agg #[.int .i64 1, .int .i64 1], .pointer (some ⟨B, 0, none⟩), .slice a m c, .slice aa k ac, .func (.func 91) #[] #[.pointer (some ⟨C + 1, 0, none⟩), .pointer (some ⟨C + 1 + 1, 0, none⟩)], .agg #[.int .i64 x.1.1, .int .i64 x.1.2.1, .int .i64 x.1.2.2], .int .i64 x.2, undef, undef, undef, undef, undef, undef, undef, undef, undef], defers := [] })
        (fun pre x a' _ X Y row hs hg hr => by obtain ⟨Bx, h1, h2, h3, h4⟩ := hs; exact ⟨Bx, h1, h2, row_kept h3 hg (fun r e => (hr r e).2), h4⟩)
        ?assign ?body ?done ?stop
      case stop => rintro D e pre W hD - h hKD; exact h.elim
      case assign =>
        rintro L pre ⟨⟨xf, xp, xq⟩, xn⟩ U K ⟨hz, hsc, hbU, hsU⟩ hx hK
        simp only [boTE]
        have HKK := Lib.hid hK
        have HX := Lib.hid hx
        clear hK hx
        gi_wp2
        have hbA : Below U.heap.size U (U.alloc (.cells #[.int .i64 xf, .int .i64 xp, .int .i64 xq] 119)) := (Below.refl _ U).alloc (Nat.le_refl _) _
        exact HKK.out _ _ ((KeepsOthers.alloc _ _).from _) (KpN.of hbA hsU) ⟨hz, hsc.keep hbA, hbU.alloc (by have := hsc.lt; omega) _, Nat.le_trans hsU hbA.size⟩ ⟨U.heap.size, hsU, HX.out, heap_alloc_new U _, rfl⟩
      case body =>
        rintro L pre ⟨⟨xf, xp, xq⟩, xn⟩ a' U hL hr ⟨hz, hsc, hbU, hsU⟩ ⟨Bx, hBx, hx, hdb, rfl⟩
        have hx2 := List.getElem?_zip_eq_some.1 hx
        have htn : AX.tent (xf, xp, xq) = true := ((AX.right_iff _ _).1 HR1.out).2 _ (List.mem_of_getElem? hx2.1)
        have hco : AX.coord xn = true := ((AX.coords_iff _).1 HR2.out).1 _ (List.mem_of_getElem? hx2.2)
        have hpr := AX.prod_snoc pre ((xf, xp, xq), xn)
        obtain ⟨⟨p1, p2⟩, hp⟩ : ∃ p, AX.prod pre = p := ⟨_, rfl⟩
        obtain ⟨⟨s1, s2⟩, hs⟩ : ∃ p, AX.strength (xf, xp, xq) xn = p := ⟨_, rfl⟩
        simp only at hpr
        rw [hp, hs] at hpr
        rw [hp] at hsc
        obtain ⟨⟨⟨r1, r2⟩, rb⟩, hr1⟩ : ∃ r, F.FP.timesS p1 p2 s1 s2 = r := ⟨_, rfl⟩
        simp only at hpr
        rw [hr1] at hpr
        have CS : Hid (∀ V, Calls Try.prog 61 #[.agg #[.int .i64 xf, .int .i64 xp, .int .i64 xq], .int .i64 xn] V fun e w' => e = .returned (.agg #[.int .i64 s1, .int .i64 s2]) ∧ Below V.heap.size V w') := Lib.hid fun V => str_c hs V htn hco
        have CT : Hid (∀ V, Calls Try.prog 60 #[.agg #[.int .i64 p1, .int .i64 p2], .agg #[.int .i64 s1, .int .i64 s2]] V fun e w' => e = .returned (.tuple #[.agg #[.int .i64 r1, .int .i64 r2], .bool rb]) ∧ Below V.heap.size V w') := Lib.hid fun V => times_c (p := (p1, p2)) (s := (s1, s2)) hr1 V
        have HZ := Lib.hid (hlen.out pre _ hz hx)
        have HPR := Lib.hid hpr
        have HBU := Lib.hid hbU
        have hCB : C ≠ Bx := by omega
        have hCU := hsc.lt
        have hBU := (Array.getElem?_eq_some_iff.1 hdb).1
        have hp' := hp
        obtain ⟨c0, c1⟩ := hsc.cells
        clear hp hs hr1 hpr hz hx hx2 htn hco hr hL hbU hp'
        gi_wp2_with fail
        refine wpIn_region_held (fun w' => w'.cell? ⟨Bx, 0, none⟩ = some (.int .i64 xf) ∧ w'.cell? ⟨Bx, 1, none⟩ = some (.int .i64 xp) ∧ w'.cell? ⟨Bx, 2, none⟩ = some (.int .i64 xq)) (by kernel_rfl) (by kernel_rfl) ?_ (fun hHeld => ?_)
        · first | exact cells3 hx6 | exact cells3 hx5 | exact cells3 hdb | exact cells3 ((Below.heap_setCell _ _ _ _ (by simp; omega)).trans ((Below.heap_setCell _ _ _ _ (by simp; omega)).trans hx6))
        refine wpAnyH_take (i := 1) (oi := { dst := some 28, op := Op.load 119 (Operand.tmp 6), type := 119, pos := "axes.go:137", after := #[], guard := none }) (v := ?_) rfl (by kernel_rfl) (by kernel_rfl) (by kernel_rfl) (fun _ _ _ h => h) (Or.inl ⟨by rfl, ?_⟩) (by assumption) ?_
        rotate_left
        · ((intro w hSw; (try dsimp only at hSw); go_simp; (try rw [if_neg (by omega)])); try with_reducible rfl)
        (try simp only [Act.put, List.setIfInBounds_toArray, List.set_cons_zero, List.set_cons_succ])
        refine wpAnyH_take (i := 2) (oi := { dst := some 29, op := Op.move (Operand.tmp 7), type := 3, pos := "axes.go:137", after := #[], guard := none }) (v := ?_) rfl (by kernel_rfl) (by kernel_rfl) (by kernel_rfl) (fun _ _ _ h => h) (Or.inl ⟨by rfl, ?_⟩) (by assumption) ?_
        rotate_left
        · ((intro w hSw; (try dsimp only at hSw); go_simp; (try rw [if_neg (by omega)])); try with_reducible rfl)
        (try simp only [Act.put, List.setIfInBounds_toArray, List.set_cons_zero, List.set_cons_succ])
        refine wpAnyH_ready (rs := [0, 3]) (by kernel_rfl) (by simp) ?_
        refine AllReadyH.cons (o := { dst := some 27, op := Op.load 65 (Operand.tmp 5), type := 65, pos := "axes.go:137", after := #[], guard := none }) rfl (fun K hK => ?_) ?_
        · go_simp
          refine hK.out _ _ ?_ (fun hHeld => ?_)
          · first | exact cells3 hx6 | exact cells3 hx5 | exact cells3 hdb | exact cells3 ((Below.heap_setCell _ _ _ _ (by simp; omega)).trans ((Below.heap_setCell _ _ _ _ (by simp; omega)).trans hx6))
          clear hK K
          (try simp only [Act.put, List.setIfInBounds_toArray, List.set_cons_zero, List.set_cons_succ])
          refine wpAnyH_ready (rs := [3]) (by kernel_rfl) (by simp) ?_
          refine AllReadyH.cons (o := { dst := some 30, op := Op.call { callee := Callee.value (Operand.func 61), args := #[Operand.tmp 28, Operand.tmp 29], argTypes := #[119, 3] }, type := 65, pos := "axes.go:137", after := #[{ on := 1, ground := Ground.data }, { on := 2, ground := Ground.data }], guard := none }) rfl (fun K hK => ?_) ?_
          · (go_simp; go_at_call 61; refine (CS.out _).mono ?_; rintro e w5 ⟨rfl, hb5⟩; have hx5 := (hb5.block Bx hBU).trans hdb; have hs5 := ScB.keep (V := U.drew) hsc hb5; obtain ⟨d0, d1⟩ := hs5.cells; dsimp only)
            refine hK.out _ _ ?_ (fun hHeld => ?_)
            · first | exact cells3 hx6 | exact cells3 hx5 | exact cells3 hdb | exact cells3 ((Below.heap_setCell _ _ _ _ (by simp; omega)).trans ((Below.heap_setCell _ _ _ _ (by simp; omega)).trans hx6))
            clear hK K
            (try simp only [Act.put, List.setIfInBounds_toArray, List.set_cons_zero, List.set_cons_succ])
            refine wpAnyH_ready (rs := [4]) (by kernel_rfl) (by simp) ?_
            refine AllReadyH.cons (o := { dst := some 31, op := Op.call { callee := Callee.value (Operand.func 60), args := #[Operand.tmp 27, Operand.tmp 30], argTypes := #[65, 65] }, type := 120, pos := "axes.go:137", after := #[{ on := 0, ground := Ground.data }, { on := 3, ground := Ground.data }, { on := 3, ground := Ground.chain }], guard := none }) rfl (fun K hK => ?_) ?_
            · (go_simp; go_at_call 60; refine (CT.out _).mono ?_; rintro e w6 ⟨rfl, hb6⟩; have hx6 := (hb6.block Bx (Array.getElem?_eq_some_iff.1 hx5).1).trans hx5; have hs6 := ScB.keep hs5 hb6; obtain ⟨e0, e1⟩ := hs6.cells; have f0 := hs6.frozen 0; have f1 := hs6.frozen 1; dsimp only)
              refine hK.out _ _ ?_ (fun hHeld => ?_)
              · first | exact cells3 hx6 | exact cells3 hx5 | exact cells3 hdb | exact cells3 ((Below.heap_setCell _ _ _ _ (by simp; omega)).trans ((Below.heap_setCell _ _ _ _ (by simp; omega)).trans hx6))
              clear hK K
              (try simp only [Act.put, List.setIfInBounds_toArray, List.set_cons_zero, List.set_cons_succ])
              refine wpAnyH_take (i := 5) (oi := { dst := some 26, op := Op.move (Operand.tmp 31), type := 120, pos := "axes.go:137", after := #[{ on := 4, ground := Ground.data }], guard := none }) (v := ?_) rfl (by kernel_rfl) (by kernel_rfl) (by kernel_rfl) (fun _ _ _ h => h) (Or.inl ⟨by rfl, ?_⟩) (by assumption) ?_
              rotate_left
              · ((intro w hSw; (try dsimp only at hSw); go_simp; (try rw [if_neg (by omega)])); try with_reducible rfl)
              (try simp only [Act.put, List.setIfInBounds_toArray, List.set_cons_zero, List.set_cons_succ])
              refine wpAnyH_take (i := 6) (oi := { dst := some 32, op := Op.extract (Operand.tmp 26) 0, type := 65, pos := "axes.go:137", after := #[{ on := 5, ground := Ground.data }], guard := none }) (v := ?_) rfl (by kernel_rfl) (by kernel_rfl) (by kernel_rfl) (fun _ _ _ h => h) (Or.inl ⟨by rfl, ?_⟩) (by assumption) ?_
              rotate_left
              · ((intro w hSw; (try dsimp only at hSw); go_simp; (try rw [if_neg (by omega)])); try with_reducible rfl)
              (try simp only [Act.put, List.setIfInBounds_toArray, List.set_cons_zero, List.set_cons_succ])
              refine wpAnyH_take (i := 7) (oi := { dst := some 33, op := Op.extract (Operand.tmp 26) 1, type := 4, pos := "axes.go:137", after := #[{ on := 5, ground := Ground.data }, { on := 8, ground := Ground.gcOnly Departure.lateStores }], guard := none }) (v := ?_) rfl (by kernel_rfl) (by kernel_rfl) (by kernel_rfl) (fun _ _ _ h => h) (Or.inl ⟨by rfl, ?_⟩) (by assumption) ?_
              rotate_left
              · ((intro w hSw; (try dsimp only at hSw); go_simp; (try rw [if_neg (by omega)])); try with_reducible rfl)
              (try simp only [Act.put, List.setIfInBounds_toArray, List.set_cons_zero, List.set_cons_succ])
              refine wpAnyH_ready (rs := [8]) (by kernel_rfl) (by simp) ?_
              refine AllReadyH.cons (o := { dst := none, op := Op.store 65 (Operand.tmp 5) (Operand.tmp 32), type := 0, pos := "axes.go:137", after := #[{ on := 6, ground := Ground.data }, { on := 4, ground := Ground.chain }, { on := 0, ground := Ground.phase }, { on := 1, ground := Ground.phase }, { on := 2, ground := Ground.phase }, { on := 3, ground := Ground.phase }, { on := 4, ground := Ground.phase }, { on := 5, ground := Ground.phase }, { on := 6, ground := Ground.phase }, { on := 7, ground := Ground.textOnly Departure.lateStores }], guard := none }) rfl (fun K hK => ?_) ?_
              · go_simp
                refine hK.out _ _ ?_ (fun hHeld => ?_)
                · first | exact cells3 hx6 | exact cells3 hx5 | exact cells3 hdb | exact cells3 ((Below.heap_setCell _ _ _ _ (by simp; omega)).trans ((Below.heap_setCell _ _ _ _ (by simp; omega)).trans hx6))
                clear hK K
                (try simp only [Act.put, List.setIfInBounds_toArray, List.set_cons_zero, List.set_cons_succ])
                refine wpAnyH_done (by kernel_rfl) ?_ _
                simp only [onlyN]
                gi_wp2
                have hq6 := hs6.put (r1, r2)
                have hb5d : Below U.heap.size U w5 := bnext (Below.drew (Below.refl _ U)) hb5
                have hb6d : Below U.heap.size U w6 := bnext hb5d hb6
                have hbz := bset (bset (bnext (w := w3) (by rw [HC.out]; exact HBU.out) hb6d) (p := ⟨C, 0, none⟩) (by rw [HC.out]; exact Nat.le_refl _) (.int .i64 r1)) (p := ⟨C, 1, none⟩) (by rw [HC.out]; exact Nat.le_refl _) (.int .i64 r2)
                rw [HC.out] at hbz
                exact ⟨((keeps_below hb6d).trans ((KeepsOthers.setCell _ _ _).trans (KeepsOthers.setCell _ _ _))).from _, sc_set hb6d (by omega) hs6 (r1, r2), HZ.out, by rw [HPR.out]; exact hq6, hbz, by have := hb6d.size; simp; omega⟩
              exact AllReadyH.nil
            exact AllReadyH.nil
          exact AllReadyH.nil
        refine AllReadyH.cons (o := { dst := some 30, op := Op.call { callee := Callee.value (Operand.func 61), args := #[Operand.tmp 28, Operand.tmp 29], argTypes := #[119, 3] }, type := 65, pos := "axes.go:137", after := #[{ on := 1, ground := Ground.data }, { on := 2, ground := Ground.data }], guard := none }) rfl (fun K hK => ?_) ?_
        · (go_simp; go_at_call 61; refine (CS.out _).mono ?_; rintro e w5 ⟨rfl, hb5⟩; have hx5 := (hb5.block Bx hBU).trans hdb; have hs5 := ScB.keep (V := U.drew) hsc hb5; obtain ⟨d0, d1⟩ := hs5.cells; dsimp only)
          refine hK.out _ _ ?_ (fun hHeld => ?_)
          · first | exact cells3 hx6 | exact cells3 hx5 | exact cells3 hdb | exact cells3 ((Below.heap_setCell _ _ _ _ (by simp; omega)).trans ((Below.heap_setCell _ _ _ _ (by simp; omega)).trans hx6))
          clear hK K
          (try simp only [Act.put, List.setIfInBounds_toArray, List.set_cons_zero, List.set_cons_succ])
          refine wpAnyH_ready (rs := [0]) (by kernel_rfl) (by simp) ?_
          refine AllReadyH.cons (o := { dst := some 27, op := Op.load 65 (Operand.tmp 5), type := 65, pos := "axes.go:137", after := #[], guard := none }) rfl (fun K hK => ?_) ?_
          · go_simp
            refine hK.out _ _ ?_ (fun hHeld => ?_)
            · first | exact cells3 hx6 | exact cells3 hx5 | exact cells3 hdb | exact cells3 ((Below.heap_setCell _ _ _ _ (by simp; omega)).trans ((Below.heap_setCell _ _ _ _ (by simp; omega)).trans hx6))
            clear hK K
            (try simp only [Act.put, List.setIfInBounds_toArray, List.set_cons_zero, List.set_cons_succ])
            refine wpAnyH_ready (rs := [4]) (by kernel_rfl) (by simp) ?_
            refine AllReadyH.cons (o := { dst := some 31, op := Op.call { callee := Callee.value (Operand.func 60), args := #[Operand.tmp 27, Operand.tmp 30], argTypes := #[65, 65] }, type := 120, pos := "axes.go:137", after := #[{ on := 0, ground := Ground.data }, { on := 3, ground := Ground.data }, { on := 3, ground := Ground.chain }], guard := none }) rfl (fun K hK => ?_) ?_
            · (go_simp; go_at_call 60; refine (CT.out _).mono ?_; rintro e w6 ⟨rfl, hb6⟩; have hx6 := (hb6.block Bx (Array.getElem?_eq_some_iff.1 hx5).1).trans hx5; have hs6 := ScB.keep hs5 hb6; obtain ⟨e0, e1⟩ := hs6.cells; have f0 := hs6.frozen 0; have f1 := hs6.frozen 1; dsimp only)
              refine hK.out _ _ ?_ (fun hHeld => ?_)
              · first | exact cells3 hx6 | exact cells3 hx5 | exact cells3 hdb | exact cells3 ((Below.heap_setCell _ _ _ _ (by simp; omega)).trans ((Below.heap_setCell _ _ _ _ (by simp; omega)).trans hx6))
              clear hK K
              (try simp only [Act.put, List.setIfInBounds_toArray, List.set_cons_zero, List.set_cons_succ])
              refine wpAnyH_take (i := 5) (oi := { dst := some 26, op := Op.move (Operand.tmp 31), type := 120, pos := "axes.go:137", after := #[{ on := 4, ground := Ground.data }], guard := none }) (v := ?_) rfl (by kernel_rfl) (by kernel_rfl) (by kernel_rfl) (fun _ _ _ h => h) (Or.inl ⟨by rfl, ?_⟩) (by assumption) ?_
              rotate_left
              · ((intro w hSw; (try dsimp only at hSw); go_simp; (try rw [if_neg (by omega)])); try with_reducible rfl)
              (try simp only [Act.put, List.setIfInBounds_toArray, List.set_cons_zero, List.set_cons_succ])
              refine wpAnyH_take (i := 6) (oi := { dst := some 32, op := Op.extract (Operand.tmp 26) 0, type := 65, pos := "axes.go:137", after := #[{ on := 5, ground := Ground.data }], guard := none }) (v := ?_) rfl (by kernel_rfl) (by kernel_rfl) (by kernel_rfl) (fun _ _ _ h => h) (Or.inl ⟨by rfl, ?_⟩) (by assumption) ?_
              rotate_left
              · ((intro w hSw; (try dsimp only at hSw); go_simp; (try rw [if_neg (by omega)])); try with_reducible rfl)
              (try simp only [Act.put, List.setIfInBounds_toArray, List.set_cons_zero, List.set_cons_succ])
              refine wpAnyH_take (i := 7) (oi := { dst := some 33, op := Op.extract (Operand.tmp 26) 1, type := 4, pos := "axes.go:137", after := #[{ on := 5, ground := Ground.data }, { on := 8, ground := Ground.gcOnly Departure.lateStores }], guard := none }) (v := ?_) rfl (by kernel_rfl) (by kernel_rfl) (by kernel_rfl) (fun _ _ _ h => h) (Or.inl ⟨by rfl, ?_⟩) (by assumption) ?_
              rotate_left
              · ((intro w hSw; (try dsimp only at hSw); go_simp; (try rw [if_neg (by omega)])); try with_reducible rfl)
              (try simp only [Act.put, List.setIfInBounds_toArray, List.set_cons_zero, List.set_cons_succ])
              refine wpAnyH_ready (rs := [8]) (by kernel_rfl) (by simp) ?_
              refine AllReadyH.cons (o := { dst := none, op := Op.store 65 (Operand.tmp 5) (Operand.tmp 32), type := 0, pos := "axes.go:137", after := #[{ on := 6, ground := Ground.data }, { on := 4, ground := Ground.chain }, { on := 0, ground := Ground.phase }, { on := 1, ground := Ground.phase }, { on := 2, ground := Ground.phase }, { on := 3, ground := Ground.phase }, { on := 4, ground := Ground.phase }, { on := 5, ground := Ground.phase }, { on := 6, ground := Ground.phase }, { on := 7, ground := Ground.textOnly Departure.lateStores }], guard := none }) rfl (fun K hK => ?_) ?_
              · go_simp
                refine hK.out _ _ ?_ (fun hHeld => ?_)
                · first | exact cells3 hx6 | exact cells3 hx5 | exact cells3 hdb | exact cells3 ((Below.heap_setCell _ _ _ _ (by simp; omega)).trans ((Below.heap_setCell _ _ _ _ (by simp; omega)).trans hx6))
                clear hK K
                (try simp only [Act.put, List.setIfInBounds_toArray, List.set_cons_zero, List.set_cons_succ])
                refine wpAnyH_done (by kernel_rfl) ?_ _
                simp only [onlyN]
                gi_wp2
                have hq6 := hs6.put (r1, r2)
                have hb5d : Below U.heap.size U w5 := bnext (Below.drew (Below.refl _ U)) hb5
                have hb6d : Below U.heap.size U w6 := bnext hb5d hb6
                have hbz := bset (bset (bnext (w := w3) (by rw [HC.out]; exact HBU.out) hb6d) (p := ⟨C, 0, none⟩) (by rw [HC.out]; exact Nat.le_refl _) (.int .i64 r1)) (p := ⟨C, 1, none⟩) (by rw [HC.out]; exact Nat.le_refl _) (.int .i64 r2)
                rw [HC.out] at hbz
                exact ⟨((keeps_below hb6d).trans ((KeepsOthers.setCell _ _ _).trans (KeepsOthers.setCell _ _ _))).from _, sc_set hb6d (by omega) hs6 (r1, r2), HZ.out, by rw [HPR.out]; exact hq6, hbz, by have := hb6d.size; simp; omega⟩
              exact AllReadyH.nil
            exact AllReadyH.nil
          exact AllReadyH.nil
        exact AllReadyH.nil
      case done =>
        rintro D zs W hD hzs ⟨hz, hsc, hbW, hsW⟩ hKD
        have hzz := AX.zpre_end hz hzs
        subst hzz
        have hyes : AX.scalar l at' = AX.prod (l.zip at') := by
          unfold AX.scalar
          rw [HK.out, HR1.out, HR2.out, if_pos ⟨rfl, rfl⟩]
        obtain ⟨⟨p1, p2⟩, hp⟩ : ∃ p, AX.prod (l.zip at') = p := ⟨_, rfl⟩
        rw [hp] at hsc hyes
        have HY := Lib.hid hyes
        have hs1W : ScB W (B + 1) (0, 0) := (hbW.block (B + 1) hBC).trans hs3
        obtain ⟨c0, c1⟩ := hsc.cells
        obtain ⟨d0, d1⟩ := hs1W.cells
        have f0 := hs1W.frozen 0
        have f1 := hs1W.frozen 1
        have hsz1 := hs1W.lt
        have hD1 : C + 3 ≤ D := by omega
        have HBW := Lib.hid (bnext hbw3 (by rw [HC.out]; exact hbW))
        clear hz hzs hyes hp hbW
        gi_wp2
        have hq1 := hs1W.put (p1, p2)
        have hbe := bset (bset HBW.out (p := ⟨B + 1, 0, none⟩) (by rw [HB.out]; exact Nat.le_succ _) (.int .i64 p1)) (p := ⟨B + 1, 1, none⟩) (by rw [HB.out]; exact Nat.le_succ _) (.int .i64 p2)
        have hKD' : ((W.setCell ⟨B + 1, 0, none⟩ (.int .i64 p1)).setCell ⟨B + 1, 1, none⟩ (.int .i64 p2)).heap[D]? = some (.deferred (some [])) := (Below.heap_setCell _ _ _ _ (by simp; omega)).trans ((Below.heap_setCell _ _ _ _ (by simp; omega)).trans hKD)
        refine ⟨by simp, .inl ⟨_, _, rfl, run_takeDeferred hKD', ?_⟩⟩
        have hq2 := ((grownBy_putObj' _ D (.deferred none)).block (B + 1) hq1.lt (fun e => by have := Option.some.inj e; omega)).trans hq1
        exact ⟨_, results_cell_row Try.results22 _ _ (B + 1) 65 _ (0, 0) _ rfl hq2 Try.underlying65 rfl (by kernel_rfl), by rw [HY.out], hbe.trans (belowK_b (w := w) (Nat.le_refl _) _ D _ _ (by rw [HB.out]; omega) hKD' rfl rfl)⟩
theorem scalar_any (l : List AX.Tn) (at' : List Int) (v va : Value) (w : World) (hl : l.length ≤ 1000000000000) (hal : at'.length ≤ 1000000000000) (hv : TnAt w v l) (ha : InAt w va at') :
    Calls Try.prog 22 #[.agg #[v], va] w fun e w' => e = .returned (.agg #[.int .i64 (AX.scalar l at').1, .int .i64 (AX.scalar l at').2]) ∧ Below w.heap.size w w' :=
  callsIn_wide.1 (scalar_in 4 (Nat.le_refl _) l at' v va w hl hal hv ha)
end Go.Proofs.Ytanppbdlcinpfaa
end
/- Sum of the program. No conditions. -/
section
namespace Go.Proofs.Ytanppbdlcinpfaa.AX
set_option linter.unusedVariables false
def partOf (R : List (List Tn)) (at' : List Int) (g : Int × Int) : Int × Bool := F.FP.partS g.2 (scalar (R.getD g.1.toNat []) at').1 (scalar (R.getD g.1.toNat []) at').2
def growOk (R : List (List Tn)) (n : Int) (g : Int × Int) : Bool := decide (0 ≤ g.1 ∧ g.1 < (R.length : Int)) && right (R.getD g.1.toNat []) n
def acc (R : List (List Tn)) (at' : List Int) (s : Int × Bool) (l : List (Int × Int)) : Int × Bool := l.foldl (fun s g => (s.1 + (partOf R at' g).1, s.2 && (partOf R at' g).2)) s
def sum (base : Int) (l : List (Int × Int)) (R : List (List Tn)) (at' : List Int) : Int × Bool := if l.length ≤ 8 ∧ coords at' = true ∧ l.all (growOk R (at'.length : Int)) = true ∧ (acc R at' (F.FP.partS base 1 1) l).2 = true then ((acc R at' (F.FP.partS base 1 1) l).1, true) else (0, false)
theorem acc_take {R : List (List Tn)} {at' : List Int} {s : Int × Bool} {l : List (Int × Int)} {i : Nat} {g : Int × Int} (hg : l[i]? = some g) : acc R at' s (l.take (i + 1)) = ((acc R at' s (l.take i)).1 + (partOf R at' g).1, (acc R at' s (l.take i)).2 && (partOf R at' g).2) := by
  unfold acc
  rw [List.take_add_one, hg, List.foldl_append]
  rfl
theorem div_bd (n d M : Int) (hd : 1 ≤ d) (h0 : -M ≤ n) (h1 : n ≤ M) (hM : 0 ≤ M) : -M ≤ n / d ∧ n / d ≤ M := by
  rcases Int.lt_or_le n 0 with h | h
  · have e1 : n ≤ n / d := by
      rw [Int.le_ediv_iff_mul_le (by omega)]
      have := Int.mul_le_mul_of_nonpos_left (a := n) (b := d) (c := 1) (by omega) hd
      omega
    have e2 : n / d < 0 := Int.ediv_neg_of_neg_of_pos h (by omega)
    omega
  · have e1 := Int.ediv_nonneg h (show 0 ≤ d by omega)
    have e2 := Int.ediv_le_self d h
    omega
theorem part_bd (a n d : Int) : -17592186044417 ≤ (F.FP.partS a n d).1 ∧ (F.FP.partS a n d).1 ≤ 17592186044417 := by
  unfold F.FP.partS
  split
  · rename_i h
    obtain ⟨ha, hr⟩ := h
    obtain ⟨r1, r2, r3, r4, -⟩ := hr
    unfold F.FP.sm at ha
    have hm := F.FP.mul_bd (64 * a) n 67108864 262144 (by omega) (by omega)
    have hd := div_bd (64 * a * n) d 17592186044416 r1 (by omega) (by omega) (by omega)
    simp only
    unfold F.FP.rnd
    split <;> omega
  · simp
end Go.Proofs.Ytanppbdlcinpfaa.AX
namespace Go.Proofs.Ytanppbdlcinpfaa
set_option maxRecDepth 100000
set_option linter.unusedVariables false
open Go.RowKit Go.Deep
/-- A row of regions. -/
def RgAt (W : World) (v : Value) (R : List (List AX.Tn)) : Prop := ∃ a c, v = .slice a R.length c ∧ (R = [] ∨ ∃ g o, a = some ⟨g, o, none⟩ ∧ g < W.heap.size ∧ ∀ i r, R[i]? = some r → ∃ ra rc, W.cell? ⟨g, o + i, none⟩ = some (.slice ra r.length rc) ∧ TnAt W (.slice ra r.length rc) r)
theorem RgAt.keep {W W' : World} {v : Value} {R : List (List AX.Tn)} (h : RgAt W v R) (hb : Below W.heap.size W W') : RgAt W' v R := by
  obtain ⟨a, c, e, h⟩ := h
  refine ⟨a, c, e, ?_⟩
  rcases h with h | ⟨g, o, e2, hg, hc⟩
  · exact .inl h
  · refine .inr ⟨g, o, e2, Nat.lt_of_lt_of_le hg hb.size, fun i r hr => ?_⟩
    obtain ⟨ra, rc, h1, h2⟩ := hc i r hr
    exact ⟨ra, rc, (hb.cell (p := ⟨g, o + i, none⟩) hg).trans h1, h2.keep hb⟩
theorem part_c {a n d : Int} {r : Int × Bool} (h : F.FP.partS a n d = r) (w : World) :
    Calls Try.prog 25 #[.int .i64 a, .agg #[.int .i64 n, .int .i64 d]] w fun e w' => e = .returned (.tuple #[.int .i64 r.1, .bool r.2]) ∧ Below w.heap.size w w' := by
  have := F.part_any a n d w
  rwa [h] at this
theorem scalar_c {l : List AX.Tn} {at' : List Int} {r : Int × Int} (h : AX.scalar l at' = r) (v va : Value) (w : World) (hl : l.length ≤ 1000000000000) (hal : at'.length ≤ 1000000000000) (hv : TnAt w v l) (ha : InAt w va at') :
    Calls Try.prog 22 #[.agg #[v], va] w fun e w' => e = .returned (.agg #[.int .i64 r.1, .int .i64 r.2]) ∧ Below w.heap.size w w' := by
  have := scalar_any l at' v va w hl hal hv ha
  rwa [h] at this
set_option maxHeartbeats 8000000 in
theorem sum_any (base : Int) (l : List (Int × Int)) (R : List (List AX.Tn)) (at' : List Int) (v vr va : Value) (w : World) (hl : l.length ≤ 1000000000000) (hR : R.length ≤ 1000000000000) (hRR : ∀ r ∈ R, r.length ≤ 1000000000000) (hal : at'.length ≤ 1000000000000) (hv : PrAt w v l) (hr : RgAt w vr R) (ha : InAt w va at') :
    Calls Try.prog 72 #[.int .i64 base, v, vr, va] w fun e w' => e = .returned (.tuple #[.int .i64 (AX.sum base l R at').1, .bool (AX.sum base l R at').2]) ∧ Below w.heap.size w w' := by
  have HV : Hid (∀ V, Below w.heap.size w V → PrAt V v l) := Lib.hid fun V hV => hv.keep hV
  have HG : Hid (∀ V, Below w.heap.size w V → RgAt V vr R) := Lib.hid fun V hV => hr.keep hV
  have HI : Hid (∀ V, Below w.heap.size w V → InAt V va at') := Lib.hid fun V hV => ha.keep hV
  obtain ⟨a1, c1, rfl, -⟩ := hv
  obtain ⟨a2, c2, rfl, -⟩ := hr
  obtain ⟨a3, c3, rfl, -⟩ := ha
  obtain ⟨m, hm⟩ : ∃ m, l.length = m := ⟨_, rfl⟩
  obtain ⟨n, hn⟩ : ∃ n, R.length = n := ⟨_, rfl⟩
  obtain ⟨k, hk⟩ : ∃ k, at'.length = k := ⟨_, rfl⟩
  have HM := Lib.hid hm
  have HN := Lib.hid hn
  have HK := Lib.hid hk
  obtain ⟨N, hNN⟩ : ∃ N, AX.sum base l R at' = N := ⟨_, rfl⟩
  rw [hNN]
  have HNO : Hid ((8 < m ∨ AX.coords at' = false ∨ (∃ i g, l[i]? = some g ∧ AX.growOk R (k : Int) g = false) ∨ (AX.acc R at' (F.FP.partS base 1 1) l).2 = false) → N = (0, false)) := Lib.hid (by
    intro h
    rw [← hNN]
    unfold AX.sum
    rw [if_neg]
    rintro ⟨h1, h2, h3, h4⟩
    rcases h with h | h | h | h
    · omega
    · rw [h] at h2; cases h2
    · obtain ⟨i, g, hi, hg⟩ := h
      rw [List.all_eq_true] at h3
      have := h3 g (List.mem_of_getElem? hi)
      rw [hk, hg] at this
      cases this
    · rw [h] at h4; cases h4)
  have HYES : Hid (m ≤ 8 → AX.coords at' = true → (∀ j g, l[j]? = some g → AX.growOk R (k : Int) g = true) → ∀ s, AX.acc R at' (F.FP.partS base 1 1) l = (s, true) → N = (s, true)) := Lib.hid (by
    intro h1 h2 h3 s h4
    rw [← hNN]
    unfold AX.sum
    rw [h4, if_pos]
    refine ⟨by omega, h2, ?_, rfl⟩
    rw [List.all_eq_true, hk]
    intro g hg
    obtain ⟨j, hj⟩ := List.getElem?_of_mem hg
    exact h3 j g hj)
  obtain ⟨N1, N2⟩ := N
  simp only at HNO HYES ⊢
  rw [hm] at hl HV ⊢
  rw [hn] at hR HG ⊢
  rw [hk] at hal HI ⊢
  obtain ⟨rc, hrc⟩ : ∃ b, AX.coords at' = b := ⟨_, rfl⟩
  have CC : Hid (∀ V, Below w.heap.size w V → Calls Try.prog 57 #[.slice a3 k c3] V fun e w' => e = .returned (.bool rc) ∧ w' = V) := Lib.hid fun V hV => coords_c hrc _ _ (by rw [HK.out]; exact hal) (HI.out V hV)
  rw [hrc] at HNO HYES
  have HRC := Lib.hid hrc
  clear hm hn hk hNN hrc
  go_enter Try.func72, Try.ntmps72
  by_cases k1 : 8 < m
  · have e1 : (8 : Int) < (m : Int) := by omega
    have hz := HNO.out (.inl k1)
    obtain ⟨rfl, rfl⟩ : N1 = 0 ∧ N2 = false := by simpa using hz
    clear hz
    go_wp2
    go_ret2
    exact ⟨by first | rfl | trivial, Below.refl _ _⟩
  · have e1 : ¬ (8 : Int) < (m : Int) := by omega
    go_wp2_with fail
    refine (CC.out _ (Below.refl _ _)).mono ?_
    rintro e w1 ⟨rfl, he⟩
    have he' := he.symm
    subst he'
    clear he
    cases rc with
    | false =>
      have hz := HNO.out (.inr (.inl rfl))
      obtain ⟨rfl, rfl⟩ : N1 = 0 ∧ N2 = false := by simpa using hz
      clear hz
      go_wp2
      go_ret2
      exact ⟨by first | rfl | trivial, Below.refl _ _⟩
    | true =>
      obtain ⟨⟨b1, b2⟩, hb12⟩ : ∃ r, F.FP.partS base 1 1 = r := ⟨_, rfl⟩
      have hbd := AX.part_bd base 1 1
      rw [hb12] at hbd HNO HYES
      simp only at hbd
      have CP0 := Lib.hid (fun V => part_c hb12 V)
      clear hb12
      go_wp2_with (first | (go_at_call 58; refine (fr_c (a := 1) (b := 1) (r := (1, 1)) rfl _ (by omega) (by omega) (by omega) (by omega) (by omega)).mono ?_; rintro e w2 ⟨rfl, hb2⟩) | (go_at_call 25; refine (CP0.out _).mono ?_; rintro e w3 ⟨rfl, hb3⟩))
      have hbw3 : Below w.heap.size w w3 := bnext hb2 hb3
      go_loopw [10, 11, 32] (fun x y z wr => ∃ (i : Nat) (s1 : Int) (s2 : Bool), z = .int .i64 (i : Int) ∧ i ≤ m ∧ x = .int .i64 s1 ∧ y = .bool s2 ∧ Hid (AX.acc R at' (b1, b2) (l.take i) = (s1, s2)) ∧ Hid (∀ j g, j < i → l[j]? = some g → AX.growOk R (k : Int) g = true) ∧ -(17592186044417 * ((i : Int) + 1)) ≤ s1 ∧ s1 ≤ 17592186044417 * ((i : Int) + 1) ∧ Below w.heap.size w wr) (fun _ _ z _ => m - (intOf z).toNat)
      case atStart => exact ⟨0, b1, b2, rfl, Nat.zero_le _, rfl, rfl, Lib.hid (by rw [List.take_zero]; rfl), Lib.hid (fun j g hj => absurd hj (Nat.not_lt_zero _)), by omega, by omega, hbw3⟩
      case round =>
        obtain ⟨i, s1, s2, rfl, him, rfl, rfl, HACC, HYS, hs1, hs2, hbr⟩ := hrel
        by_cases hin : i < m
        · have hii : (i : Int) < (m : Int) := by omega
          have hi0 : (0 : Int) ≤ (i : Int) := by omega
          obtain ⟨x, hx⟩ : ∃ x, l[i]? = some x := ⟨l[i]'(by rw [HM.out]; exact hin), List.getElem?_eq_getElem _⟩
          obtain ⟨a', c', e', hc⟩ := HV.out wr hbr
          rw [HM.out] at e'
          injection e' with e1' e2' e3'
          subst e1' e3'
          rcases hc with h | ⟨g1, o1, rfl, hg1, hcl⟩
          · rw [h] at hx
            simp at hx
          obtain ⟨d0, d1⟩ := hcl i x hx
          obtain ⟨gr, gb⟩ := x
          simp only at d0 d1
          have HX := Lib.hid hx
          have HBR := Lib.hid hbr
          clear hcl hx hbr hbd hb2 hb3 hbw3
          go_upto_region 7 with fail
          obtain ⟨P, hP⟩ : ∃ P, wr.heap.size = P := ⟨_, rfl⟩
          obtain ⟨W5, hW5⟩ : ∃ W5, wr.alloc (.cells #[.int .i64 gr, .int .i64 gb] 96) = W5 := ⟨_, rfl⟩
          have hbw5 : Below w.heap.size w W5 := by rw [← hW5]; exact balloc HBR.out _
          have hn5 : W5.heap[P]? = some (.cells #[.int .i64 gr, .int .i64 gb] 96 (0, 0)) := by rw [← hW5, ← hP]; exact heap_alloc_new wr _
          rw [hW5, hP]
          have p0 : W5.cell? ⟨P, 0, none⟩ = some (.int .i64 gr) := by simp [World.cell?, hn5]
          have p1 : W5.cell? ⟨P, 1, none⟩ = some (.int .i64 gb) := by simp [World.cell?, hn5]
          have HB5 := Lib.hid hbw5
          have HN5 := Lib.hid hn5
          clear hW5 hP hbw5 hn5 d0 d1
          by_cases hneg : gr < 0
          · have hz := HNO.out (.inr (.inr (.inl ⟨i, _, HX.out, by unfold AX.growOk; rw [Bool.and_eq_false_iff]; left; rw [decide_eq_false_iff_not]; simp only; omega⟩)))
            obtain ⟨rfl, rfl⟩ : N1 = 0 ∧ N2 = false := by simpa using hz
            clear hz
            go_wp2
            go_ret2
            exact ⟨by first | rfl | trivial, HB5.out⟩
          · by_cases hbig : (n : Int) ≤ gr
            · have hz := HNO.out (.inr (.inr (.inl ⟨i, _, HX.out, by unfold AX.growOk; rw [Bool.and_eq_false_iff]; left; rw [decide_eq_false_iff_not, HN.out]; simp only; omega⟩)))
              obtain ⟨rfl, rfl⟩ : N1 = 0 ∧ N2 = false := by simpa using hz
              clear hz
              go_wp2
              go_ret2
              exact ⟨by first | rfl | trivial, HB5.out⟩
            · obtain ⟨q, rfl⟩ := Int.eq_ofNat_of_zero_le (show 0 ≤ gr by omega)
              have hqn : q < n := by omega
              have hqi : (q : Int) < (n : Int) := by omega
              have hq0 : (0 : Int) ≤ (q : Int) := by omega
              obtain ⟨r, hr⟩ : ∃ r, R[q]? = some r := ⟨R[q]'(by rw [HN.out]; exact hqn), List.getElem?_eq_getElem _⟩
              have hgd : R.getD ((q : Int)).toNat [] = r := by rw [Int.toNat_natCast, List.getD_eq_getElem?_getD, hr]; rfl
              obtain ⟨a', c', e', hc⟩ := HG.out W5 HB5.out
              rw [HN.out] at e'
              injection e' with e1' e2' e3'
              subst e1' e3'
              rcases hc with h | ⟨g2, o2, rfl, hg2, hcl⟩
              · rw [h] at hr
                simp at hr
              obtain ⟨ra, rc, hrow, htn⟩ := hcl q r hr
              have hrl : r.length ≤ 1000000000000 := hRR r (List.mem_of_getElem? hr)
              have HTN : Hid (∀ V, Below W5.heap.size W5 V → TnAt V (.slice ra r.length rc) r) := Lib.hid fun V hV => htn.keep hV
              obtain ⟨rn, hrn⟩ : ∃ rn, r.length = rn := ⟨_, rfl⟩
              have HRN := Lib.hid hrn
              rw [hrn] at hrow HTN hrl
              obtain ⟨rb, hrb⟩ : ∃ rb, AX.right r (k : Int) = rb := ⟨_, rfl⟩
              have CRt : Hid (∀ V, Below W5.heap.size W5 V → Calls Try.prog 34 #[.agg #[.slice ra rn rc], .int .i64 (k : Int)] V fun e w' => e = .returned (.bool rb) ∧ Below V.heap.size V w') := Lib.hid fun V hV => right_c hrb _ _ (by rw [HRN.out]; exact hrl) (HTN.out V hV)
              have HRB := Lib.hid hrb
              have HGD := Lib.hid hgd
              have hd1 : decide (0 ≤ (q : Int) ∧ (q : Int) < (R.length : Int)) = true := by rw [decide_eq_true_iff, HN.out]; omega
              have HD1 := Lib.hid hd1
              clear hcl hr hgd htn hrn hrb hd1
              go_wp2_with fail
              refine (CRt.out _ (Below.refl _ _)).mono ?_
              rintro e w5 ⟨rfl, hb5⟩
              have HBW5 := Lib.hid (bnext HB5.out hb5)
              cases rb with
              | false =>
                have hz := HNO.out (.inr (.inr (.inl ⟨i, _, HX.out, by unfold AX.growOk; rw [Bool.and_eq_false_iff]; right; simp only; rw [HGD.out]; exact HRB.out⟩)))
                obtain ⟨rfl, rfl⟩ : N1 = 0 ∧ N2 = false := by simpa using hz
                clear hz
                go_wp2
                go_ret2
                exact ⟨by first | rfl | trivial, HBW5.out⟩
              | true =>
                obtain ⟨⟨u1, u2⟩, hu⟩ : ∃ u, AX.scalar r at' = u := ⟨_, rfl⟩
                obtain ⟨⟨t1, t2⟩, ht⟩ : ∃ t, F.FP.partS gb u1 u2 = t := ⟨_, rfl⟩
                have hbd := AX.part_bd gb u1 u2
                rw [ht] at hbd
                obtain ⟨hbd1, hbd2⟩ := hbd
                simp only at hbd1 hbd2
                have hpo : AX.partOf R at' ((q : Int), gb) = (t1, t2) := by
                  unfold AX.partOf
                  simp only
                  rw [HGD.out, hu]
                  exact ht
                have HT : Hid (AX.acc R at' (b1, b2) (l.take (i + 1)) = (s1 + t1, s2 && t2)) := Lib.hid (by rw [AX.acc_take HX.out, HACC.out, hpo])
                have HALL : Hid (∀ j g, j < i + 1 → l[j]? = some g → AX.growOk R (k : Int) g = true) := Lib.hid (fun j g hj hg => by
                  by_cases e : j = i
                  · subst e
                    rw [HX.out] at hg
                    rw [← Option.some.inj hg]
                    unfold AX.growOk
                    simp only
                    rw [HD1.out, HGD.out, HRB.out]
                    rfl
                  · exact HYS.out j g (by omega) hg)
                have CS : Hid (∀ V, Below w5.heap.size w5 V → Calls Try.prog 22 #[.agg #[.slice ra rn rc], .slice a3 k c3] V fun e w' => e = .returned (.agg #[.int .i64 u1, .int .i64 u2]) ∧ Below V.heap.size V w') := Lib.hid fun V hV => scalar_c hu _ _ _ (by rw [HRN.out]; exact hrl) (by rw [HK.out]; exact hal) (HTN.out V (bnext hb5 hV)) (HI.out V (bnext HBW5.out hV))
                have CP : Hid (∀ V, Calls Try.prog 25 #[.int .i64 gb, .agg #[.int .i64 u1, .int .i64 u2]] V fun e w' => e = .returned (.tuple #[.int .i64 t1, .bool t2]) ∧ Below V.heap.size V w') := Lib.hid fun V => part_c ht V
                have p0 : w5.cell? ⟨P, 0, none⟩ = some (.int .i64 (q : Int)) := (hb5.cell (World.block_lt_of_cell? W5 _ p0)).trans p0
                have p1 : w5.cell? ⟨P, 1, none⟩ = some (.int .i64 gb) := (hb5.cell (World.block_lt_of_cell? W5 _ p1)).trans p1
                have p2 : w5.cell? ⟨g2, o2 + q, none⟩ = some (.slice ra rn rc) := (hb5.cell (World.block_lt_of_cell? W5 _ hrow)).trans hrow
                have HKS : Hid (∀ V, Below w5.heap.size w5 V → ((fun w' => w'.cell? ⟨P, 0, none⟩ = some (.int .i64 (q : Int)) ∧ w'.cell? ⟨P, 1, none⟩ = some (.int .i64 gb) ∧ w'.cell? ⟨g2, o2 + q, none⟩ = some (.slice ra rn rc)) V)) := Lib.hid fun V hV => ⟨(hV.cell (World.block_lt_of_cell? w5 _ p0)).trans p0, (hV.cell (World.block_lt_of_cell? w5 _ p1)).trans p1, (hV.cell (World.block_lt_of_cell? w5 _ p2)).trans p2⟩
                have hw1 : IntKind.i64.wrap (s1 + t1) = s1 + t1 := by rw [IntKind.wrap_i64]; omega
                clear hu ht hpo hb5 hrow hneg hbig
                go_wp2_with fail
                refine wp_region_held_drew (S := fun w' => w'.cell? ⟨P, 0, none⟩ = some (.int .i64 (q : Int)) ∧ w'.cell? ⟨P, 1, none⟩ = some (.int .i64 gb) ∧ w'.cell? ⟨g2, o2 + q, none⟩ = some (.slice ra rn rc)) (by kernel_rfl) ?_ (fun hHeld => ?_)
                · exact HKS.out _ (by (repeat' (first | exact Below.refl _ _ | (with_reducible assumption) | (refine bnext ?_ (by with_reducible assumption)) | (refine balloc ?_ _) | (refine below_drewN ?_ _) | (refine Below.drew ?_))))
                refine wpAnyH_take (i := 0) (oi := { dst := some 58, op := Op.fieldAddr 96 (Operand.tmp 13) 1, type := 0, pos := "axes.go:152", after := #[], guard := none }) (v := ?_) rfl (by kernel_rfl) (by kernel_rfl) (by kernel_rfl) (fun _ _ _ h => h) (Or.inl ⟨by rfl, ?_⟩) (by assumption) ?_
                rotate_left
                · ((intro w hSw; (try dsimp only at hSw); go_simp; (try rw [if_neg (by omega)])); try with_reducible rfl)
                (try simp only [Act.put, List.setIfInBounds_toArray, List.set_cons_zero, List.set_cons_succ])
                refine wpAnyH_take (i := 1) (oi := { dst := some 59, op := Op.load 3 (Operand.tmp 58), type := 3, pos := "axes.go:152", after := #[{ on := 0, ground := Ground.data }], guard := none }) (v := ?_) rfl (by kernel_rfl) (by kernel_rfl) (by kernel_rfl) (fun _ _ _ h => h) (Or.inl ⟨by rfl, ?_⟩) (by assumption) ?_
                rotate_left
                · ((intro w hSw; (try dsimp only at hSw); go_simp; (try rw [if_neg (by omega)])); try with_reducible rfl)
                (try simp only [Act.put, List.setIfInBounds_toArray, List.set_cons_zero, List.set_cons_succ])
                refine wpAnyH_take (i := 2) (oi := { dst := some 60, op := Op.move (Operand.tmp 2), type := 35, pos := "axes.go:152", after := #[], guard := none }) (v := ?_) rfl (by kernel_rfl) (by kernel_rfl) (by kernel_rfl) (fun _ _ _ h => h) (Or.inl ⟨by rfl, ?_⟩) (by assumption) ?_
                rotate_left
                · ((intro w hSw; (try dsimp only at hSw); go_simp; (try rw [if_neg (by omega)])); try with_reducible rfl)
                (try simp only [Act.put, List.setIfInBounds_toArray, List.set_cons_zero, List.set_cons_succ])
                refine wpAnyH_take (i := 3) (oi := { dst := some 61, op := Op.fieldAddr 96 (Operand.tmp 13) 0, type := 0, pos := "axes.go:152", after := #[], guard := none }) (v := ?_) rfl (by kernel_rfl) (by kernel_rfl) (by kernel_rfl) (fun _ _ _ h => h) (Or.inl ⟨by rfl, ?_⟩) (by assumption) ?_
                rotate_left
                · ((intro w hSw; (try dsimp only at hSw); go_simp; (try rw [if_neg (by omega)])); try with_reducible rfl)
                (try simp only [Act.put, List.setIfInBounds_toArray, List.set_cons_zero, List.set_cons_succ])
                refine wpAnyH_take (i := 4) (oi := { dst := some 62, op := Op.load 3 (Operand.tmp 61), type := 3, pos := "axes.go:152", after := #[{ on := 3, ground := Ground.data }], guard := none }) (v := ?_) rfl (by kernel_rfl) (by kernel_rfl) (by kernel_rfl) (fun _ _ _ h => h) (Or.inl ⟨by rfl, ?_⟩) (by assumption) ?_
                rotate_left
                · ((intro w hSw; (try dsimp only at hSw); go_simp; (try rw [if_neg (by omega)])); try with_reducible rfl)
                (try simp only [Act.put, List.setIfInBounds_toArray, List.set_cons_zero, List.set_cons_succ])
                refine wpAnyH_take (i := 5) (oi := { dst := some 63, op := Op.indexAddr 35 (Operand.tmp 60) (Operand.tmp 62), type := 0, pos := "axes.go:152", after := #[{ on := 2, ground := Ground.data }, { on := 4, ground := Ground.data }], guard := none }) (v := ?_) rfl (by kernel_rfl) (by kernel_rfl) (by kernel_rfl) (fun _ _ _ h => h) (Or.inl ⟨by rfl, ?_⟩) (by assumption) ?_
                rotate_left
                · ((intro w hSw; (try dsimp only at hSw); go_simp; (try rw [if_neg (by omega)])); try with_reducible rfl)
                (try simp only [Act.put, List.setIfInBounds_toArray, List.set_cons_zero, List.set_cons_succ])
                refine wpAnyH_take (i := 6) (oi := { dst := some 64, op := Op.load 63 (Operand.tmp 63), type := 63, pos := "axes.go:152", after := #[{ on := 5, ground := Ground.data }], guard := none }) (v := ?_) rfl (by kernel_rfl) (by kernel_rfl) (by kernel_rfl) (fun _ _ _ h => h) (Or.inl ⟨by rfl, ?_⟩) (by assumption) ?_
                rotate_left
                · ((intro w hSw; (try dsimp only at hSw); go_simp; (try rw [if_neg (by omega)])); try with_reducible rfl)
                (try simp only [Act.put, List.setIfInBounds_toArray, List.set_cons_zero, List.set_cons_succ])
                refine wpAnyH_take (i := 7) (oi := { dst := some 65, op := Op.move (Operand.tmp 3), type := 22, pos := "axes.go:152", after := #[], guard := none }) (v := ?_) rfl (by kernel_rfl) (by kernel_rfl) (by kernel_rfl) (fun _ _ _ h => h) (Or.inl ⟨by rfl, ?_⟩) (by assumption) ?_
                rotate_left
                · ((intro w hSw; (try dsimp only at hSw); go_simp; (try rw [if_neg (by omega)])); try with_reducible rfl)
                (try simp only [Act.put, List.setIfInBounds_toArray, List.set_cons_zero, List.set_cons_succ])
                refine wpAnyH_ready (rs := [8]) (by kernel_rfl) (by simp) ?_
                refine AllReadyH.cons (o := { dst := some 66, op := Op.call { callee := Callee.value (Operand.func 22), args := #[Operand.tmp 64, Operand.tmp 65], argTypes := #[63, 22] }, type := 65, pos := "axes.go:152", after := #[{ on := 6, ground := Ground.data }, { on := 7, ground := Ground.data }], guard := none }) rfl (fun K hK => ?_) ?_
                · (go_simp; go_at_call 22; refine (CS.out _ (by (repeat' (first | exact Below.refl _ _ | (with_reducible assumption) | (refine bnext ?_ (by with_reducible assumption)) | (refine balloc ?_ _) | (refine below_drewN ?_ _) | (refine Below.drew ?_))))).mono ?_; rintro e w6 ⟨rfl, hb6⟩; dsimp only)
                  refine hK.out _ _ ?_ (fun hHeld => ?_)
                  · exact HKS.out _ (by (repeat' (first | exact Below.refl _ _ | (with_reducible assumption) | (refine bnext ?_ (by with_reducible assumption)) | (refine balloc ?_ _) | (refine below_drewN ?_ _) | (refine Below.drew ?_))))
                  clear hK K
                  (try simp only [Act.put, List.setIfInBounds_toArray, List.set_cons_zero, List.set_cons_succ])
                  refine wpAnyH_ready (rs := [9]) (by kernel_rfl) (by simp) ?_
                  refine AllReadyH.cons (o := { dst := some 67, op := Op.call { callee := Callee.value (Operand.func 25), args := #[Operand.tmp 59, Operand.tmp 66], argTypes := #[3, 65] }, type := 73, pos := "axes.go:152", after := #[{ on := 1, ground := Ground.data }, { on := 8, ground := Ground.data }, { on := 8, ground := Ground.chain }], guard := none }) rfl (fun K hK => ?_) ?_
                  · (go_simp; go_at_call 25; refine (CP.out _).mono ?_; rintro e w7 ⟨rfl, hb7⟩; dsimp only)
                    refine hK.out _ _ ?_ (fun hHeld => ?_)
                    · exact HKS.out _ (by (repeat' (first | exact Below.refl _ _ | (with_reducible assumption) | (refine bnext ?_ (by with_reducible assumption)) | (refine balloc ?_ _) | (refine below_drewN ?_ _) | (refine Below.drew ?_))))
                    clear hK K
                    (try simp only [Act.put, List.setIfInBounds_toArray, List.set_cons_zero, List.set_cons_succ])
                    refine wpAnyH_take (i := 10) (oi := { dst := some 57, op := Op.move (Operand.tmp 67), type := 73, pos := "axes.go:152", after := #[{ on := 9, ground := Ground.data }], guard := none }) (v := ?_) rfl (by kernel_rfl) (by kernel_rfl) (by kernel_rfl) (fun _ _ _ h => h) (Or.inl ⟨by rfl, ?_⟩) (by assumption) ?_
                    rotate_left
                    · ((intro w hSw; (try dsimp only at hSw); go_simp; (try rw [if_neg (by omega)])); try with_reducible rfl)
                    (try simp only [Act.put, List.setIfInBounds_toArray, List.set_cons_zero, List.set_cons_succ])
                    refine wpAnyH_take (i := 11) (oi := { dst := some 68, op := Op.extract (Operand.tmp 57) 0, type := 3, pos := "axes.go:152", after := #[{ on := 10, ground := Ground.data }], guard := none }) (v := ?_) rfl (by kernel_rfl) (by kernel_rfl) (by kernel_rfl) (fun _ _ _ h => h) (Or.inl ⟨by rfl, ?_⟩) (by assumption) ?_
                    rotate_left
                    · ((intro w hSw; (try dsimp only at hSw); go_simp; (try rw [if_neg (by omega)])); try with_reducible rfl)
                    (try simp only [Act.put, List.setIfInBounds_toArray, List.set_cons_zero, List.set_cons_succ])
                    refine wpAnyH_take (i := 12) (oi := { dst := some 69, op := Op.extract (Operand.tmp 57) 1, type := 4, pos := "axes.go:152", after := #[{ on := 10, ground := Ground.data }, { on := 13, ground := Ground.gcOnly Departure.lateStores }], guard := none }) (v := ?_) rfl (by kernel_rfl) (by kernel_rfl) (by kernel_rfl) (fun _ _ _ h => h) (Or.inl ⟨by rfl, ?_⟩) (by assumption) ?_
                    rotate_left
                    · ((intro w hSw; (try dsimp only at hSw); go_simp; (try rw [if_neg (by omega)])); try with_reducible rfl)
                    (try simp only [Act.put, List.setIfInBounds_toArray, List.set_cons_zero, List.set_cons_succ])
                    refine wpAnyH_take (i := 13) (oi := { dst := some 14, op := Op.assign (Operand.tmp 68), type := 3, pos := "axes.go:152", after := #[{ on := 11, ground := Ground.data }, { on := 9, ground := Ground.chain }, { on := 0, ground := Ground.phase }, { on := 1, ground := Ground.phase }, { on := 2, ground := Ground.phase }, { on := 3, ground := Ground.phase }, { on := 4, ground := Ground.phase }, { on := 5, ground := Ground.phase }, { on := 6, ground := Ground.phase }, { on := 7, ground := Ground.phase }, { on := 8, ground := Ground.phase }, { on := 9, ground := Ground.phase }, { on := 10, ground := Ground.phase }, { on := 11, ground := Ground.phase }, { on := 12, ground := Ground.textOnly Departure.lateStores }], guard := none }) (v := ?_) rfl (by kernel_rfl) (by kernel_rfl) (by kernel_rfl) (fun _ _ _ h => h) (Or.inl ⟨by rfl, ?_⟩) (by assumption) ?_
                    rotate_left
                    · ((intro w hSw; (try dsimp only at hSw); go_simp; (try rw [if_neg (by omega)])); try with_reducible rfl)
                    (try simp only [Act.put, List.setIfInBounds_toArray, List.set_cons_zero, List.set_cons_succ])
                    refine wpAnyH_take (i := 14) (oi := { dst := some 15, op := Op.assign (Operand.tmp 69), type := 4, pos := "axes.go:152", after := #[{ on := 12, ground := Ground.data }, { on := 13, ground := Ground.chain }, { on := 0, ground := Ground.phase }, { on := 1, ground := Ground.phase }, { on := 2, ground := Ground.phase }, { on := 3, ground := Ground.phase }, { on := 4, ground := Ground.phase }, { on := 5, ground := Ground.phase }, { on := 6, ground := Ground.phase }, { on := 7, ground := Ground.phase }, { on := 8, ground := Ground.phase }, { on := 9, ground := Ground.phase }, { on := 10, ground := Ground.phase }, { on := 11, ground := Ground.phase }, { on := 12, ground := Ground.phase }, { on := 13, ground := Ground.phase }], guard := none }) (v := ?_) rfl (by kernel_rfl) (by kernel_rfl) (by kernel_rfl) (fun _ _ _ h => h) (Or.inl ⟨by rfl, ?_⟩) (by assumption) ?_
                    rotate_left
                    · ((intro w hSw; (try dsimp only at hSw); go_simp; (try rw [if_neg (by omega)])); try with_reducible rfl)
                    (try simp only [Act.put, List.setIfInBounds_toArray, List.set_cons_zero, List.set_cons_succ])
                    refine wpAnyH_done (by kernel_rfl) ?_ _
                    have hbf : Below w5.heap.size w5 w7 := by
                      refine bnext (bnext ?_ hb6) hb7
                      (repeat' (first | exact Below.refl _ _ | (with_reducible assumption) | (refine bnext ?_ (by with_reducible assumption)) | (refine balloc ?_ _) | (refine below_drewN ?_ _) | (refine Below.drew ?_)))
                    have HBF := Lib.hid (bnext HBW5.out hbf)
                    clear hbf hb6 hb7
                    cases s2 with
                    | false =>
                      go_wp2
                      go_roundw
                      case rel => exact ⟨i + 1, s1 + t1, false, by simp, by omega, rfl, rfl, Lib.hid (HT.out.trans rfl), HALL, by omega, by omega, HBF.out⟩
                      case measure => simp [intOf]; omega
                    | true =>
                      go_wp2
                      go_roundw
                      case rel => exact ⟨i + 1, s1 + t1, t2, by simp, by omega, rfl, rfl, Lib.hid (HT.out.trans rfl), HALL, by omega, by omega, HBF.out⟩
                      case measure => simp [intOf]; omega
                  exact AllReadyH.nil
                exact AllReadyH.nil
        · obtain rfl : i = m := by omega
          have htk : l.take i = l := by rw [← HM.out, List.take_length]
          have hacc := HACC.out
          rw [htk] at hacc
          cases s2 with
          | false =>
            have hz := HNO.out (.inr (.inr (.inr (by rw [hacc]))))
            obtain ⟨rfl, rfl⟩ : N1 = 0 ∧ N2 = false := by simpa using hz
            clear hz hacc htk
            go_wp2
            go_ret2
            exact ⟨by first | rfl | trivial, hbr⟩
          | true =>
            have hz := HYES.out (by omega) (by first | rfl | trivial) (fun j g hg => HYS.out j g (by rw [← HM.out]; exact (List.getElem?_eq_some_iff.1 hg).1) hg) s1 hacc
            obtain ⟨rfl, rfl⟩ : N1 = s1 ∧ N2 = true := by simpa using hz
            clear hz hacc htk
            go_wp2
            go_ret2
            exact ⟨by first | rfl | trivial, hbr⟩
end Go.Proofs.Ytanppbdlcinpfaa
end
/- What numbers make: plain. No conditions. -/
section
namespace Go.Proofs.Ytanppbdlcinpfaa.AX
set_option linter.unusedVariables false
def num (l : List Int) (k : Nat) : Int := l.getD k 0 % 65536
theorem num_bd (l : List Int) (k : Nat) : 0 ≤ num l k ∧ num l k ≤ 65535 := by unfold num; omega
def peakOf (a : Int) : Int := [0, 0, 64, -64, 32, -16, a % 129 - 64].getD (a / 129 % 7).toNat 0
def mkTent (a b c : Int) : Tn := if 0 < peakOf a then (min (b % 65) (peakOf a), peakOf a, max (c % 65) (peakOf a)) else if peakOf a < 0 then (min (-(b % 65)) (peakOf a), peakOf a, max (-(c % 65)) (peakOf a)) else (-(b % 65), 0, c % 65)
theorem peak_bd (a : Int) : -64 ≤ peakOf a ∧ peakOf a ≤ 64 := by
  unfold peakOf
  obtain ⟨n, hn⟩ : ∃ n : Nat, (a / 129 % 7).toNat = n := ⟨_, rfl⟩
  have h7 : n < 7 := by omega
  rw [hn]
  have : n = 0 ∨ n = 1 ∨ n = 2 ∨ n = 3 ∨ n = 4 ∨ n = 5 ∨ n = 6 := by omega
  rcases this with h | h | h | h | h | h | h <;> subst h <;> simp <;> omega
theorem tent_mk (a b c : Int) : tent (mkTent a b c) = true := by
  rw [tent_iff]
  have := peak_bd a
  unfold mkTent
  obtain ⟨p, hp⟩ : ∃ p, peakOf a = p := ⟨_, rfl⟩
  rw [hp] at this ⊢
  have h1 : 0 ≤ b % 65 ∧ b % 65 < 65 := by omega
  have h2 : 0 ≤ c % 65 ∧ c % 65 < 65 := by omega
  obtain ⟨x, hx⟩ : ∃ x, b % 65 = x := ⟨_, rfl⟩
  obtain ⟨y, hy⟩ : ∃ y, c % 65 = y := ⟨_, rfl⟩
  rw [hx] at h1
  rw [hy] at h2
  rw [hx, hy]
  by_cases h3 : 0 < p
  · rw [if_pos h3]
    simp only
    omega
  · rw [if_neg h3]
    by_cases h4 : p < 0
    · rw [if_pos h4]
      simp only
      omega
    · rw [if_neg h4]
      refine ⟨by simp only; omega, by simp only; omega, by simp only; omega, by simp only; omega, .inl rfl⟩
def mkTn (l : List Int) (k : Nat) : Tn := mkTent (num l (3 * k)) (num l (3 * k + 1)) (num l (3 * k + 2))
def mkReg (l : List Int) (n : Nat) : List Tn := (List.range n).map (mkTn l)
theorem mkReg_succ (l : List Int) (n : Nat) : mkReg l (n + 1) = mkReg l n ++ [mkTn l n] := by unfold mkReg; rw [List.range_succ, List.map_append]; rfl
theorem mkReg_len (l : List Int) (n : Nat) : (mkReg l n).length = n := by unfold mkReg; simp
theorem mkReg_right (l : List Int) {n : Nat} (hn : n ≤ 3) : right (mkReg l n) (n : Int) = true := by
  rw [right_iff]
  refine ⟨⟨by omega, by omega, by rw [mkReg_len]⟩, fun t ht => ?_⟩
  unfold mkReg at ht
  obtain ⟨k, -, rfl⟩ := List.mem_map.1 ht
  exact tent_mk _ _ _
def mkC (l : List Int) (k : Nat) : Int := num l k % 129 - 64
def mkAt (l : List Int) (n : Nat) : List Int := (List.range n).map (mkC l)
theorem mkAt_len (l : List Int) (n : Nat) : (mkAt l n).length = n := by unfold mkAt; simp
theorem mkC_coord (l : List Int) (k : Nat) : coord (mkC l k) = true := by rw [coord_iff]; unfold mkC; have := num_bd l k; omega
theorem mkAt_coords (l : List Int) {n : Nat} (hn : n ≤ 3) : coords (mkAt l n) = true := by
  rw [coords_iff]
  refine ⟨fun t ht => ?_, by rw [mkAt_len]; omega⟩
  unfold mkAt at ht
  obtain ⟨k, -, rfl⟩ := List.mem_map.1 ht
  exact mkC_coord l k
def mkP (l : List Int) (k : Nat) : Pr := (num l (2 * k) % 129 - 64, min 64 (num l (2 * k) % 129 - 64 + num l (2 * k + 1) % 65))
def mkRanges (l : List Int) (n : Nat) : List Pr := (List.range n).map (mkP l)
theorem mkRanges_succ (l : List Int) (n : Nat) : mkRanges l (n + 1) = mkRanges l n ++ [mkP l n] := by unfold mkRanges; rw [List.range_succ, List.map_append]; rfl
theorem mkRanges_len (l : List Int) (n : Nat) : (mkRanges l n).length = n := by unfold mkRanges; simp
theorem mkP_rng (l : List Int) (k : Nat) : rng (mkP l k) = true := by
  rw [rng_iff]
  unfold mkP
  have h1 := num_bd l (2 * k)
  have h2 := num_bd l (2 * k + 1)
  simp only
  omega
theorem mkRanges_right (l : List Int) {n : Nat} (hn : n ≤ 3) : ranges (mkRanges l n) (n : Int) = true := by
  rw [ranges_iff]
  refine ⟨⟨by omega, by omega, by rw [mkRanges_len]⟩, fun t ht => ?_⟩
  unfold mkRanges at ht
  obtain ⟨k, -, rfl⟩ := List.mem_map.1 ht
  exact mkP_rng l k
end Go.Proofs.Ytanppbdlcinpfaa.AX
end
