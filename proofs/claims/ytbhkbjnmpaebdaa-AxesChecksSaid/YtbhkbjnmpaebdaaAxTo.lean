/- Touches of the program. No conditions. -/
import Derived.Test.YtbhkbjnmpaebdaaAxWi
import Derived.Test.YtbhkbjnmpaebdaaAx2c
namespace Go.Proofs.Ytbhkbjnmpaebdaa.AX
def peakIn (x : Tn × Pr) : Bool := decide (x.1.2.1 = 0 ∨ (x.2.1 ≤ x.1.2.1 ∧ x.1.2.1 ≤ x.2.2))
def sideIn (x : Tn × Pr) : Bool := decide (max x.2.1 (x.1.1 + 1) ≤ min x.2.2 (x.1.2.2 - 1))
def touch (x : Tn × Pr) : Bool := peakIn x || sideIn x
def touches (r : List Tn) (l : List Pr) : Bool := ranges l (l.length : Int) && (right r (l.length : Int) && (r.zip l).all touch)
theorem touches_no {r : List Tn} {l : List Pr} (h : ranges l (l.length : Int) = false) : touches r l = false := by unfold touches; rw [h]; rfl
theorem touches_no2 {r : List Tn} {l : List Pr} (h : right r (l.length : Int) = false) : touches r l = false := by unfold touches; rw [h]; simp
theorem touches_out {r : List Tn} {l : List Pr} {j : Nat} {x : Tn × Pr} (hx : (r.zip l)[j]? = some x) (h : touch x = false) : touches r l = false := by
  unfold touches
  rw [Bool.and_eq_false_iff]
  right
  rw [Bool.and_eq_false_iff]
  right
  rw [List.all_eq_false]
  exact ⟨x, List.mem_of_getElem? hx, by rw [h]; simp⟩
theorem touches_yes {r : List Tn} {l : List Pr} (h : ranges l (l.length : Int) = true) (h1 : right r (l.length : Int) = true) (h2 : ∀ x ∈ r.zip l, touch x = true) : touches r l = true := by
  unfold touches
  rw [h, h1, Bool.true_and, Bool.true_and, List.all_eq_true]
  exact h2
end Go.Proofs.Ytbhkbjnmpaebdaa.AX
namespace Go.Proofs.Ytbhkbjnmpaebdaa
set_option maxRecDepth 100000
set_option linter.unusedVariables false
open Go.RowKit Go.Shelf Go.Deep
attribute [local go_sem] Oper.semAt_some
set_option maxHeartbeats 16000000 in
theorem touches_in (n : Nat) (hn : 4 ≤ n) (r : List AX.Tn) (l : List AX.Pr) (va v : Value) (w : World) (hal : r.length ≤ 1000000000000) (hl : l.length ≤ 1000000000000) (ha : TnAt w va r) (hv : PrAt w v l) :
    CallsIn Fence.wide n Try.prog 36 #[.agg #[va], v] w fun e w' => e = .returned (.bool (AX.touches r l)) ∧ Below w.heap.size w w' := by
  have h1 : 1 ≤ n := by omega
  have HV : Hid (∀ V, Below w.heap.size w V → PrAt V v l) := Lib.hid fun V hV => hv.keep hV
  have HA : Hid (∀ V, Below w.heap.size w V → TnAt V va r) := Lib.hid fun V hV => ha.keep hV
  obtain ⟨a, c, rfl, -⟩ := hv
  obtain ⟨aa, ac, rfl, -⟩ := ha
  obtain ⟨m, hm⟩ : ∃ m, l.length = m := ⟨_, rfl⟩
  obtain ⟨k, hk⟩ : ∃ k, r.length = k := ⟨_, rfl⟩
  have HM := Lib.hid hm
  have HK := Lib.hid hk
  rw [hm] at hl HV ⊢
  rw [hk] at hal HA ⊢
  obtain ⟨r1, hr1⟩ : ∃ b, AX.ranges l (m : Int) = b := ⟨_, rfl⟩
  obtain ⟨r2, hr2⟩ : ∃ b, AX.right r (m : Int) = b := ⟨_, rfl⟩
  have CR : Hid (∀ V, Below w.heap.size w V → Calls Try.prog 32 #[.slice a m c, .int .i64 (m : Int)] V fun e w' => e = .returned (.bool r1) ∧ Below V.heap.size V w') := Lib.hid fun V hV => ranges_c hr1 _ _ (by rw [HM.out]; exact hl) (HV.out V hV)
  have CC : Hid (∀ V, Below w.heap.size w V → Calls Try.prog 23 #[.agg #[.slice aa k ac], .int .i64 (m : Int)] V fun e w' => e = .returned (.bool r2) ∧ Below V.heap.size V w') := Lib.hid fun V hV => right_c hr2 _ _ (by rw [HK.out]; exact hal) (HA.out V hV)
  have HR1 := Lib.hid hr1
  have HR2 := Lib.hid hr2
  clear hm hk hr1 hr2
  refine callsIn_of_wp_marks Try.func36 rfl trivial ?_ rfl
  simp only [Try.ntmps36, List.size_toArray, List.length_cons, List.length_nil, Nat.reduceAdd, Nat.reduceSub, Array.replicate_succ, Array.replicate_zero, List.push_toArray, List.append_toArray, List.nil_append, List.cons_append]
  gi_wp2_with fail
  refine ⟨trivial, ?_⟩
  gi_at_call 32
  obtain ⟨W0, hW0⟩ : ∃ W0, (w.alloc (.cells #[.slice aa k ac] 42)).alloc (.cells #[.bool false] 4) = W0 := ⟨_, rfl⟩
  obtain ⟨B, hB⟩ : ∃ B, w.heap.size = B := ⟨_, rfl⟩
  have hs1 : BlB W0 (B + 1) false := by rw [← hW0, ← hB]; have := heap_alloc_new (w.alloc (.cells #[.slice aa k ac] 42)) (.cells #[.bool false] 4); rw [World.size_alloc] at this; exact this
  have hv0 : W0.heap[B]? = some (.cells #[.slice aa k ac] 42 (0, 0)) := by rw [← hW0, ← hB]; exact (Below.heap_alloc _ _ _ (by simp)).trans (heap_alloc_new w _)
  have hb0 : Below w.heap.size w W0 := by rw [← hW0]; exact balloc (balloc (Below.refl _ _) _) _
  rw [hW0, hB]
  have HB := Lib.hid hB
  clear hW0 hB
  refine (callsIn_wide.2 (CR.out _ hb0)).mono ?_
  rintro e w1 ⟨rfl, k1⟩
  have hs1' := hs1.keep k1
  have hv1 := (k1.block B (Array.getElem?_eq_some_iff.1 hv0).1).trans hv0
  cases r1 with
  | false =>
    have x0 := hs1'.cell
    have f0 := hs1'.frozen
    gi_wp2_with (refine ⟨trivial, ?_⟩)
    have hno : AX.touches r l = false := AX.touches_no (by rw [HM.out, HR1.out])
    have hbe := bset (bnext hb0 k1) (p := ⟨B + 1, 0, none⟩) (by rw [HB.out]; exact Nat.le_succ _) (.bool false)
    exact retM (results_bool rfl _ _ (B + 1) false rfl (hs1'.put false)) ⟨by rw [hno], hbe⟩
  | true =>
    have y0 : w1.cell? ⟨B, 0, none⟩ = some (.slice aa k ac) := by simp [World.cell?, hv1]
    gi_wp2_with fail
    refine ⟨trivial, ?_⟩
    gi_at_call 23
    refine (callsIn_wide.2 (CC.out _ (bnext hb0 k1))).mono ?_
    rintro e w2 ⟨rfl, k2⟩
    have hs2 := hs1'.keep k2
    have hv2 := (k2.block B (Array.getElem?_eq_some_iff.1 hv1).1).trans hv1
    have x0 := hs2.cell
    have f0 := hs2.frozen
    cases r2 with
    | false =>
      gi_wp2
      have hno : AX.touches r l = false := AX.touches_no2 (by rw [HM.out, HR2.out])
      have hbe := bset (bnext (bnext hb0 k1) k2) (p := ⟨B + 1, 0, none⟩) (by rw [HB.out]; exact Nat.le_succ _) (.bool false)
      exact retM (results_bool rfl _ _ (B + 1) false rfl (hs2.put false)) ⟨by rw [hno], hbe⟩
    | true =>
      have y1 : w2.cell? ⟨B, 0, none⟩ = some (.slice aa k ac) := by simp [World.cell?, hv2]
      gi_wp2_with (refine ⟨trivial, ?_⟩; gi_at_call 68; refine (callsIn_wide.2 (boR_any _ _ _ _ _ _ rfl _ _ _ rfl)).mono ?_; rintro e w4 ⟨rfl, rfl⟩)
      obtain ⟨C, hC⟩ : ∃ C, w2.heap.size = C := ⟨_, rfl⟩
      obtain ⟨W4, hW4, b1, b2, hb4, hsz⟩ := two w2 (.cells #[.slice aa k ac] 40) (.cells #[.slice a m c] 22) C hC
      rw [hW4]
      rw [hC]
      have hbw3 : Below w.heap.size w w2 := bnext (bnext hb0 k1) k2
      have hb4' : Below w2.heap.size w2 W4 := by rw [hC]; exact hb4
      have hbw4 : Below w.heap.size w W4 := bnext hbw3 hb4'
      have hBC : B + 1 < C := by have := hs2.lt; omega
      have q1 : W4.cell? ⟨C, 0, none⟩ = some (.slice aa k ac) := by simp [World.cell?, b1]
      have q2 : W4.cell? ⟨C + 1, 0, none⟩ = some (.slice a m c) := by simp [World.cell?, b2]
      have HC := Lib.hid hC
      have HSZ := Lib.hid hsz
      have hlen : Hid (∀ pre x, AX.zpre r l pre → (r.zip l)[pre.length]? = some x → AX.zpre r l (pre ++ [x])) := Lib.hid AX.zpre_step
      clear x0 f0 hC hW4 y0 y1
      refine range_given rfl h1 (gf := 78) (lb := #[.pointer (some ⟨C, 0, none⟩), .pointer (some ⟨C + 1, 0, none⟩)]) rfl trivial (enters_of Try.func78 (by kernel_rfl) rfl)
        (boR_given (n - 1) (by omega) C (C + 1) (C + 2) r l (.slice aa k ac) (.slice a m c) (by rw [HK.out]; exact hal) (by rw [HM.out]; exact hl) w2 W4 hb4' (by rw [HC.out]; omega) (HA.out _ hbw3) (HV.out _ hbw3) (by omega) (by omega) q1 q2)
        KpN.trans (fun W l o o' hl h _ _ => kpn_put hl h) (Below.refl _ _) (fun _ => rfl)
        (fun pre U => AX.zpre r l pre ∧ (∀ x ∈ pre, AX.touch x = true) ∧ Below W4.heap.size W4 U)
        (fun e pre U => e = .ret ∧ AX.touches r l = false ∧ BlB U (B + 1) false ∧ Below w.heap.size w U)
        (OwnFrom.and (ownFrom_pure _ _) (OwnFrom.and (ownFrom_pure _ _) (ownFrom_below (Nat.le_refl _) (Nat.le_refl _))))
        (fun e pre X Y row hs hg hr => by obtain ⟨h1, h2, h3, h5⟩ := hs; exact ⟨h1, h2, row_kept h3 hg (fun r e => (hr r e).2), h5.grown hg h5.size (fun r e => by have := (hr r e).1; have := hbw4.size; omega)⟩)
        (fun pre X Y b hs hg hb _ _ => ⟨hs.1, hs.2.1, hs.2.2.grown hg hs.2.2.size (fun k e => by cases e; exact hb)⟩)
        (fun e pre X Y b hs hg hb _ _ => by obtain ⟨h1, h2, h3, h5⟩ := hs; exact ⟨h1, h2, (hg.block (B + 1) h3.lt (fun e => by have := Option.some.inj e; omega)).trans h3, h5.grown hg h5.size (fun r e => by have := Option.some.inj e; have := hbw4.size; omega)⟩)
        ⟨AX.zpre_nil, by simp, Below.refl _ _⟩
        (fun pre x a' U => ∃ (Bx By : Nat), W4.heap.size ≤ Bx ∧ (r.zip l)[pre.length]? = some x ∧ U.heap[Bx]? = some (.cells #[.int .i64 x.1.1, .int .i64 x.1.2.1, .int .i64 x.1.2.2] 71 (0, 0)) ∧ U.heap[By]? = some (.cells #[.int .i64 x.2.1, .int .i64 x.2.2] 30 (0, 0)) ∧ a' = { tmps := #[.agg #[.slice aa k ac], .slice a m c, .pointer (some ⟨B, 0, none⟩), undef, .pointer (some ⟨B + 1, 0, none⟩), .pointer (some ⟨Bx, 0, none⟩), .pointer (some ⟨By, 0, none⟩), undef, undef, .slice a m c, .slice a m c, .int .i64 (m : Int), .bool true, .bool false, .bool false, .agg #[.slice aa k ac], .slice a m c, .int .i64 (m : Int), .bool true, .bool false, .bool false, .pointer (some ⟨B, 0, none⟩), .slice aa k ac, .slice a m c, .func (.func 78) #[] #[.pointer (some ⟨C, 0, none⟩), .pointer (some ⟨C + 1, 0, none⟩)], .agg #[.int .i64 x.1.1, .int .i64 x.1.2.1, .int .i64 x.1.2.2], .agg #[.int .i64 x.2.1, .int .i64 x.2.2], undef, undef, undef, undef, undef, undef, undef, undef, undef, undef, undef, undef, undef, undef, undef, undef, undef, undef, undef, undef, undef, undef, undef, undef, undef, undef, undef, undef, undef, undef, undef, undef, undef, undef, undef, undef], defers := [] })
        (fun pre x a' _ X Y row hs hg hr => by obtain ⟨Bx, By, h1, h2, h3, h4, h5⟩ := hs; exact ⟨Bx, By, h1, h2, row_kept h3 hg (fun r e => (hr r e).2), row_kept h4 hg (fun r e => (hr r e).2), h5⟩)
        ?assign ?body ?done ?stop
      case assign =>
        rintro L pre ⟨⟨xf, xp, xq⟩, x1, x2⟩ U K ⟨hz, hin, hbU⟩ hx hK
        simp only [boRE]
        have HKK := Lib.hid hK
        have HX := Lib.hid hx
        clear hK hx
        gi_wp2
        have hbA : Below U.heap.size U (U.alloc (.cells #[.int .i64 xf, .int .i64 xp, .int .i64 xq] 71)) := (Below.refl _ U).alloc (Nat.le_refl _) _
        have hbA2 : Below U.heap.size U ((U.alloc (.cells #[.int .i64 xf, .int .i64 xp, .int .i64 xq] 71)).alloc (.cells #[.int .i64 x1, .int .i64 x2] 30)) := balloc hbA _
        have hn2 := heap_alloc_new (U.alloc (.cells #[.int .i64 xf, .int .i64 xp, .int .i64 xq] 71)) (.cells #[.int .i64 x1, .int .i64 x2] 30)
        rw [World.size_alloc] at hn2
        exact HKK.out _ _ (((KeepsOthers.alloc _ _).trans (KeepsOthers.alloc _ _)).from _) (KpN.of hbA2 hbU.size) ⟨hz, hin, (hbU.alloc hbU.size _).alloc (by have := hbU.size; simp; omega) _⟩ ⟨U.heap.size, U.heap.size + 1, hbU.size, HX.out, (Below.heap_alloc _ _ _ (by simp)).trans (heap_alloc_new U _), hn2, rfl⟩
      case body =>
        rintro L pre ⟨⟨xf, xp, xq⟩, x1, x2⟩ a' U hL hr ⟨hz, hin, hbU⟩ ⟨Bx, By, hBx, hx, hdb, hdc, rfl⟩
        have hx2 := List.getElem?_zip_eq_some.1 hx
        obtain ⟨t1, t2, t3, t4, -⟩ := (AX.tent_iff _).1 (((AX.right_iff _ _).1 HR2.out).2 _ (List.mem_of_getElem? hx2.1))
        obtain ⟨u1, u2, u3⟩ := (AX.rng_iff _).1 (((AX.ranges_iff _ _).1 HR1.out).2 _ (List.mem_of_getElem? hx2.2))
        simp only at t1 t2 t3 t4 u1 u2 u3
        have HZ := Lib.hid (hlen.out pre _ hz hx)
        have HIN := Lib.hid hin
        have HX := Lib.hid hx
        have HBU := Lib.hid hbU
        have HBW := Lib.hid (bnext hbw4 hbU)
        have hbB : BlB U (B + 1) false := (hbU.block (B + 1) (by omega)).trans ((hb4.block (B + 1) hBC).trans hs2)
        simp only at hdb hdc
        have d0 : U.cell? ⟨Bx, 0, none⟩ = some (.int .i64 xf) := by simp [World.cell?, hdb]
        have d1 : U.cell? ⟨Bx, 1, none⟩ = some (.int .i64 xp) := by simp [World.cell?, hdb]
        have d2 : U.cell? ⟨Bx, 2, none⟩ = some (.int .i64 xq) := by simp [World.cell?, hdb]
        have g0 : U.cell? ⟨By, 0, none⟩ = some (.int .i64 x1) := by simp [World.cell?, hdc]
        have g1 : U.cell? ⟨By, 1, none⟩ = some (.int .i64 x2) := by simp [World.cell?, hdc]
        have x0 := hbB.cell
        have f0 := hbB.frozen
        have yes : Hid (AX.touch ((xf, xp, xq), (x1, x2)) = true → AX.zpre r l (pre ++ [((xf, xp, xq), (x1, x2))]) ∧ (∀ x ∈ pre ++ [((xf, xp, xq), (x1, x2))], AX.touch x = true) ∧ Below W4.heap.size W4 U) := Lib.hid fun ht => ⟨HZ.out, fun x hx => by
          rcases List.mem_append.1 hx with hx | hx
          · exact HIN.out _ hx
          · rw [List.mem_singleton.1 hx]; exact ht, HBU.out⟩
        have w1 : IntKind.i64.wrap (xf + 1) = xf + 1 := by rw [IntKind.wrap_i64]; omega
        have w2' : IntKind.i64.wrap (xq - 1) = xq - 1 := by rw [IntKind.wrap_i64]; omega
        obtain ⟨mx, hmx⟩ : ∃ mx, max x1 (xf + 1) = mx := ⟨_, rfl⟩
        obtain ⟨mn, hmn⟩ : ∃ mn, min x2 (xq - 1) = mn := ⟨_, rfl⟩
        have m1 : (if x1 < xf + 1 then xf + 1 else x1) = mx := by rw [← hmx]; split <;> omega
        have m2 : (if xq - 1 < x2 then xq - 1 else x2) = mn := by rw [← hmn]; split <;> omega
        have HMX := Lib.hid hmx
        have HMN := Lib.hid hmn
        clear hz hx hin hr hL hbU hx2 hdb hdc
        by_cases k3 : mx ≤ mn
        · have hto : AX.touch ((xf, xp, xq), (x1, x2)) = true := by
            unfold AX.touch AX.sideIn
            simp only
            rw [HMX.out, HMN.out]
            simp [k3]
          have HTO := Lib.hid hto
          clear hto
          by_cases k0 : xp = 0
          · have q0 : (xp == 0) = true := by simpa using k0
            clear k0
            gi_wp2
            refine ⟨(KeepsOthers.refl _).from _, KpN.refl _ _, HZ.out, ?_, by have := HBU.out; rwa [HSZ.out] at this⟩
            first | exact fun a1 a2 a3 a4 a5 h => (yes.out HTO.out).2.1 _ h | exact (yes.out HTO.out).2.1
          · have q0 : (xp == 0) = false := by simpa using k0
            by_cases k1 : x1 ≤ xp
            · by_cases k2 : xp ≤ x2
              · gi_wp2
                refine ⟨(KeepsOthers.refl _).from _, KpN.refl _ _, HZ.out, ?_, by have := HBU.out; rwa [HSZ.out] at this⟩
                first | exact fun a1 a2 a3 a4 a5 h => (yes.out HTO.out).2.1 _ h | exact (yes.out HTO.out).2.1
              · gi_wp2
                refine ⟨(KeepsOthers.refl _).from _, KpN.refl _ _, HZ.out, ?_, by have := HBU.out; rwa [HSZ.out] at this⟩
                first | exact fun a1 a2 a3 a4 a5 h => (yes.out HTO.out).2.1 _ h | exact (yes.out HTO.out).2.1
            · gi_wp2
              refine ⟨(KeepsOthers.refl _).from _, KpN.refl _ _, HZ.out, ?_, by have := HBU.out; rwa [HSZ.out] at this⟩
              first | exact fun a1 a2 a3 a4 a5 h => (yes.out HTO.out).2.1 _ h | exact (yes.out HTO.out).2.1
        · by_cases k0 : xp = 0
          · have q0 : (xp == 0) = true := by simpa using k0
            have hto : AX.touch ((xf, xp, xq), (x1, x2)) = true := by
              unfold AX.touch AX.peakIn
              simp [k0]
            have HTO := Lib.hid hto
            clear k0 hto
            gi_wp2
            refine ⟨(KeepsOthers.refl _).from _, KpN.refl _ _, HZ.out, ?_, by have := HBU.out; rwa [HSZ.out] at this⟩
            first | exact fun a1 a2 a3 a4 a5 h => (yes.out HTO.out).2.1 _ h | exact (yes.out HTO.out).2.1
          · have q0 : (xp == 0) = false := by simpa using k0
            by_cases k1 : x1 ≤ xp
            · by_cases k2 : xp ≤ x2
              · have hto : AX.touch ((xf, xp, xq), (x1, x2)) = true := by
                  unfold AX.touch AX.peakIn
                  simp [k1, k2]
                have HTO := Lib.hid hto
                clear hto
                gi_wp2
                refine ⟨(KeepsOthers.refl _).from _, KpN.refl _ _, HZ.out, ?_, by have := HBU.out; rwa [HSZ.out] at this⟩
                first | exact fun a1 a2 a3 a4 a5 h => (yes.out HTO.out).2.1 _ h | exact (yes.out HTO.out).2.1
              · gi_wp2
                have hno : AX.touches r l = false := AX.touches_out HX.out (by unfold AX.touch AX.peakIn AX.sideIn; simp only; rw [HMX.out, HMN.out, Bool.or_eq_false_iff, decide_eq_false_iff_not, decide_eq_false_iff_not]; omega)
                exact ownPostG_ret (((KeepsOthers.setCell _ _ _)).from _) ⟨rfl, hno, hbB.put false, bset HBW.out (by rw [HB.out]; exact Nat.le_succ _) _⟩
            · gi_wp2
              have hno : AX.touches r l = false := AX.touches_out HX.out (by unfold AX.touch AX.peakIn AX.sideIn; simp only; rw [HMX.out, HMN.out, Bool.or_eq_false_iff, decide_eq_false_iff_not, decide_eq_false_iff_not]; omega)
              exact ownPostG_ret (((KeepsOthers.setCell _ _ _)).from _) ⟨rfl, hno, hbB.put false, bset HBW.out (by rw [HB.out]; exact Nat.le_succ _) _⟩
      case done =>
        rintro D zs W hD hzs ⟨hz, hin, hbW⟩ hKD
        have hzz := AX.zpre_end hz hzs
        subst hzz
        have hyes : AX.touches r l = true := AX.touches_yes (by rw [HM.out, HR1.out]) (by rw [HM.out, HR2.out]) hin
        have HY := Lib.hid hyes
        have hbB : BlB W (B + 1) false := (hbW.block (B + 1) (by omega)).trans ((hb4.block (B + 1) hBC).trans hs2)
        have x0 := hbB.cell
        have f0 := hbB.frozen
        have HBW := Lib.hid (bnext hbw4 hbW)
        have hlt := hbB.lt
        have hBD : B + 1 ≠ D := by omega
        clear hz hzs hyes hbW hin
        gi_wp2
        have hbe := bset HBW.out (p := ⟨B + 1, 0, none⟩) (by rw [HB.out]; exact Nat.le_succ _) (.bool true)
        have hKD' : (W.setCell ⟨B + 1, 0, none⟩ (.bool true)).heap[D]? = some (.deferred (some [])) := (Below.heap_setCell _ _ _ _ (by simp; omega)).trans hKD
        refine ⟨by simp, .inl ⟨_, _, rfl, run_takeDeferred hKD', ?_⟩⟩
        exact ⟨_, results_bool rfl _ _ (B + 1) true rfl ((hbB.put true).obj hBD _), by rw [HY.out], hbe.trans (belowK_b (w := w) (Nat.le_refl _) _ D _ _ (by rw [HB.out]; omega) hKD' rfl rfl)⟩
      case stop =>
        rintro D e pre W hD - ⟨rfl, hno, hbB, hbW⟩ hKD
        have HY := Lib.hid hno
        have HBW := Lib.hid hbW
        have hlt := hbB.lt
        have hBD : B + 1 ≠ D := by omega
        clear hno hbW
        gi_wp2
        refine ⟨by simp, .inl ⟨_, _, rfl, run_takeDeferred hKD, ?_⟩⟩
        exact ⟨_, results_bool rfl _ _ (B + 1) false rfl (hbB.obj hBD _), by rw [HY.out], HBW.out.trans (belowK_b (w := w) (Nat.le_refl _) _ D _ _ (by rw [HB.out]; omega) hKD rfl rfl)⟩
theorem touches_any (r : List AX.Tn) (l : List AX.Pr) (va v : Value) (w : World) (hal : r.length ≤ 1000000000000) (hl : l.length ≤ 1000000000000) (ha : TnAt w va r) (hv : PrAt w v l) :
    Calls Try.prog 36 #[.agg #[va], v] w fun e w' => e = .returned (.bool (AX.touches r l)) ∧ Below w.heap.size w w' :=
  callsIn_wide.1 (touches_in 4 (Nat.le_refl _) r l va v w hal hl ha hv)
end Go.Proofs.Ytbhkbjnmpaebdaa
