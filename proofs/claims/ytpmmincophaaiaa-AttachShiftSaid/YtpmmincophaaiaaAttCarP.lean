/- The place of a mark that a glyph before it carries, of the program. No conditions. -/
import Derived.Test.YtpmmincophaaiaaAttIter
import Derived.Test.YtpmmincophaaiaaMarks
import Derived.Test.YtpmmincophaaiaaLastIn
namespace Go.Proofs.Ytpmmincophaaiaa.AT
/-- What carried answers. -/
def carA (P : List (Int × Int)) (l : List Dr) (d : Dr) (k : Nat) : (Int × Int) × Bool := match carrier l d.hang.1 k with
  | some (j, a) => (((P.getD j (0, 0)).1 + a.2.1 - d.hang.2.1, (P.getD j (0, 0)).2 + a.2.2 - d.hang.2.2), true)
  | none => ((0, 0), false)
end Go.Proofs.Ytpmmincophaaiaa.AT
namespace Go.Proofs.Ytpmmincophaaiaa
set_option maxRecDepth 100000
set_option linter.unusedVariables false
open Go.RowKit Go.Shelf Go.Deep
attribute [local go_sem] Oper.semAt_some
theorem KpN.of {N : Nat} {A B : World} (h : Below A.heap.size A B) (hN : N ≤ A.heap.size) : KpN N A B := ⟨h.size, fun p hp => h.cell (Nat.lt_of_lt_of_le hp hN)⟩
theorem kpn_put {N : Nat} {W : World} {l : Nat} {o o' : Obj} (hl : N ≤ l) (h : W.heap[l]? = some o) : KpN N W (W.putObj l o') :=
  ⟨(grownBy_putObj' W l o').size, fun p hp => by
    have hlt := (Array.getElem?_eq_some_iff.1 h).1
    simp only [World.cell?, (grownBy_putObj' W l o').block p.block (by omega) (fun e => by have := Option.some.inj e; omega)]⟩
theorem six (w : World) (o0 o1 o2 o3 o4 o5 : Obj) (B : Nat) (hB : w.heap.size = B) : ∃ W0, (((((w.alloc o0).alloc o1).alloc o2).alloc o3).alloc o4).alloc o5 = W0 ∧ W0.heap[B]? = some o0 ∧ W0.heap[B + 1]? = some o1 ∧ W0.heap[B + 2]? = some o2 ∧ W0.heap[B + 3]? = some o3 ∧ W0.heap[B + 4]? = some o4 ∧ W0.heap[B + 5]? = some o5 ∧ Below B w W0 ∧ W0.heap.size = B + 6 := by
  have a0 := heap_alloc_new w o0
  have a1 := heap_alloc_new (w.alloc o0) o1
  have a2 := heap_alloc_new ((w.alloc o0).alloc o1) o2
  have a3 := heap_alloc_new (((w.alloc o0).alloc o1).alloc o2) o3
  have a4 := heap_alloc_new ((((w.alloc o0).alloc o1).alloc o2).alloc o3) o4
  have a5 := heap_alloc_new (((((w.alloc o0).alloc o1).alloc o2).alloc o3).alloc o4) o5
  simp only [World.size_alloc, hB, Nat.add_assoc, Nat.reduceAdd] at a0 a1 a2 a3 a4 a5
  refine ⟨_, rfl, ?_, ?_, ?_, ?_, ?_, a5, by subst hB; exact balloc (balloc (balloc (balloc (balloc (balloc (Below.refl _ _) _) _) _) _) _) _, by simp [hB]⟩
  all_goals (repeat rw [Below.heap_alloc _ _ _ (by simp; omega)])
  all_goals assumption
theorem keeps_below {A B : World} (h : Below A.heap.size A B) : KeepsOthers A B := ⟨h.size, fun k o hk _ => (h.block k (Array.getElem?_eq_some_iff.1 hk).1).trans hk⟩
theorem row_kept {X Y : World} {row : Option Nat} {B : Nat} {c : Array Value} {t : TypeId} (h : X.heap[B]? = some (.cells c t (0, 0))) (hg : X.grownBy Y row) (hr : ∀ r, row = some r → ∃ o : Obj, X.heap[r]? = some o ∧ o.isCells = false) : Y.heap[B]? = some (.cells c t (0, 0)) :=
  (hg.block B (Array.getElem?_eq_some_iff.1 h).1 (fun e => by obtain ⟨o, ho, hc⟩ := hr B e.symm; rw [h] at ho; cases ho; cases hc)).trans h
theorem AnAt.own {X Y : World} {v : Value} {l : List AT.An} {row : Option Nat} (h : AnAt X v l) (hg : X.grownBy Y row) (hr : ∀ r, row = some r → ∃ o : Obj, X.heap[r]? = some o ∧ o.isCells = false) : AnAt Y v l := by
  obtain ⟨a, cap, e, h⟩ := h
  refine ⟨a, cap, e, ?_⟩
  rcases h with h | ⟨g, o, e2, hg', hc⟩
  · exact .inl h
  · refine .inr ⟨g, o, e2, Nat.lt_of_lt_of_le hg' hg.size, fun i z hz => ?_⟩
    obtain ⟨c1, c2, c3⟩ := hc i z hz
    have key : Y.heap[g]? = X.heap[g]? := hg.block g hg' (fun er => by
      obtain ⟨ob, ho, hn⟩ := hr g er.symm
      simp only [World.cell?, ho] at c1
      cases ob <;> simp_all [Obj.isCells])
    exact ⟨(World.cell?_of_block (a := ⟨g, o + i * 3, none⟩) key).trans c1, (World.cell?_of_block (a := ⟨g, o + i * 3 + 1, none⟩) key).trans c2, (World.cell?_of_block (a := ⟨g, o + i * 3 + 2, none⟩) key).trans c3⟩
theorem results_two {fn : Func} {p q : Tmp} (h : fn.results = #[.cell p 37, .cell q 4]) (tmps : Array Value) (w : World) (g1 g2 : Nat) (x : Int × Int) (b : Bool) (hp : tmps.getD p undef = .pointer (some ⟨g1, 0, none⟩)) (hq : tmps.getD q undef = .pointer (some ⟨g2, 0, none⟩)) (h1 : PtB w g1 x) (h2 : w.heap[g2]? = some (.cells #[.bool b] 4 (0, 0))) :
    (results fn tmps).run Try.prog w = .ok (.tuple #[.agg #[.int .i64 x.1, .int .i64 x.2], .bool b]) w := by
  have hp' : tmps[p]?.getD undef = .pointer (some ⟨g1, 0, none⟩) := by simpa using hp
  have hq' : tmps[q]?.getD undef = .pointer (some ⟨g2, 0, none⟩) := by simpa using hq
  have e1 := run_loadVar_row (P := Try.prog) w g1 37 37 #[.int .i64 x.1, .int .i64 x.2] (0, 0) _ h1 Try.underlying37 rfl (by kernel_rfl)
  have e2 : (loadVar 4 ⟨g2, 0, none⟩).run Try.prog w = .ok (.bool b) w := by
    have hc : w.cell? ⟨g2, 0, none⟩ = some (.bool b) := by simp [World.cell?, h2]
    simp [loadVar, isAgg, run_underlying Try.underlying4, hc, go_sem]
  simp [results, h, hp', hq', asAddr, e1, e2]
theorem two_put {W : World} {B D : Nat} {q : Int × Int} {b : Bool} (h1 : PtB W (B + 1) q) (h2 : W.heap[B + 2]? = some (.cells #[.bool b] 4 (0, 0))) (hD : B + 6 ≤ D) (o : Obj) : PtB (W.putObj D o) (B + 1) q ∧ (W.putObj D o).heap[B + 2]? = some (.cells #[.bool b] 4 (0, 0)) :=
  ⟨((grownBy_putObj' W D o).block (B + 1) (Array.getElem?_eq_some_iff.1 h1).1 (fun e => by have := Option.some.inj e; omega)).trans h1, ((grownBy_putObj' W D o).block (B + 2) (Array.getElem?_eq_some_iff.1 h2).1 (fun e => by have := Option.some.inj e; omega)).trans h2⟩
theorem ownPostG_ret {α : Type} {B : Nat} {Kp : World → World → Prop} {I : List α → World → Prop} {Ix : Code → List α → World → Prop} {xs : List α} {W W' : World} {a : Act} (h : KeepsFrom B W W') (h2 : Ix .ret xs W') : ownPostG B Kp I Ix xs W .ret a W' := ⟨h, h2⟩
theorem car_fin {B N : Nat} {w U W6 : World} {q0 q1 : Int} {T : TypeId} (hp1 : PtB W6 (B + 1) (0, 0)) (hp2 : W6.heap[B + 2]? = some (.cells #[.bool false] T (0, 0))) (hk : KeepsOthers U W6) (hb : Below w.heap.size w W6) (hB : w.heap.size = B) :
    KeepsFrom N U ((((W6.setCell ⟨B + 1, 0, none⟩ (.int .i64 q0)).setCell ⟨B + 1, 1, none⟩ (.int .i64 q1)).setCell ⟨B + 1 + 1, 0, none⟩ (.bool true)).drew) ∧ PtB ((((W6.setCell ⟨B + 1, 0, none⟩ (.int .i64 q0)).setCell ⟨B + 1, 1, none⟩ (.int .i64 q1)).setCell ⟨B + 1 + 1, 0, none⟩ (.bool true)).drew) (B + 1) (q0, q1) ∧ ((((W6.setCell ⟨B + 1, 0, none⟩ (.int .i64 q0)).setCell ⟨B + 1, 1, none⟩ (.int .i64 q1)).setCell ⟨B + 1 + 1, 0, none⟩ (.bool true)).drew).heap[B + 2]? = some (.cells #[.bool true] T (0, 0)) ∧ Below B w ((((W6.setCell ⟨B + 1, 0, none⟩ (.int .i64 q0)).setCell ⟨B + 1, 1, none⟩ (.int .i64 q1)).setCell ⟨B + 1 + 1, 0, none⟩ (.bool true)).drew) := by
  have hq1 := hp1.put (q0, q1)
  refine ⟨(hk.trans ((KeepsOthers.setCell _ _ _).trans ((KeepsOthers.setCell _ _ _).trans ((KeepsOthers.setCell _ _ _).trans (KeepsOthers.drew _))))).from _, ?_, ?_, ?_⟩
  · exact (Below.heap_setCell _ _ _ _ (by simp)).trans hq1
  · refine (heap_setCell_same _ (B + 2) 0 #[.bool false] T (.bool true) ?_).trans (by simp)
    exact (Below.heap_setCell _ _ _ _ (by simp)).trans ((Below.heap_setCell _ _ _ _ (by simp)).trans hp2)
  · subst hB
    exact Below.drew (bset (bset (bset hb (by simp <;> omega) _) (by simp <;> omega) _) (by simp <;> omega) _)
set_option maxHeartbeats 8000000 in
theorem carried_in (n : Nat) (hn : 4 ≤ n) (l : List AT.Dr) (v u : Value) (k : Nat) (d : AT.Dr) (P : List (Int × Int)) (w : World) (hl : l.length ≤ 1000000000000) (hk : ∀ d ∈ l, d.anchors.length ≤ 1000000000000) (hd : l[k]? = some d) (hv : DsAt w v l) (hP : P.length = k) (hu : PtAt w u P) (hbd : ∀ p ∈ P, AT.In 419430400 p.1 ∧ AT.In 419430400 p.2) (hrt : ∀ d ∈ l, AT.right d = true) :
    CallsIn Fence.wide n Try.prog 19 #[v, .int .i64 (k : Int), u] w fun e w' => e = .returned (.tuple #[.agg #[.int .i64 (AT.carA P l d k).1.1, .int .i64 (AT.carA P l d k).1.2], .bool (AT.carA P l d k).2]) ∧ Below w.heap.size w w' := by
  have h1 : 1 ≤ n := by omega
  have HDS : Hid (∀ V, Below w.heap.size w V → DsAt V v l) := Lib.hid fun V hV => hv.keep hV
  have HPS : Hid (∀ V, Below w.heap.size w V → PtAt V u P) := Lib.hid fun V hV => hu.keep hV
  obtain ⟨a, cap, rfl, hc⟩ := hv
  obtain ⟨ua, uc, rfl, huc⟩ := hu
  have hkl : k < l.length := (List.getElem?_eq_some_iff.1 hd).1
  obtain ⟨m, hm⟩ : ∃ m, l.length = m := ⟨_, rfl⟩
  have HM := Lib.hid hm
  rw [hm] at hl hkl HDS ⊢
  rw [hP] at HPS ⊢
  rcases hc with h | ⟨g, o, rfl, hg, hcl⟩
  · rw [h] at hd
    simp at hd
  obtain ⟨ca, cn, cc, va, ha, x0, x1, x2, x3, x4, x5⟩ := hcl k d hd
  have hki : (k : Int) < (m : Int) := by omega
  have hk0 : (0 : Int) ≤ (k : Int) := by omega
  have hb3 : Below w.heap.size w (((w.alloc (.cells #[.slice ua k uc] 27)).alloc (.cells #[.int .i64 0, .int .i64 0] 37)).alloc (.cells #[.bool false] 4)) := balloc (balloc (balloc (Below.refl _ _) _) _) _
  have y2 := (hb3.cell (p := ⟨g, o + k * 6 + 2, none⟩) hg).trans x2
  have y3 := (hb3.cell (p := ⟨g, o + k * 6 + 3, none⟩) hg).trans x3
  have y4 := (hb3.cell (p := ⟨g, o + k * 6 + 4, none⟩) hg).trans x4
  clear hcl ha x0 x1 x2 x3 x4 x5 huc hm
  refine callsIn_of_wp_marks Try.func19 rfl trivial ?_ rfl
  simp only [Try.ntmps19, List.size_toArray, List.length_cons, List.length_nil, Nat.reduceAdd, Nat.reduceSub, Array.replicate_succ, Array.replicate_zero, List.push_toArray, List.append_toArray, List.nil_append, List.cons_append]
  gi_wp2_with (refine ⟨trivial, ?_⟩; gi_at_call 23; refine (callsIn_wide.2 (before_any _ _ _ _ _ _ rfl)).mono ?_; rintro e w' ⟨rfl, rfl⟩)
  obtain ⟨B, hB⟩ : ∃ B, w.heap.size = B := ⟨_, rfl⟩
  obtain ⟨W0, hW0, b0, b1, b2, b3, b4, b5, hbw, hs0⟩ := six w (.cells #[.slice ua k uc] 27) (.cells #[.int .i64 0, .int .i64 0] 37) (.cells #[.bool false] 4) (.cells #[.int .i64 d.hang.1, .int .i64 d.hang.2.1, .int .i64 d.hang.2.2] 33) (.cells #[.slice (some ⟨g, o, none⟩) m cap] 24) (.cells #[.int .i64 (k : Int)] 3) B hB
  rw [hW0]
  have HB := Lib.hid hB
  rw [hB]
  have hbw' : Below w.heap.size w W0 := by rw [hB]; exact hbw
  have hds0 := HDS.out W0 hbw'
  have hps0 := HPS.out W0 hbw'
  have hc5 : W0.cell? ⟨B + 5, 0, none⟩ = some (.int .i64 (k : Int)) := by simp [World.cell?, b5]
  have hc4 : W0.cell? ⟨B + 4, 0, none⟩ = some (.slice (some ⟨g, o, none⟩) m cap) := by simp [World.cell?, b4]
  obtain ⟨c, hcc⟩ : ∃ c, d.hang.1 = c := ⟨_, rfl⟩
  have HCC := Lib.hid hcc
  refine range_given rfl h1 (gf := 28) (lb := #[.pointer (some ⟨B + 1 + 1 + 1 + 1 + 1, 0, none⟩), .pointer (some ⟨B + 1 + 1 + 1 + 1, 0, none⟩)]) rfl trivial (enters_of Try.func28 (by kernel_rfl) rfl)
    (before_given (n - 1) (by omega) (B + 5) (B + 4) l (.slice (some ⟨g, o, none⟩) m cap) k (by rw [HM.out]; omega) (by rw [HM.out]; omega) W0 hds0 hc5 hc4)
    KpN.trans (fun W l o o' hl h _ _ => kpn_put hl h) (Below.refl _ _) (fun _ => rfl)
    (fun pre U => AT.carrier l c k = AT.carrier l c (k - pre.length) ∧ Below W0.heap.size W0 U)
    (fun e pre U => e = .ret ∧ ∃ q : Int × Int, AT.carA P l d k = (q, true) ∧ PtB U (B + 1) q ∧ U.heap[B + 2]? = some (.cells #[.bool true] 4 (0, 0)) ∧ Below w.heap.size w U)
    (OwnFrom.and (ownFrom_pure _ _) (ownFrom_below (Nat.le_refl _) (Nat.le_refl _)))
    (fun e pre X Y row hs hg hr => by obtain ⟨h1, q, h2, h3, h4, h5⟩ := hs; exact ⟨h1, q, h2, row_kept h3 hg (fun r e => (hr r e).2), row_kept h4 hg (fun r e => (hr r e).2), h5.grown hg h5.size (fun r e => by have := (hr r e).1; omega)⟩)
    (fun pre X Y b hs hg hb _ _ => ⟨hs.1, hs.2.grown hg hs.2.size (fun k e => by cases e; exact hb)⟩)
    (fun e pre X Y b hs hg hb _ _ => by obtain ⟨h1, q, h2, h3, h4, h5⟩ := hs; exact ⟨h1, q, h2, (hg.block (B + 1) h3.lt (fun e => by have := Option.some.inj e; omega)).trans h3, (hg.block (B + 2) (Array.getElem?_eq_some_iff.1 h4).1 (fun e => by have := Option.some.inj e; omega)).trans h4, h5.grown hg h5.size (fun r e => by have := Option.some.inj e; omega)⟩)
    ⟨by simp, Below.refl _ _⟩
    (fun pre x a' U => ∃ (Bx : Nat) (e : AT.Dr) (ca' : Option Addr) (cn' cc' : Nat) (aa' : Option Addr) (ac' : Nat), W0.heap.size ≤ Bx ∧ pre.length + x.1 + 1 = k ∧ l[x.1]? = some e ∧ DrB U Bx (.slice ca' cn' cc') (.slice aa' e.anchors.length ac') e ∧ AnAt U (.slice aa' e.anchors.length ac') e.anchors ∧ a' = { tmps := #[.slice (some ⟨g, o, none⟩) m cap, .int .i64 (k : Int), .slice ua k uc, undef, undef, .pointer (some ⟨B, 0, none⟩), .pointer (some ⟨B + 1, 0, none⟩), .pointer (some ⟨B + 1 + 1, 0, none⟩), .pointer (some ⟨B + 1 + 1 + 1, 0, none⟩), .int .i64 (x.1 : Int), .pointer (some ⟨Bx, 0, none⟩), undef, undef, .slice (some ⟨g, o, none⟩) m cap, .int .i64 (k : Int), .pointer (some ⟨g, o + k * 6, none⟩), .pointer (some ⟨g, o + k * 6 + 2, none⟩), .agg #[.int .i64 c, .int .i64 d.hang.2.1, .int .i64 d.hang.2.2], .slice (some ⟨g, o, none⟩) m cap, .int .i64 (k : Int), .func (.func 28) #[] #[.pointer (some ⟨B + 1 + 1 + 1 + 1 + 1, 0, none⟩), .pointer (some ⟨B + 1 + 1 + 1 + 1, 0, none⟩)], .int .i64 (x.1 : Int), .agg #[.slice ca' cn' cc', .slice aa' e.anchors.length ac', .int .i64 e.hang.1, .int .i64 e.hang.2.1, .int .i64 e.hang.2.2, .int .i64 e.adv], undef, undef, undef, undef, undef, undef, undef, undef, undef, undef, undef, undef, undef, undef, undef, undef, undef, undef, undef, undef, undef, undef, undef, undef, undef, undef, undef, undef, undef, undef, undef, undef], defers := [] })
    (fun pre x a' _ X Y row hs hg hr => by obtain ⟨Bx, e, q1, q2, q3, q4, q5, h1, h2, h3, h4, h5, h6⟩ := hs; exact ⟨Bx, e, q1, q2, q3, q4, q5, h1, h2, h3, row_kept h4 hg (fun r e => (hr r e).2), h5.own hg (fun r e => (hr r e).2), h6⟩)
    ?assign ?body ?done ?stop
  case assign =>
    rintro L pre ⟨xn, xv⟩ U K hI ⟨hx1, e, ca', cn', cc', aa', ac', he, hxv, han⟩ hK
    simp only at hx1 he hxv
    subst hxv
    obtain ⟨hcar, hbU⟩ := hI
    simp only [bfEnc]
    have HK := Lib.hid hK
    clear hK
    gi_wp2
    exact HK.out _ _ ((KeepsOthers.alloc _ _).from _) (KpN.of ((Below.refl _ U).alloc (Nat.le_refl _) _) hbU.size) ⟨hcar, hbU.alloc hbU.size _⟩ ⟨U.heap.size, e, ca', cn', cc', aa', ac', hbU.size, hx1, he, heap_alloc_new U _, han.keep ((Below.refl _ U).alloc (Nat.le_refl _) _), rfl⟩
  case body =>
    rintro L pre ⟨xn, xv⟩ a' U hL ⟨r, hr⟩ ⟨hcar, hbU⟩ ⟨Bx, e, ca', cn', cc', aa', ac', hBx, hx1, he, hdb, han, rfl⟩
    simp only at hx1 he
    obtain ⟨d0, d1, d2, d3, d4, d5⟩ := hdb.cells
    have hb3U := (hbU.block (B + 3) (by omega)).trans b3
    have e0 : U.cell? ⟨B + 1 + 1 + 1, 0, none⟩ = some (.int .i64 c) := by
      show U.cell? ⟨B + 3, 0, none⟩ = _
      rw [← hcc]
      simp [World.cell?, hb3U]
    obtain ⟨res, hres⟩ : ∃ res, AT.ownV e.anchors c = res := ⟨_, rfl⟩
    obtain ⟨⟨z1, z2, z3⟩, ok⟩ := res
    have CO : Hid (Calls Try.prog 24 #[.agg #[.slice ca' cn' cc', .slice aa' e.anchors.length ac', .int .i64 e.hang.1, .int .i64 e.hang.2.1, .int .i64 e.hang.2.2, .int .i64 e.adv], .int .i64 c] U fun e w' => e = .returned (.tuple #[.agg #[.int .i64 z1, .int .i64 z2, .int .i64 z3], .bool ok]) ∧ Below U.heap.size U w') := Lib.hid (by
      have := own_any e.anchors (.slice ca' cn' cc') (.slice aa' e.anchors.length ac') e.hang.1 e.hang.2.1 e.hang.2.2 e.adv c U (hk e (List.mem_of_getElem? he)) han
      rw [hres] at this
      exact this)
    clear hr han
    gi_wp2_with fail
    refine ⟨trivial, fun _ => by omega, ?_⟩
    refine (CallsIn.inRound L (callsIn_wide.2 CO.out)).mono ?_
    rintro e' w5 ⟨rfl, hb5⟩
    have hkl' : k - (pre ++ [(xn, xv)]).length = xn := by
      rw [List.length_append, List.length_singleton]
      omega
    have hkp : k - pre.length = xn + 1 := by omega
    rw [hkp] at hcar
    have hb5' := bnext hbU hb5
    cases ok with
    | false =>
      have hno : AT.carrier l c k = AT.carrier l c xn := by rw [hcar]; exact AT.carrier_no he hres
      have HNO := Lib.hid hno
      have HB5 := Lib.hid hb5
      have HB6 := Lib.hid hb5'
      have HKL := Lib.hid hkl'
      clear hno hcar hres
      gi_wp2
      exact ⟨((keeps_below HB5.out).trans (KeepsOthers.alloc _ _)).from _, KpN.of (balloc HB5.out _) hbU.size, ⟨by rw [HKL.out]; exact HNO.out, balloc HB6.out _⟩⟩
    | true =>
      have hyes : AT.carrier l c k = some (xn, (z1, z2, z3)) := by rw [hcar]; exact AT.carrier_yes he hres
      have HYES := Lib.hid hyes
      have HB5 := Lib.hid hb5
      have HB6 := Lib.hid hb5'
      clear hyes hcar hres hkl'
      gi_wp2
      obtain ⟨aw, cw, e1, hcw⟩ := HPS.out w (Below.refl _ _)
      rw [hP] at e1
      injection e1 with e1 e2 e3
      subst e1 e3
      have hxk : xn < k := by omega
      obtain ⟨y, hy⟩ : ∃ y, P[xn]? = some y := ⟨P[xn]'(by rw [hP]; exact hxk), List.getElem?_eq_getElem _⟩
      rcases hcw with h | ⟨g3, o3, rfl, hg3, hc3⟩
      · rw [h] at hy
        simp at hy
      obtain ⟨v1, v2⟩ := hc3 xn y hy
      obtain ⟨q1, q2⟩ := hbd y (List.mem_of_getElem? hy)
      obtain ⟨-, r2, r3, -⟩ := AT.right_parts (hrt d (List.mem_of_getElem? hd))
      obtain ⟨-, -, -, r5⟩ := AT.right_parts (hrt e (List.mem_of_getElem? he))
      have hmem : (z1, z2, z3) ∈ e.anchors := by
        have := AT.carrier_lt HYES.out
        obtain ⟨-, f, hf, hfm⟩ := this
        rw [he] at hf
        obtain rfl := Option.some.inj hf
        exact hfm
      obtain ⟨r6, r7⟩ := r5 _ hmem
      simp only at r6 r7
      unfold AT.In at q1 q2
      have hb6 : Below W0.heap.size W0 (w5.alloc (.cells #[.int .i64 z1, .int .i64 z2, .int .i64 z3] 33)) := balloc HB6.out _
      have hn6 : AnB (w5.alloc (.cells #[.int .i64 z1, .int .i64 z2, .int .i64 z3] 33)) w5.heap.size (z1, z2, z3) := heap_alloc_new w5 _
      have hGs : W0.heap.size ≤ w5.heap.size := HB6.out.size
      have HK6 : Hid (KeepsOthers U (w5.alloc (.cells #[.int .i64 z1, .int .i64 z2, .int .i64 z3] 33))) := Lib.hid ((keeps_below HB5.out).trans (KeepsOthers.alloc _ _))
      obtain ⟨W6, hW6⟩ : ∃ W6, w5.alloc (.cells #[.int .i64 z1, .int .i64 z2, .int .i64 z3] 33) = W6 := ⟨_, rfl⟩
      obtain ⟨G, hG⟩ : ∃ G, w5.heap.size = G := ⟨_, rfl⟩
      rw [hW6] at hb6 hn6 HK6 ⊢
      rw [hG] at hn6 hGs ⊢
      clear hW6 hG
      obtain ⟨v9, v3, v4⟩ := hn6.cells
      have hbw6 := bnext hbw' hb6
      replace v1 := (hbw6.cell (p := ⟨g3, o3 + xn * 2, none⟩) hg3).trans v1
      replace v2 := (hbw6.cell (p := ⟨g3, o3 + xn * 2 + 1, none⟩) hg3).trans v2
      have v0 : W6.cell? ⟨B, 0, none⟩ = some (.slice (some ⟨g3, o3, none⟩) k uc) := by
        have := (hb6.block B (by omega)).trans b0
        simp [World.cell?, this]
      have h36 := (hb6.block (B + 3) (by omega)).trans b3
      have v5 : W6.cell? ⟨B + 1 + 1 + 1, 1, none⟩ = some (.int .i64 d.hang.2.1) := by
        show W6.cell? ⟨B + 3, 1, none⟩ = _
        simp [World.cell?, h36]
      have v6 : W6.cell? ⟨B + 1 + 1 + 1, 2, none⟩ = some (.int .i64 d.hang.2.2) := by
        show W6.cell? ⟨B + 3, 2, none⟩ = _
        simp [World.cell?, h36]
      have hp1 : PtB W6 (B + 1) (0, 0) := (hb6.block (B + 1) (by omega)).trans b1
      have hp2 := (hb6.block (B + 2) (by omega)).trans b2
      have s0 := hp1.cells.1
      have s1 := hp1.cells.2
      have f0 := hp1.frozen 0
      have f1 := hp1.frozen 1
      have s2 : W6.cell? ⟨B + 1 + 1, 0, none⟩ = some (.bool false) := by
        show W6.cell? ⟨B + 2, 0, none⟩ = _
        simp [World.cell?, hp2]
      have f2 : W6.frozen? ⟨B + 1 + 1, 0, none⟩ = false := by
        show W6.frozen? ⟨B + 2, 0, none⟩ = _
        simp [World.frozen?, hp2]
      have hgB : g3 < B := by have := HB.out; omega
      have n1 : B + 1 ≠ B := by omega
      have n2 : B + 1 ≠ g3 := by omega
      have n3 : B + 1 ≠ G := by omega
      have n4 : B + 1 ≠ B + 1 + 1 + 1 := by omega
      have n5 : B + 1 ≠ B + 1 + 1 := by omega
      have hxi : (xn : Int) < (k : Int) := by omega
      have hx0 : (0 : Int) ≤ (xn : Int) := by omega
      have hw1 : IntKind.i64.wrap (y.1 + z2) = y.1 + z2 := by rw [IntKind.wrap_i64]; omega
      have hw2 : IntKind.i64.wrap (y.1 + z2 - d.hang.2.1) = y.1 + z2 - d.hang.2.1 := by rw [IntKind.wrap_i64]; omega
      have hw3 : IntKind.i64.wrap (y.2 + z3) = y.2 + z3 := by rw [IntKind.wrap_i64]; omega
      have hw4 : IntKind.i64.wrap (y.2 + z3 - d.hang.2.2) = y.2 + z3 - d.hang.2.2 := by rw [IntKind.wrap_i64]; omega
      refine wpIn_region_last #[{ dst := some 31, op := Op.load 27 (Operand.tmp 5), type := 27, pos := "attach.go:51", after := #[], guard := none }, { dst := some 32, op := Op.move (Operand.tmp 9), type := 3, pos := "attach.go:51", after := #[], guard := none }, { dst := some 33, op := Op.indexAddr 27 (Operand.tmp 31) (Operand.tmp 32), type := 0, pos := "attach.go:51", after := #[{ on := 0, ground := Ground.data }, { on := 1, ground := Ground.data }], guard := none }, { dst := some 34, op := Op.indexAddr 37 (Operand.tmp 33) (Operand.const (Value.int IntKind.i64 0)), type := 0, pos := "attach.go:51", after := #[{ on := 2, ground := Ground.data }], guard := none }, { dst := some 35, op := Op.load 3 (Operand.tmp 34), type := 3, pos := "attach.go:51", after := #[{ on := 3, ground := Ground.data }], guard := none }, { dst := some 36, op := Op.fieldAddr 33 (Operand.tmp 11) 1, type := 0, pos := "attach.go:51", after := #[], guard := none }, { dst := some 37, op := Op.load 3 (Operand.tmp 36), type := 3, pos := "attach.go:51", after := #[{ on := 5, ground := Ground.data }], guard := none }, { dst := some 38, op := Op.binOp BinOp.add 3 (Operand.tmp 35) (Operand.tmp 37) 3, type := 3, pos := "attach.go:51", after := #[{ on := 4, ground := Ground.data }, { on := 6, ground := Ground.data }], guard := none }, { dst := some 39, op := Op.fieldAddr 33 (Operand.tmp 8) 1, type := 0, pos := "attach.go:51", after := #[], guard := none }, { dst := some 40, op := Op.load 3 (Operand.tmp 39), type := 3, pos := "attach.go:51", after := #[{ on := 8, ground := Ground.data }], guard := none }, { dst := some 41, op := Op.binOp BinOp.sub 3 (Operand.tmp 38) (Operand.tmp 40) 3, type := 3, pos := "attach.go:51", after := #[{ on := 7, ground := Ground.data }, { on := 9, ground := Ground.data }], guard := none }, { dst := some 42, op := Op.load 27 (Operand.tmp 5), type := 27, pos := "attach.go:51", after := #[], guard := none }, { dst := some 43, op := Op.move (Operand.tmp 9), type := 3, pos := "attach.go:51", after := #[], guard := none }, { dst := some 44, op := Op.indexAddr 27 (Operand.tmp 42) (Operand.tmp 43), type := 0, pos := "attach.go:51", after := #[{ on := 11, ground := Ground.data }, { on := 12, ground := Ground.data }], guard := none }, { dst := some 45, op := Op.indexAddr 37 (Operand.tmp 44) (Operand.const (Value.int IntKind.i64 1)), type := 0, pos := "attach.go:51", after := #[{ on := 13, ground := Ground.data }], guard := none }, { dst := some 46, op := Op.load 3 (Operand.tmp 45), type := 3, pos := "attach.go:51", after := #[{ on := 14, ground := Ground.data }], guard := none }, { dst := some 47, op := Op.fieldAddr 33 (Operand.tmp 11) 2, type := 0, pos := "attach.go:51", after := #[], guard := none }, { dst := some 48, op := Op.load 3 (Operand.tmp 47), type := 3, pos := "attach.go:51", after := #[{ on := 16, ground := Ground.data }], guard := none }, { dst := some 49, op := Op.binOp BinOp.add 3 (Operand.tmp 46) (Operand.tmp 48) 3, type := 3, pos := "attach.go:51", after := #[{ on := 15, ground := Ground.data }, { on := 17, ground := Ground.data }], guard := none }, { dst := some 50, op := Op.fieldAddr 33 (Operand.tmp 8) 2, type := 0, pos := "attach.go:51", after := #[], guard := none }, { dst := some 51, op := Op.load 3 (Operand.tmp 50), type := 3, pos := "attach.go:51", after := #[{ on := 19, ground := Ground.data }], guard := none }, { dst := some 52, op := Op.binOp BinOp.sub 3 (Operand.tmp 49) (Operand.tmp 51) 3, type := 3, pos := "attach.go:51", after := #[{ on := 18, ground := Ground.data }, { on := 20, ground := Ground.data }], guard := none }, { dst := some 53, op := Op.build 37 #[(0, Operand.tmp 41), (1, Operand.tmp 52)], type := 37, pos := "attach.go:51", after := #[{ on := 10, ground := Ground.data }, { on := 21, ground := Ground.data }], guard := none }, { dst := none, op := Op.store 37 (Operand.tmp 6) (Operand.tmp 53), type := 0, pos := "attach.go:51", after := #[{ on := 22, ground := Ground.data }, { on := 0, ground := Ground.phase }, { on := 1, ground := Ground.phase }, { on := 2, ground := Ground.phase }, { on := 3, ground := Ground.phase }, { on := 4, ground := Ground.phase }, { on := 5, ground := Ground.phase }, { on := 6, ground := Ground.phase }, { on := 7, ground := Ground.phase }, { on := 8, ground := Ground.phase }, { on := 9, ground := Ground.phase }, { on := 10, ground := Ground.phase }, { on := 11, ground := Ground.phase }, { on := 12, ground := Ground.phase }, { on := 13, ground := Ground.phase }, { on := 14, ground := Ground.phase }, { on := 15, ground := Ground.phase }, { on := 16, ground := Ground.phase }, { on := 17, ground := Ground.phase }, { on := 18, ground := Ground.phase }, { on := 19, ground := Ground.phase }, { on := 20, ground := Ground.phase }, { on := 21, ground := Ground.phase }, { on := 22, ground := Ground.phase }], guard := none }] { dst := none, op := Op.store 4 (Operand.tmp 7) (Operand.const (Value.bool true)), type := 0, pos := "attach.go:51", after := #[{ on := 23, ground := Ground.chain }, { on := 0, ground := Ground.phase }, { on := 1, ground := Ground.phase }, { on := 2, ground := Ground.phase }, { on := 3, ground := Ground.phase }, { on := 4, ground := Ground.phase }, { on := 5, ground := Ground.phase }, { on := 6, ground := Ground.phase }, { on := 7, ground := Ground.phase }, { on := 8, ground := Ground.phase }, { on := 9, ground := Ground.phase }, { on := 10, ground := Ground.phase }, { on := 11, ground := Ground.phase }, { on := 12, ground := Ground.phase }, { on := 13, ground := Ground.phase }, { on := 14, ground := Ground.phase }, { on := 15, ground := Ground.phase }, { on := 16, ground := Ground.phase }, { on := 17, ground := Ground.phase }, { on := 18, ground := Ground.phase }, { on := 19, ground := Ground.phase }, { on := 20, ground := Ground.phase }, { on := 21, ground := Ground.phase }, { on := 22, ground := Ground.phase }, { on := 23, ground := Ground.phase }], guard := none } rfl (by kernel_rfl) (by kernel_rfl) (by kernel_rfl) (fun w' => w'.cell? ⟨B, 0, none⟩ = some (.slice (some ⟨g3, o3, none⟩) k uc) ∧ w'.cell? ⟨g3, o3 + xn * 2, none⟩ = some (.int .i64 y.1) ∧ w'.cell? ⟨g3, o3 + xn * 2 + 1, none⟩ = some (.int .i64 y.2) ∧ w'.cell? ⟨G, 1, none⟩ = some (.int .i64 z2) ∧ w'.cell? ⟨G, 2, none⟩ = some (.int .i64 z3) ∧ w'.cell? ⟨B + 1 + 1 + 1, 1, none⟩ = some (.int .i64 d.hang.2.1) ∧ w'.cell? ⟨B + 1 + 1 + 1, 2, none⟩ = some (.int .i64 d.hang.2.2)) ?_ (fun hHeld => ?_)
      · first | exact ⟨v0, v1, v2, v3, v4, v5, v6⟩ | go_keep
      refine wpAnyH_take (i := 0) (oi := { dst := some 31, op := Op.load 27 (Operand.tmp 5), type := 27, pos := "attach.go:51", after := #[], guard := none }) (v := ?_) rfl (by kernel_rfl) (by kernel_rfl) (by kernel_rfl) (fun _ _ _ h => h) (Or.inl ⟨by rfl, ?_⟩) (by assumption) ?_
      rotate_left
      · ((intro w hSw; (try dsimp only at hSw); go_simp; (try rw [if_neg (by omega)])); try with_reducible rfl)
      (try simp only [Act.put, List.setIfInBounds_toArray, List.set_cons_zero, List.set_cons_succ])
      refine wpAnyH_take (i := 1) (oi := { dst := some 32, op := Op.move (Operand.tmp 9), type := 3, pos := "attach.go:51", after := #[], guard := none }) (v := ?_) rfl (by kernel_rfl) (by kernel_rfl) (by kernel_rfl) (fun _ _ _ h => h) (Or.inl ⟨by rfl, ?_⟩) (by assumption) ?_
      rotate_left
      · ((intro w hSw; (try dsimp only at hSw); go_simp; (try rw [if_neg (by omega)])); try with_reducible rfl)
      (try simp only [Act.put, List.setIfInBounds_toArray, List.set_cons_zero, List.set_cons_succ])
      refine wpAnyH_take (i := 2) (oi := { dst := some 33, op := Op.indexAddr 27 (Operand.tmp 31) (Operand.tmp 32), type := 0, pos := "attach.go:51", after := #[{ on := 0, ground := Ground.data }, { on := 1, ground := Ground.data }], guard := none }) (v := ?_) rfl (by kernel_rfl) (by kernel_rfl) (by kernel_rfl) (fun _ _ _ h => h) (Or.inl ⟨by rfl, ?_⟩) (by assumption) ?_
      rotate_left
      · ((intro w hSw; (try dsimp only at hSw); go_simp; (try rw [if_neg (by omega)])); try with_reducible rfl)
      (try simp only [Act.put, List.setIfInBounds_toArray, List.set_cons_zero, List.set_cons_succ])
      refine wpAnyH_take (i := 3) (oi := { dst := some 34, op := Op.indexAddr 37 (Operand.tmp 33) (Operand.const (Value.int IntKind.i64 0)), type := 0, pos := "attach.go:51", after := #[{ on := 2, ground := Ground.data }], guard := none }) (v := ?_) rfl (by kernel_rfl) (by kernel_rfl) (by kernel_rfl) (fun _ _ _ h => h) (Or.inl ⟨by rfl, ?_⟩) (by assumption) ?_
      rotate_left
      · ((intro w hSw; (try dsimp only at hSw); go_simp; (try rw [if_neg (by omega)])); try with_reducible rfl)
      (try simp only [Act.put, List.setIfInBounds_toArray, List.set_cons_zero, List.set_cons_succ])
      refine wpAnyH_take (i := 4) (oi := { dst := some 35, op := Op.load 3 (Operand.tmp 34), type := 3, pos := "attach.go:51", after := #[{ on := 3, ground := Ground.data }], guard := none }) (v := ?_) rfl (by kernel_rfl) (by kernel_rfl) (by kernel_rfl) (fun _ _ _ h => h) (Or.inl ⟨by rfl, ?_⟩) (by assumption) ?_
      rotate_left
      · ((intro w hSw; (try dsimp only at hSw); go_simp; (try rw [if_neg (by omega)])); try with_reducible rfl)
      (try simp only [Act.put, List.setIfInBounds_toArray, List.set_cons_zero, List.set_cons_succ])
      refine wpAnyH_take (i := 5) (oi := { dst := some 36, op := Op.fieldAddr 33 (Operand.tmp 11) 1, type := 0, pos := "attach.go:51", after := #[], guard := none }) (v := ?_) rfl (by kernel_rfl) (by kernel_rfl) (by kernel_rfl) (fun _ _ _ h => h) (Or.inl ⟨by rfl, ?_⟩) (by assumption) ?_
      rotate_left
      · ((intro w hSw; (try dsimp only at hSw); go_simp; (try rw [if_neg (by omega)])); try with_reducible rfl)
      (try simp only [Act.put, List.setIfInBounds_toArray, List.set_cons_zero, List.set_cons_succ])
      refine wpAnyH_take (i := 6) (oi := { dst := some 37, op := Op.load 3 (Operand.tmp 36), type := 3, pos := "attach.go:51", after := #[{ on := 5, ground := Ground.data }], guard := none }) (v := ?_) rfl (by kernel_rfl) (by kernel_rfl) (by kernel_rfl) (fun _ _ _ h => h) (Or.inl ⟨by rfl, ?_⟩) (by assumption) ?_
      rotate_left
      · ((intro w hSw; (try dsimp only at hSw); go_simp; (try rw [if_neg (by omega)])); try with_reducible rfl)
      (try simp only [Act.put, List.setIfInBounds_toArray, List.set_cons_zero, List.set_cons_succ])
      refine wpAnyH_take (i := 7) (oi := { dst := some 38, op := Op.binOp BinOp.add 3 (Operand.tmp 35) (Operand.tmp 37) 3, type := 3, pos := "attach.go:51", after := #[{ on := 4, ground := Ground.data }, { on := 6, ground := Ground.data }], guard := none }) (v := ?_) rfl (by kernel_rfl) (by kernel_rfl) (by kernel_rfl) (fun _ _ _ h => h) (Or.inl ⟨by rfl, ?_⟩) (by assumption) ?_
      rotate_left
      · ((intro w hSw; (try dsimp only at hSw); go_simp; (try rw [if_neg (by omega)])); try with_reducible rfl)
      (try simp only [Act.put, List.setIfInBounds_toArray, List.set_cons_zero, List.set_cons_succ])
      refine wpAnyH_take (i := 8) (oi := { dst := some 39, op := Op.fieldAddr 33 (Operand.tmp 8) 1, type := 0, pos := "attach.go:51", after := #[], guard := none }) (v := ?_) rfl (by kernel_rfl) (by kernel_rfl) (by kernel_rfl) (fun _ _ _ h => h) (Or.inl ⟨by rfl, ?_⟩) (by assumption) ?_
      rotate_left
      · ((intro w hSw; (try dsimp only at hSw); go_simp; (try rw [if_neg (by omega)])); try with_reducible rfl)
      (try simp only [Act.put, List.setIfInBounds_toArray, List.set_cons_zero, List.set_cons_succ])
      refine wpAnyH_take (i := 9) (oi := { dst := some 40, op := Op.load 3 (Operand.tmp 39), type := 3, pos := "attach.go:51", after := #[{ on := 8, ground := Ground.data }], guard := none }) (v := ?_) rfl (by kernel_rfl) (by kernel_rfl) (by kernel_rfl) (fun _ _ _ h => h) (Or.inl ⟨by rfl, ?_⟩) (by assumption) ?_
      rotate_left
      · ((intro w hSw; (try dsimp only at hSw); go_simp; (try rw [if_neg (by omega)])); try with_reducible rfl)
      (try simp only [Act.put, List.setIfInBounds_toArray, List.set_cons_zero, List.set_cons_succ])
      refine wpAnyH_take (i := 10) (oi := { dst := some 41, op := Op.binOp BinOp.sub 3 (Operand.tmp 38) (Operand.tmp 40) 3, type := 3, pos := "attach.go:51", after := #[{ on := 7, ground := Ground.data }, { on := 9, ground := Ground.data }], guard := none }) (v := ?_) rfl (by kernel_rfl) (by kernel_rfl) (by kernel_rfl) (fun _ _ _ h => h) (Or.inl ⟨by rfl, ?_⟩) (by assumption) ?_
      rotate_left
      · ((intro w hSw; (try dsimp only at hSw); go_simp; (try rw [if_neg (by omega)])); try with_reducible rfl)
      (try simp only [Act.put, List.setIfInBounds_toArray, List.set_cons_zero, List.set_cons_succ])
      refine wpAnyH_take (i := 11) (oi := { dst := some 42, op := Op.load 27 (Operand.tmp 5), type := 27, pos := "attach.go:51", after := #[], guard := none }) (v := ?_) rfl (by kernel_rfl) (by kernel_rfl) (by kernel_rfl) (fun _ _ _ h => h) (Or.inl ⟨by rfl, ?_⟩) (by assumption) ?_
      rotate_left
      · ((intro w hSw; (try dsimp only at hSw); go_simp; (try rw [if_neg (by omega)])); try with_reducible rfl)
      (try simp only [Act.put, List.setIfInBounds_toArray, List.set_cons_zero, List.set_cons_succ])
      refine wpAnyH_take (i := 12) (oi := { dst := some 43, op := Op.move (Operand.tmp 9), type := 3, pos := "attach.go:51", after := #[], guard := none }) (v := ?_) rfl (by kernel_rfl) (by kernel_rfl) (by kernel_rfl) (fun _ _ _ h => h) (Or.inl ⟨by rfl, ?_⟩) (by assumption) ?_
      rotate_left
      · ((intro w hSw; (try dsimp only at hSw); go_simp; (try rw [if_neg (by omega)])); try with_reducible rfl)
      (try simp only [Act.put, List.setIfInBounds_toArray, List.set_cons_zero, List.set_cons_succ])
      refine wpAnyH_take (i := 13) (oi := { dst := some 44, op := Op.indexAddr 27 (Operand.tmp 42) (Operand.tmp 43), type := 0, pos := "attach.go:51", after := #[{ on := 11, ground := Ground.data }, { on := 12, ground := Ground.data }], guard := none }) (v := ?_) rfl (by kernel_rfl) (by kernel_rfl) (by kernel_rfl) (fun _ _ _ h => h) (Or.inl ⟨by rfl, ?_⟩) (by assumption) ?_
      rotate_left
      · ((intro w hSw; (try dsimp only at hSw); go_simp; (try rw [if_neg (by omega)])); try with_reducible rfl)
      (try simp only [Act.put, List.setIfInBounds_toArray, List.set_cons_zero, List.set_cons_succ])
      refine wpAnyH_take (i := 14) (oi := { dst := some 45, op := Op.indexAddr 37 (Operand.tmp 44) (Operand.const (Value.int IntKind.i64 1)), type := 0, pos := "attach.go:51", after := #[{ on := 13, ground := Ground.data }], guard := none }) (v := ?_) rfl (by kernel_rfl) (by kernel_rfl) (by kernel_rfl) (fun _ _ _ h => h) (Or.inl ⟨by rfl, ?_⟩) (by assumption) ?_
      rotate_left
      · ((intro w hSw; (try dsimp only at hSw); go_simp; (try rw [if_neg (by omega)])); try with_reducible rfl)
      (try simp only [Act.put, List.setIfInBounds_toArray, List.set_cons_zero, List.set_cons_succ])
      refine wpAnyH_take (i := 15) (oi := { dst := some 46, op := Op.load 3 (Operand.tmp 45), type := 3, pos := "attach.go:51", after := #[{ on := 14, ground := Ground.data }], guard := none }) (v := ?_) rfl (by kernel_rfl) (by kernel_rfl) (by kernel_rfl) (fun _ _ _ h => h) (Or.inl ⟨by rfl, ?_⟩) (by assumption) ?_
      rotate_left
      · ((intro w hSw; (try dsimp only at hSw); go_simp; (try rw [if_neg (by omega)])); try with_reducible rfl)
      (try simp only [Act.put, List.setIfInBounds_toArray, List.set_cons_zero, List.set_cons_succ])
      refine wpAnyH_take (i := 16) (oi := { dst := some 47, op := Op.fieldAddr 33 (Operand.tmp 11) 2, type := 0, pos := "attach.go:51", after := #[], guard := none }) (v := ?_) rfl (by kernel_rfl) (by kernel_rfl) (by kernel_rfl) (fun _ _ _ h => h) (Or.inl ⟨by rfl, ?_⟩) (by assumption) ?_
      rotate_left
      · ((intro w hSw; (try dsimp only at hSw); go_simp; (try rw [if_neg (by omega)])); try with_reducible rfl)
      (try simp only [Act.put, List.setIfInBounds_toArray, List.set_cons_zero, List.set_cons_succ])
      refine wpAnyH_take (i := 17) (oi := { dst := some 48, op := Op.load 3 (Operand.tmp 47), type := 3, pos := "attach.go:51", after := #[{ on := 16, ground := Ground.data }], guard := none }) (v := ?_) rfl (by kernel_rfl) (by kernel_rfl) (by kernel_rfl) (fun _ _ _ h => h) (Or.inl ⟨by rfl, ?_⟩) (by assumption) ?_
      rotate_left
      · ((intro w hSw; (try dsimp only at hSw); go_simp; (try rw [if_neg (by omega)])); try with_reducible rfl)
      (try simp only [Act.put, List.setIfInBounds_toArray, List.set_cons_zero, List.set_cons_succ])
      refine wpAnyH_take (i := 18) (oi := { dst := some 49, op := Op.binOp BinOp.add 3 (Operand.tmp 46) (Operand.tmp 48) 3, type := 3, pos := "attach.go:51", after := #[{ on := 15, ground := Ground.data }, { on := 17, ground := Ground.data }], guard := none }) (v := ?_) rfl (by kernel_rfl) (by kernel_rfl) (by kernel_rfl) (fun _ _ _ h => h) (Or.inl ⟨by rfl, ?_⟩) (by assumption) ?_
      rotate_left
      · ((intro w hSw; (try dsimp only at hSw); go_simp; (try rw [if_neg (by omega)])); try with_reducible rfl)
      (try simp only [Act.put, List.setIfInBounds_toArray, List.set_cons_zero, List.set_cons_succ])
      refine wpAnyH_take (i := 19) (oi := { dst := some 50, op := Op.fieldAddr 33 (Operand.tmp 8) 2, type := 0, pos := "attach.go:51", after := #[], guard := none }) (v := ?_) rfl (by kernel_rfl) (by kernel_rfl) (by kernel_rfl) (fun _ _ _ h => h) (Or.inl ⟨by rfl, ?_⟩) (by assumption) ?_
      rotate_left
      · ((intro w hSw; (try dsimp only at hSw); go_simp; (try rw [if_neg (by omega)])); try with_reducible rfl)
      (try simp only [Act.put, List.setIfInBounds_toArray, List.set_cons_zero, List.set_cons_succ])
      refine wpAnyH_take (i := 20) (oi := { dst := some 51, op := Op.load 3 (Operand.tmp 50), type := 3, pos := "attach.go:51", after := #[{ on := 19, ground := Ground.data }], guard := none }) (v := ?_) rfl (by kernel_rfl) (by kernel_rfl) (by kernel_rfl) (fun _ _ _ h => h) (Or.inl ⟨by rfl, ?_⟩) (by assumption) ?_
      rotate_left
      · ((intro w hSw; (try dsimp only at hSw); go_simp; (try rw [if_neg (by omega)])); try with_reducible rfl)
      (try simp only [Act.put, List.setIfInBounds_toArray, List.set_cons_zero, List.set_cons_succ])
      refine wpAnyH_take (i := 21) (oi := { dst := some 52, op := Op.binOp BinOp.sub 3 (Operand.tmp 49) (Operand.tmp 51) 3, type := 3, pos := "attach.go:51", after := #[{ on := 18, ground := Ground.data }, { on := 20, ground := Ground.data }], guard := none }) (v := ?_) rfl (by kernel_rfl) (by kernel_rfl) (by kernel_rfl) (fun _ _ _ h => h) (Or.inl ⟨by rfl, ?_⟩) (by assumption) ?_
      rotate_left
      · ((intro w hSw; (try dsimp only at hSw); go_simp; (try rw [if_neg (by omega)])); try with_reducible rfl)
      (try simp only [Act.put, List.setIfInBounds_toArray, List.set_cons_zero, List.set_cons_succ])
      refine wpAnyH_take (i := 22) (oi := { dst := some 53, op := Op.build 37 #[(0, Operand.tmp 41), (1, Operand.tmp 52)], type := 37, pos := "attach.go:51", after := #[{ on := 10, ground := Ground.data }, { on := 21, ground := Ground.data }], guard := none }) (v := ?_) rfl (by kernel_rfl) (by kernel_rfl) (by kernel_rfl) (fun _ _ _ h => h) (Or.inl ⟨by rfl, ?_⟩) (by assumption) ?_
      rotate_left
      · ((intro w hSw; (try dsimp only at hSw); go_simp; (try rw [if_neg (by omega)])); try with_reducible rfl)
      (try simp only [Act.put, List.setIfInBounds_toArray, List.set_cons_zero, List.set_cons_succ])
      refine wpAnyH_ready (rs := [23]) (by kernel_rfl) (by simp) ?_
      refine AllReadyH.cons (o := { dst := none, op := Op.store 37 (Operand.tmp 6) (Operand.tmp 53), type := 0, pos := "attach.go:51", after := #[{ on := 22, ground := Ground.data }, { on := 0, ground := Ground.phase }, { on := 1, ground := Ground.phase }, { on := 2, ground := Ground.phase }, { on := 3, ground := Ground.phase }, { on := 4, ground := Ground.phase }, { on := 5, ground := Ground.phase }, { on := 6, ground := Ground.phase }, { on := 7, ground := Ground.phase }, { on := 8, ground := Ground.phase }, { on := 9, ground := Ground.phase }, { on := 10, ground := Ground.phase }, { on := 11, ground := Ground.phase }, { on := 12, ground := Ground.phase }, { on := 13, ground := Ground.phase }, { on := 14, ground := Ground.phase }, { on := 15, ground := Ground.phase }, { on := 16, ground := Ground.phase }, { on := 17, ground := Ground.phase }, { on := 18, ground := Ground.phase }, { on := 19, ground := Ground.phase }, { on := 20, ground := Ground.phase }, { on := 21, ground := Ground.phase }, { on := 22, ground := Ground.phase }], guard := none }) rfl (fun K hK => ?_) AllReadyH.nil
      go_simp
      refine hK.out _ _ ?_ (fun hHeld => ?_)
      · first | exact ⟨v0, v1, v2, v3, v4, v5, v6⟩ | go_keep
      clear hK K
      (try simp only [Act.put, List.setIfInBounds_toArray, List.set_cons_zero, List.set_cons_succ])
      refine wpAnyH_done (by kernel_rfl) ?_ _
      show Oper.wp _ _ _ _ _ _
      have s2' : ((W6.setCell ⟨B + 1, 0, none⟩ (.int .i64 (y.1 + z2 - d.hang.2.1))).setCell ⟨B + 1, 1, none⟩ (.int .i64 (y.2 + z3 - d.hang.2.2))).drew.cell? ⟨B + 1 + 1, 0, none⟩ = some (.bool false) := by simp [s2, World.cell?_setCell_far]
      have f2' : ((W6.setCell ⟨B + 1, 0, none⟩ (.int .i64 (y.1 + z2 - d.hang.2.1))).setCell ⟨B + 1, 1, none⟩ (.int .i64 (y.2 + z3 - d.hang.2.2))).drew.frozen? ⟨B + 1 + 1, 0, none⟩ = false := by simpa using f2
      go_simp
      simp only [onlyN]
      gi_wp2
      have hfin := car_fin (B := B) (q0 := y.1 + z2 - d.hang.2.1) (q1 := y.2 + z3 - d.hang.2.2) (N := B + 6) (T := 4) hp1 hp2 HK6.out hbw6 HB.out
      have hcara : AT.carA P l d k = ((y.1 + z2 - d.hang.2.1, y.2 + z3 - d.hang.2.2), true) := by
        unfold AT.carA
        rw [HCC.out, HYES.out]
        simp only
        rw [List.getD_eq_getElem?_getD, hy]
        rfl
      exact ownPostG_ret (hfin.1) ⟨rfl, _, _, hcara, hfin.2.1, hfin.2.2.1, hfin.2.2.2⟩
  case done =>
    rintro D zs W hD hzs ⟨hcar, hbW⟩ hKD
    have hno : AT.carA P l d k = ((0, 0), false) := by
      unfold AT.carA
      rw [HCC.out, hcar, hzs, Nat.sub_self]
      rfl
    have hp1 : PtB W (B + 1) (0, 0) := (hbW.block (B + 1) (by omega)).trans b1
    have hp2 := (hbW.block (B + 2) (by omega)).trans b2
    have HNO := Lib.hid hno
    have HP1 := Lib.hid hp1
    have HP2 := Lib.hid hp2
    have HBW := Lib.hid (bnext hbw' hbW)
    have HS0 := Lib.hid hs0
    have HDD := Lib.hid hD
    have s0 := hp1.cells.1
    have s1 := hp1.cells.2
    have f0 := hp1.frozen 0
    have f1 := hp1.frozen 1
    have s2 : W.cell? ⟨B + 1 + 1, 0, none⟩ = some (.bool false) := by
      show W.cell? ⟨B + 2, 0, none⟩ = _
      simp [World.cell?, hp2]
    have f2 : W.frozen? ⟨B + 1 + 1, 0, none⟩ = false := by
      show W.frozen? ⟨B + 2, 0, none⟩ = _
      simp [World.frozen?, hp2]
    clear hno hp1 hp2 hcar hbW hbw' hs0 hD hc4 hc5 b0 b1 b2 b3 b4 b5 hbw hW0 hds0 hps0
    gi_wp2
    have hD6 : B + 6 ≤ D := by have := HS0.out; have := HDD.out; omega
    have hq1 : PtB (((W.setCell ⟨B + 1, 0, none⟩ (.int .i64 0)).setCell ⟨B + 1, 1, none⟩ (.int .i64 0)).setCell ⟨B + 1 + 1, 0, none⟩ (.bool false)) (B + 1) (0, 0) := (Below.heap_setCell _ _ _ _ (by simp)).trans (HP1.out.put (0, 0))
    have hq2 : (((W.setCell ⟨B + 1, 0, none⟩ (.int .i64 0)).setCell ⟨B + 1, 1, none⟩ (.int .i64 0)).setCell ⟨B + 1 + 1, 0, none⟩ (.bool false)).heap[B + 2]? = some (.cells #[.bool false] 4 (0, 0)) := (heap_setCell_same _ (B + 2) 0 #[.bool false] 4 (.bool false) ((Below.heap_setCell _ _ _ _ (by simp)).trans ((Below.heap_setCell _ _ _ _ (by simp)).trans HP2.out))).trans (by simp)
    have hbf : Below B w (((W.setCell ⟨B + 1, 0, none⟩ (.int .i64 0)).setCell ⟨B + 1, 1, none⟩ (.int .i64 0)).setCell ⟨B + 1 + 1, 0, none⟩ (.bool false)) := by
      have hB' := HB.out
      have := bset (bset (bset HBW.out (p := ⟨B + 1, 0, none⟩) (by simp; omega) (.int .i64 0)) (p := ⟨B + 1, 1, none⟩) (by simp; omega) (.int .i64 0)) (p := ⟨B + 1 + 1, 0, none⟩) (by simp; omega) (.bool false)
      rw [HB.out] at this
      exact this
    have hKD' : (((W.setCell ⟨B + 1, 0, none⟩ (.int .i64 0)).setCell ⟨B + 1, 1, none⟩ (.int .i64 0)).setCell ⟨B + 1 + 1, 0, none⟩ (.bool false)).heap[D]? = some (.deferred (some [])) := (Below.heap_setCell _ _ _ _ (by simp; omega)).trans ((Below.heap_setCell _ _ _ _ (by simp; omega)).trans ((Below.heap_setCell _ _ _ _ (by simp; omega)).trans hKD))
    refine ⟨by simp, .inl ⟨_, _, rfl, run_takeDeferred hKD', ?_⟩⟩
    obtain ⟨t1, t2⟩ := two_put hq1 hq2 hD6 (.deferred none)
    exact ⟨_, results_two rfl _ _ (B + 1) (B + 2) (0, 0) false rfl rfl t1 t2, by rw [HNO.out], hbf.trans (belowK_b (w := w) (by rw [HB.out]; exact Nat.le_refl _) _ D _ _ (by rw [HB.out]; omega) hKD' rfl rfl)⟩
  case stop =>
    rintro D c' pre W hD - ⟨rfl, q, hq, hp1, hp2, hbW⟩ hKD
    have HQ := Lib.hid hq
    have HP1 := Lib.hid hp1
    have HP2 := Lib.hid hp2
    have HBW := Lib.hid hbW
    have HS0 := Lib.hid hs0
    have HDD := Lib.hid hD
    clear hq hp1 hp2 hbW hbw' hs0 hD hc4 hc5 b0 b1 b2 b3 b4 b5 hbw hW0 hds0 hps0
    gi_wp2
    have hD6 : B + 6 ≤ D := by have := HS0.out; have := HDD.out; omega
    refine ⟨by simp, .inl ⟨_, _, rfl, run_takeDeferred hKD, ?_⟩⟩
    obtain ⟨t1, t2⟩ := two_put HP1.out HP2.out hD6 (.deferred none)
    exact ⟨_, results_two rfl _ _ (B + 1) (B + 2) q true rfl rfl t1 t2, by rw [HQ.out], HBW.out.trans (belowK_b (w := w) (Nat.le_refl _) _ D _ _ (by have := HB.out; omega) hKD rfl rfl)⟩
end Go.Proofs.Ytpmmincophaaiaa
