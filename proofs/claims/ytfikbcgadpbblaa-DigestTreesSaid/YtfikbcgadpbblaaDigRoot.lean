/- The contract of digest.Root. -/
import Derived.Test.YtfikbcgadpbblaaDigLvs
import Derived.Maps.AppendAt
namespace Go.Proofs.Ytfikbcgadpbblaa.DG
/-- The first element of level k. -/
def top (L : List ByteArray) (k : Nat) : ByteArray := (lvl L k).1.getD 0 (lvl L k).2
/-- The root of the tree of a list whose height is h. -/
def root (L : List ByteArray) (h : Nat) : ByteArray := S (dig (rootL h (top L h)))
end Go.Proofs.Ytfikbcgadpbblaa.DG
namespace Go.Proofs.Ytfikbcgadpbblaa
set_option linter.unusedVariables false
open Go.RowKit Go.Shelf
attribute [local go_sem] Oper.semAt_some
theorem row_kept {X Y : World} {row : Option Nat} {B : Nat} {c : Array Value} {t : TypeId} (h : X.heap[B]? = some (.cells c t (0, 0))) (hg : X.grownBy Y row) (hr : ∀ r, row = some r → ∃ o : Obj, X.heap[r]? = some o ∧ o.isCells = false) : Y.heap[B]? = some (.cells c t (0, 0)) :=
  (hg.block B (Array.getElem?_eq_some_iff.1 h).1 (fun e => by obtain ⟨o, ho, hc⟩ := hr B e.symm; rw [h] at ho; cases ho; cases hc)).trans h
theorem RowAt.grown {W W' : World} {v : Value} {U : List Value} {row : Option Nat} (h : RowAt W v U) (hg : W.grownBy W' row) (hr : ∀ r, row = some r → ∃ o : Obj, W.heap[r]? = some o ∧ o.isCells = false) : RowAt W' v U := by
  obtain ⟨a, cap, rfl, h | ⟨g, o, rfl, hgs, hc⟩⟩ := h.out
  · exact ⟨a, cap, rfl, Or.inl h⟩
  · refine ⟨_, cap, rfl, Or.inr ⟨g, o, rfl, Nat.lt_of_lt_of_le hgs hg.size, fun i hi => ?_⟩⟩
    rw [← hc i hi]
    refine World.cell?_of_block (a := ⟨g, o + i, none⟩) (hg.block g hgs (fun e => ?_))
    obtain ⟨ob, ho, hcs⟩ := hr g e.symm
    obtain ⟨cs, t, fr, hcc⟩ := cells_of_cell (hc i hi)
    rw [hcc] at ho
    obtain rfl := Option.some.inj ho
    cases hcs
theorem rowO_arg {O : World → Nat → Prop} {w W : World} {a : Option Addr} {E : List ByteArray} {n c : Nat} (h : RowAt w (.slice a n c) (E.map Value.string)) (hb : Below w.heap.size w W) (hO : ∀ g, O W g → w.heap.size ≤ g) : RowO O W a E := by
  obtain ⟨a', c', he, hh⟩ := h.out
  injection he with h1 h2 h3
  subst h1
  by_cases hE : E = []
  · exact .inl hE
  · refine RowO.fresh (h.keep hb) (fun g o e hg => ?_)
    rcases hh with hh | ⟨g', o', e', hg', _⟩
    · exact hE (by simpa using hh)
    · rw [e] at e'
      injection e' with e'
      injection e' with e1 e2
      subst e1
      have := hO g hg
      omega
theorem below_keeps {W W' : World} (h : Below W.heap.size W W') : KeepsOthers W W' := KeepsOthers.of_grownBy (row := none) ⟨h.os, h.tape, h.output, h.size, fun k hk _ => h.block k hk⟩ (fun j o e => by cases e)
theorem boxed_below {W W' : World} {B : Nat} {t : TypeId} {v : Value} (h : Boxed W B t v) (hb : Below W.heap.size W W') : Boxed W' B t v := (hb.block B (Boxed.lt h)).trans h
theorem kpO_set {O : World → Nat → Prop} {W : World} {B : Nat} {v : Value} (hO : ∀ b, O (W.setCell ⟨B, 0, none⟩ v) b → O W b) (hB : O W B) : KpO O W (W.setCell ⟨B, 0, none⟩ v) :=
  ⟨(grownBy_setCell' W B v).size, fun b hb => .inl (hO b hb), fun b cs t fr hb hn => (Below.heap_setCell _ _ _ _ (fun e => hn (by rw [show b = B from e]; exact hB))).trans hb⟩
theorem kpO_put {O : World → Nat → Prop} {B0 : Nat} (hO : ∀ A B, Below B0 A B → ∀ b, O B b → O A b) (W : World) (l : Nat) (o o' : Obj) (hl : B0 ≤ l) (h : W.heap[l]? = some o) (hc : o.isCells = false) (_ : o.isWalk = false) : KpO O W (W.putObj l o') := by
  have hg := grownBy_putObj' W l o'
  have hlt := (Array.getElem?_eq_some_iff.1 h).1
  refine ⟨hg.size, fun b hb => .inl (hO W _ ((Below.refl B0 W).grown hg (by omega) (fun k e => by cases e; exact hl)) b hb), fun b cs t fr hb _ => ?_⟩
  refine (hg.block b (Array.getElem?_eq_some_iff.1 hb).1 (fun e => ?_)).trans hb
  obtain rfl := Option.some.inj e
  rw [hb] at h
  obtain rfl := Option.some.inj h
  cases hc
theorem kpO_below {O : World → Nat → Prop} {B0 : Nat} (hO : ∀ A B, Below B0 A B → ∀ b, O B b → O A b) {W W' : World} (hB : B0 ≤ W.heap.size) (h : Below W.heap.size W W') : KpO O W W' :=
  ⟨h.size, fun b hb => .inl (hO W W' (h.mono hB) b hb), fun b cs t fr hb _ => (h.block b (Array.getElem?_eq_some_iff.1 hb).1).trans hb⟩
theorem levels_given (n : Nat) (hn : 1 ≤ n) (bt : Nat) (O : World → Nat → Prop) (L : List ByteArray) (a : Option Addr) (c h : Nat) (W0 : World) (hL : L.length ≤ 1000000) (hs : ∀ s ∈ L, s.size < 2147483648) (hh : DG.IsH L.length h)
    (hbt : bt < W0.heap.size) (hO : ∀ A B, Below W0.heap.size A B → ∀ b, O B b → O A b) (hO0 : ∀ b, O W0 b → b < W0.heap.size) (ht : W0.cell? ⟨bt, 0, none⟩ = some (.slice a L.length c)) (hr : RowO O W0 a L) :
    SeqGiven Fence.wide n Try.prog 34 #[.pointer (some ⟨bt, 0, none⟩)] lvEnc (KpO O) O (LvG L h) (fun xs => xs.length = h + 1) (fun _ => True) W0 :=
  fun l J Jx W hW hJ hJx hJo hJxo hY h0 => levels_in n hn l bt W0.heap.size O L a c h J Jx hL hs hh hY W hW.size (Nat.lt_of_lt_of_le hbt hW.size) hO (fun b hb => Nat.lt_of_lt_of_le (hO0 b (hO _ _ hW b hb)) hW.size) hJ hJo
    ((hW.cell (p := ⟨bt, 0, none⟩) hbt).trans ht) (hr.own (hO _ _ hW) (fun k o _ hk => hW.block k hk)) h0
set_option maxHeartbeats 400000 in
theorem levels_any (a : Option Addr) (n c : Nat) (w : World) :
    Calls Try.prog 28 #[.slice a n c] w fun e w' => e = .returned (.func (.func 34) #[] #[.pointer (some ⟨w.heap.size, 0, none⟩)]) ∧ w' = w.alloc (.cells #[.slice a n c] 26) := by
  go_enter Try.func28, Try.ntmps28
  go_wp2
  go_ret
  exact ⟨rfl, rfl⟩
/-- What lies in the two variables when some levels have come. -/
def RootI (L : List ByteArray) (B : Nat) (pre : List LvX) (W : World) : Prop := Boxed W B 9 (.string (if pre.length = 0 then ⟨#[]⟩ else DG.top L (pre.length - 1))) ∧ Boxed W (B + 1) 3 (.int .i64 ((pre.length - 1 : Nat) : Int))
set_option maxRecDepth 100000 in
set_option maxHeartbeats 4000000 in
theorem rootP_in (n : Nat) (hn : 3 ≤ n) (L : List ByteArray) (a : Option Addr) (c h : Nat) (w : World) (hr : RowAt w (.slice a L.length c) (L.map Value.string)) (hL : L.length ≤ 1000000) (hs : ∀ s ∈ L, s.size < 2147483648) (hh : DG.IsH L.length h) :
    CallsIn Fence.wide n Try.prog 21 #[.slice a L.length c] w fun e W' => e = .returned (.string (DG.root L h)) ∧ Below w.heap.size w W' := by
  have h1 : 1 ≤ n := by omega
  have h20 := hh.le20 hL
  have HSZ := Lib.hid (DG.lvl_sizes hs)
  have HRW := Lib.hid hr
  have HH := Lib.hid hh
  refine callsIn_of_wp_marks Try.func21 rfl trivial ?_ rfl
  simp only [Try.ntmps21, List.size_toArray, List.length_cons, List.length_nil, Nat.reduceAdd, Nat.reduceSub, Array.replicate_succ, Array.replicate_zero, List.push_toArray, List.append_toArray, List.nil_append, List.cons_append]
  gi_wp2_with (refine ⟨trivial, ?_⟩; gi_at_call 28; refine (callsIn_wide.2 (levels_any _ _ _ _)).mono ?_; rintro e w' ⟨rfl, rfl⟩)
  have hr0 := hr
  have bO := ((Boxed.new w 9 (.string ⟨#[]⟩)).alloc (.cells #[.int .i64 0] 3)).alloc (.cells #[.slice a L.length c] 26)
  have b1 := (Boxed.new (w.alloc (.cells #[.string ⟨#[]⟩] 9)) 3 (.int .i64 0)).alloc (.cells #[.slice a L.length c] 26)
  have b2 := Boxed.new ((w.alloc (.cells #[.string ⟨#[]⟩] 9)).alloc (.cells #[.int .i64 0] 3)) 26 (.slice a L.length c)
  have hB0 : Below w.heap.size w (((w.alloc (.cells #[.string ⟨#[]⟩] 9)).alloc (.cells #[.int .i64 0] 3)).alloc (.cells #[.slice a L.length c] 26)) := (((Below.refl _ w).alloc (Nat.le_refl _) _).alloc (by simp) _).alloc (by simp; omega) _
  have hsz : (((w.alloc (.cells #[.string ⟨#[]⟩] 9)).alloc (.cells #[.int .i64 0] 3)).alloc (.cells #[.slice a L.length c] 26)).heap.size = w.heap.size + 3 := by simp
  simp only [World.size_alloc] at bO b1 b2 ⊢
  generalize ((w.alloc (.cells #[.string ⟨#[]⟩] 9)).alloc (.cells #[.int .i64 0] 3)).alloc (.cells #[.slice a L.length c] 26) = W0 at *
  have hOm : ∀ A B : World, Below W0.heap.size A B → ∀ b, (fun (_ : World) (b : Nat) => b = w.heap.size ∨ b = w.heap.size + 1) B b → (fun (_ : World) (b : Nat) => b = w.heap.size ∨ b = w.heap.size + 1) A b := fun _ _ _ _ h => h
  have hrow0 : RowO (fun (_ : World) (b : Nat) => b = w.heap.size ∨ b = w.heap.size + 1) W0 a L := rowO_arg hr0 hB0 (fun g hg => by rcases hg with rfl | rfl <;> omega)
  refine range_given rfl h1 (gf := 34) (lb := #[.pointer (some ⟨w.heap.size + 1 + 1, 0, none⟩)]) rfl trivial (enters_of Try.func34 (by kernel_rfl) rfl)
    (levels_given (n - 1) (by omega) (w.heap.size + 1 + 1) (fun _ b => b = w.heap.size ∨ b = w.heap.size + 1) L a c h W0 hL hs hh (by omega) hOm (fun b hb => by rcases hb with rfl | rfl <;> omega) b2.cell hrow0)
    KpO.trans (fun W l o o' hl ho hc hw => kpO_put hOm W l o o' hl ho hc hw) (Below.refl _ _) (fun _ => rfl)
    (fun pre W => (Boxed W w.heap.size 9 (.string (if pre.length = 0 then ⟨#[]⟩ else DG.top L (pre.length - 1))) ∧ Boxed W (w.heap.size + 1) 3 (.int .i64 ((pre.length - 1 : Nat) : Int)) ∧ Boxed W (w.heap.size + 2) 26 (.slice a L.length c)) ∧ Below w.heap.size w W)
    (fun _ _ _ => False)
    (OwnFrom.and (OwnFrom.and (Own.from (boxed_own _ _ _) _) (OwnFrom.and (Own.from (boxed_own _ _ _) _) (Own.from (boxed_own _ _ _) _))) (ownFrom_below (Nat.le_refl _) (by omega)))
    (fun _ _ _ _ _ hs _ _ => hs)
    (fun pre X Y b hs hg hb hO _ => ⟨⟨hs.1.1.kept hg (fun e => hO (.inl (Option.some.inj e).symm)), hs.1.2.1.kept hg (fun e => hO (.inr (Option.some.inj e).symm)), hs.1.2.2.kept hg (fun e => by have := Option.some.inj e; omega)⟩, hs.2.grown hg hs.2.size (fun k e => by cases e; omega)⟩)
    (fun _ _ _ _ _ hs _ _ _ _ => hs)
    ⟨⟨bO, b1, b2⟩, hB0⟩
    (fun pre x a' W => ∃ Bx, w.heap.size + 2 < Bx ∧ W.heap[Bx]? = some (.cells #[.slice x.a x.E.length x.c, .string x.f, .int .i64 (x.m : Int)] 56 (0, 0)) ∧ (x.k = pre.length ∧ x.k ≤ h ∧ x.E = (DG.lvl L x.k).1 ∧ x.f = (DG.lvl L x.k).2) ∧ RowAt W (.slice x.a x.E.length x.c) (x.E.map Value.string) ∧
      a' = { tmps := #[.slice a L.length c, undef, .string ⟨#[]⟩, .pointer (some ⟨w.heap.size, 0, none⟩), .pointer (some ⟨w.heap.size + 1, 0, none⟩), .int .i64 (x.k : Int), .pointer (some ⟨Bx, 0, none⟩), .slice a L.length c, .func (.func 34) #[] #[.pointer (some ⟨w.heap.size + 1 + 1, 0, none⟩)], .int .i64 (x.k : Int), lv x.a x.E.length x.c x.f x.m, undef, undef, undef, undef, undef, undef, undef], defers := [] })
    (fun pre x a' _ X Y row hs hg hr => by
      obtain ⟨Bx, h1, h2, h3, h4, h5⟩ := hs
      exact ⟨Bx, h1, row_kept h2 hg (fun r e => (hr r e).2), h3, h4.grown hg (fun r e => (hr r e).2), h5⟩)
    ?assign ?body ?done ?stop
  case assign =>
    rintro l pre x W K ⟨⟨B0, B1, B2⟩, hB⟩ ⟨g1, g2, g3, g4, g5, g6⟩ hK
    have hsW := hB.size
    have hs2 := B2.lt
    obtain ⟨k, xa, xc, E, f, m⟩ := x
    simp only at g1 g2 g3 g4 g5 g6
    have HK := Lib.hid hK
    have HG := Lib.hid (⟨g1, g2, g3, g4⟩ : k = pre.length ∧ k ≤ h ∧ E = (DG.lvl L k).1 ∧ f = (DG.lvl L k).2)
    clear g1 g2 g3 g4 g5 hK
    simp only [lvEnc]
    gi_wp2
    exact HK.out _ _ ((KeepsOthers.alloc _ _).from _) (kpO_below hOm (by omega) ((Below.refl _ W).alloc (Nat.le_refl _) _)) ⟨⟨B0.alloc _, B1.alloc _, B2.alloc _⟩, hB.alloc hsW _⟩ ⟨W.heap.size, by omega, World.alloc_heap_new W _, HG.out, g6.keep ((Below.refl _ W).alloc (Nat.le_refl _) _), rfl⟩
  case body =>
    rintro l pre x a' W hl ⟨r, hr⟩ ⟨⟨B0, B1, B2⟩, hB⟩ ⟨Bx, hBx, bX, hG, hrow, rfl⟩
    obtain ⟨k, xa, xc, E, f, m⟩ := x
    simp only at bX hG hrow
    have c0 : W.cell? ⟨Bx, 0, none⟩ = some (.slice xa E.length xc) := by simp [World.cell?, bX]
    have c1 : W.cell? ⟨Bx, 1, none⟩ = some (.string f) := by simp [World.cell?, bX]
    have c2 : W.cell? ⟨Bx, 2, none⟩ = some (.int .i64 (m : Int)) := by simp [World.cell?, bX]
    have hEl : E.length ≤ maxLen := by
      rw [hG.2.2.1]
      have := DG.lvl_small hL k
      unfold maxLen
      omega
    have hat : Calls Try.prog 29 #[lv xa E.length xc f m, .int .i64 0] W fun e w' => e = .returned (.string (E.getD 0 f)) ∧ Below W.heap.size W w' := at_any xa xc E f m 0 W hrow hEl (Nat.zero_le _)
    have htop : E.getD 0 f = DG.top L k := by unfold DG.top; rw [hG.2.2.1, hG.2.2.2]
    rw [htop] at hat
    have HAT := Lib.hid hat
    have HG := Lib.hid hG
    have HHB := Lib.hid hB
    have hn1 : 1 ≤ n - 1 - 1 := by omega
    have hsW0 : W0.heap.size ≤ W.heap.size := by have := B2.lt; omega
    clear hat hG hB hEl htop hrow hr
    gi_wp2_with (refine ⟨trivial, ?_⟩; gi_at_call 29; refine (CallsIn.inRound l (callsIn_wide.2 HAT.out)).mono ?_; rintro e w5 ⟨rfl, hb5⟩; have D0 := boxed_below B0 hb5; have D1 := boxed_below B1 hb5; have d0 := D0.cell; have d1 := D1.cell; have e0 := D0.frozen; have e1 := D1.frozen; have D2 := boxed_below B2 hb5; clear B0 B1 B2)
    have hsW := hb5.size
    have k1 : KpO (fun (_ : World) (b : Nat) => b = w.heap.size ∨ b = w.heap.size + 1) W w5 := kpO_below hOm hsW0 hb5
    have hpl : (pre ++ [(⟨k, xa, xc, E, f, m⟩ : LvX)]).length = k + 1 := by rw [List.length_append, HG.out.1]; rfl
    refine ⟨((below_keeps hb5).trans ((KeepsOthers.setCell _ _ _).trans (KeepsOthers.setCell _ _ _))).from _, (k1.trans (kpO_set (fun _ h => h) (.inr rfl))).trans (kpO_set (fun _ h => h) (.inl rfl)), ⟨?_, ?_, ?_⟩, ?_⟩
    · rw [hpl, if_neg (by omega), Nat.add_sub_cancel]
      exact (D0.other (by omega) _).set _
    · rw [hpl, Nat.add_sub_cancel]
      exact (D1.set _).other (by omega) _
    · exact (D2.other (by omega) _).other (by omega) _
    · exact ((bnext HHB.out hb5).setCell (p := ⟨w.heap.size + 1, 0, none⟩) (by simp) _).setCell (p := ⟨w.heap.size, 0, none⟩) (by simp) _
  case done =>
    rintro D xs W hD hlen ⟨⟨B0, B1, _⟩, hB⟩ hK
    rw [hlen, if_neg (by omega)] at B0
    rw [hlen] at B1
    simp only [Nat.add_sub_cancel] at B0 B1
    have d0 := B0.cell
    have d1 := B1.cell
    have HB := Lib.hid hB
    have HK := Lib.hid hK
    have hts : (DG.top L h).size < 2147483648 := getD_size (HSZ.out h).2 (HSZ.out h).1 0
    clear hB hK B0 B1 hlen
    gi_wp2_with (first | (refine ⟨trivial, ?_⟩; gi_at_call 31; refine (callsIn_wide.2 (root_any h (DG.top L h) _ (by omega) (by unfold maxLen; omega))).mono ?_; rintro e w5 ⟨rfl, hb5⟩) | (refine ⟨trivial, ?_⟩; gi_at_call 26; refine (callsIn_wide.2 (text_any _ _)).mono ?_; rintro e w6 ⟨rfl, hb6⟩))
    have hK6 := (hb6.block D (by have := (Array.getElem?_eq_some_iff.1 HK.out).1; have := hb5.size; omega)).trans ((hb5.block D (Array.getElem?_eq_some_iff.1 HK.out).1).trans HK.out)
    refine ⟨by simp, .inl ⟨_, _, rfl, run_takeDeferred hK6, ?_⟩⟩
    exact ⟨_, results_tmp rfl _ _ _, rfl, (bnext (bnext HB.out hb5) hb6).trans (belowK_b (w := w) (Nat.le_refl _) w6 D _ _ (by omega) hK6 rfl rfl)⟩
  case stop =>
    rintro D c pre W _ _ h _
    exact h.elim
end Go.Proofs.Ytfikbcgadpbblaa
