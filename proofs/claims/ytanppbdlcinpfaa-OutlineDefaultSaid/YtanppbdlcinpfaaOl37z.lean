/- Texts merged: Mod, Draw, Ol37z. No conditions. -/
import Derived.Test.YtanppbdlcinpfaaBase
import Derived.Test.YtanppbdlcinpfaaApp
import Derived.Deep.Cut
import Derived.Maps.AppendAt
import Derived.Test.YtanppbdlcinpfaaOl36
set_option linter.unusedSimpArgs false
set_option linter.unusedVariables false
/- The remainder that is not negative (reference of layer 1). No conditions. -/
section
namespace Go.Proofs.Ytanppbdlcinpfaa
set_option maxRecDepth 100000
set_option linter.unusedVariables false
open Go.RowKit
namespace FP
theorem parts_of (n d q r : Int) (hd : 1 ≤ d) (h : r + d * q = n) (h0 : 0 ≤ r) (h1 : r < d) : n / d = q ∧ n % d = r :=
  (Int.ediv_emod_unique (by omega)).2 ⟨h, h0, h1⟩

theorem tparts (n d : Int) (hn : n < 0) (_hd : 1 ≤ d) : n.tdiv d = -((-n) / d) ∧ n.tmod d = -((-n) % d) := by
  have e : n = -(-n) := by omega
  constructor
  · rw [e, Int.neg_tdiv, Int.tdiv_eq_ediv_of_nonneg (by omega)]; simp
  · rw [e, Int.neg_tmod, Int.tmod_eq_emod_of_nonneg (by omega)]; simp

/-- Go's quotient and remainder of a negative number, against those that are rounded down. -/
theorem neg_zero (n d : Int) (hn : n < 0) (hd : 1 ≤ d) (h : n.tmod d = 0) : n / d = n.tdiv d ∧ n % d = 0 := by
  obtain ⟨a, b⟩ := tparts n d hn hd
  have hm := Int.mul_ediv_add_emod (-n) d
  refine parts_of n d _ _ hd ?_ (by omega) (by omega)
  rw [a, Int.mul_neg]; omega

theorem neg_less (n d : Int) (hn : n < 0) (hd : 1 ≤ d) (h : n.tmod d < 0) : n / d = n.tdiv d - 1 ∧ n % d = n.tmod d + d := by
  obtain ⟨a, b⟩ := tparts n d hn hd
  have hm := Int.mul_ediv_add_emod (-n) d
  have hl := Int.emod_lt_of_pos (-n) (show 0 < d by omega)
  refine parts_of n d _ _ hd ?_ (by omega) (by omega)
  rw [a, b, Int.mul_sub, Int.mul_neg]; omega

theorem tmod_bd (n d : Int) (hd : 1 ≤ d) : -d < n.tmod d ∧ n.tmod d < d ∧ (n < 0 → n.tmod d ≤ 0) ∧ (0 ≤ n → 0 ≤ n.tmod d) := by
  by_cases hn : n < 0
  · obtain ⟨_, b⟩ := tparts n d hn hd
    have hl := Int.emod_lt_of_pos (-n) (show 0 < d by omega)
    have hg := Int.emod_nonneg (-n) (show d ≠ 0 by omega)
    omega
  · have e : n.tmod d = n % d := Int.tmod_eq_emod_of_nonneg (by omega)
    have hl := Int.emod_lt_of_pos n (show 0 < d by omega)
    have hg := Int.emod_nonneg n (show d ≠ 0 by omega)
    omega

theorem modt (n m : Int) (hm : 1 ≤ m) : (n.tmod m + m) % m = n % m ∧ 0 ≤ n.tmod m + m := by
  obtain ⟨t1, t2, t3, t4⟩ := tmod_bd n m hm
  refine ⟨?_, by omega⟩
  by_cases hn : n < 0
  · by_cases ht : n.tmod m < 0
    · obtain ⟨e, f⟩ := neg_less n m hn hm ht
      rw [f, Int.emod_eq_of_lt (by omega) (by omega)]
    · obtain ⟨e, f⟩ := neg_zero n m hn hm (by have := t3 hn; omega)
      have : n.tmod m = 0 := by have := t3 hn; omega
      rw [f, this]; simp
  · have e : n.tmod m = n % m := Int.tmod_eq_emod_of_nonneg (by omega)
    rw [e, Int.add_emod_right, Int.emod_emod]
end FP
/-- The remainder that is not negative. -/
theorem mod_any (n m : Int) (w : World) (h0 : 1 ≤ m) (h1 : m ≤ 4611686018427387904) :
    Calls Try.prog 17 #[.int .i64 n, .int .i64 m] w fun e w' => e = .returned (.int .i64 (n % m)) ∧ w' = w := by
  obtain ⟨t1, t2, t3, t4⟩ := FP.tmod_bd n m h0
  obtain ⟨e1, e2⟩ := FP.modt n m h0
  have E : Hid ((n.tmod m + m) % m = n % m) := e1
  have r1 := Int.emod_lt_of_pos n (show 0 < m by omega)
  have r0 := Int.emod_nonneg n (show m ≠ 0 by omega)
  clear t3 t4 e1
  by_cases hn : 0 ≤ n
  · have E' : (n % m + m) % m = n % m := by rw [Int.add_emod_right, Int.emod_emod]
    go_enter Try.func17, Try.ntmps17
    go_wp2
    go_ret
    exact ⟨ret1 E', rfl⟩
  · go_enter Try.func17, Try.ntmps17
    go_wp2
    go_ret
    exact ⟨ret1 (by have := E.out; rw [Int.add_emod_right] at this; exact this), rfl⟩
end Go.Proofs.Ytanppbdlcinpfaa
end
/- Draw of the reference of layer 1: numbers from a list, one after the other. No conditions. -/
section
namespace Go.Proofs.Ytanppbdlcinpfaa
set_option maxRecDepth 100000
set_option linter.unusedVariables false
open Go.RowKit Go.Deep
/-- The next number, and the place behind it. -/
def nx (L : List Int) (a : Nat) (n : Int) : Int × Nat := if L.length ≤ a then (0, a) else (L.getD a 0 % n, a + 1)
theorem nx_bd (L : List Int) (a : Nat) {n : Int} (hn : 1 ≤ n) (ha : a ≤ L.length) : 0 ≤ (nx L a n).1 ∧ (nx L a n).1 < n ∧ (nx L a n).2 ≤ L.length := by
  unfold nx
  by_cases h : L.length ≤ a
  · rw [if_pos h]
    exact ⟨Int.le_refl _, by simp only; omega, ha⟩
  · rw [if_neg h]
    exact ⟨Int.emod_nonneg _ (by omega), Int.emod_lt_of_pos _ (by omega), by simp only; omega⟩
/-- A Draw in a block of its own. -/
def DwB (W : World) (B : Nat) (v : Value) (a : Nat) : Prop := W.heap[B]? = some (.cells #[v, .int .i64 (a : Int)] 130 (0, 0))
theorem DwB.lt {W : World} {B : Nat} {v : Value} {a : Nat} (h : DwB W B v a) : B < W.heap.size := (Array.getElem?_eq_some_iff.1 h).1
theorem DwB.keep {W W' : World} {B : Nat} {v : Value} {a : Nat} (h : DwB W B v a) (hb : Below W.heap.size W W') : DwB W' B v a := (hb.block B h.lt).trans h
/-- The numbers of a Draw lie below a block. -/
def DwRow (W : World) (B : Nat) (la : Option Addr) (L : List Int) : Prop := L = [] ∨ ∃ g o, la = some ⟨g, o, none⟩ ∧ g < B ∧ g < W.heap.size ∧ ∀ i, i < L.length → W.cell? ⟨g, o + i, none⟩ = some (.int .i64 (L.getD i 0))
theorem DwRow.keep {W W' : World} {B : Nat} {la : Option Addr} {L : List Int} (h : DwRow W B la L) (hb : Below W.heap.size W W') : DwRow W' B la L := by
  rcases h with h | ⟨g, o, e, h1, h2, h3⟩
  · exact .inl h
  · exact .inr ⟨g, o, e, h1, Nat.lt_of_lt_of_le h2 hb.size, fun i hi => (hb.cell (p := ⟨g, o + i, none⟩) h2).trans (h3 i hi)⟩
theorem DwRow.grown {W W' : World} {B : Nat} {la : Option Addr} {L : List Int} (h : DwRow W B la L) (hg : W.grownBy W' (some B)) : DwRow W' B la L := by
  rcases h with h | ⟨g, o, e, h1, h2, h3⟩
  · exact .inl h
  · exact .inr ⟨g, o, e, h1, Nat.lt_of_lt_of_le h2 hg.size, fun i hi => (World.cell?_of_block (a := ⟨g, o + i, none⟩) (hg.block g h2 (fun e => by have := Option.some.inj e; omega))).trans (h3 i hi)⟩
set_option maxHeartbeats 4000000 in
theorem next_any (L : List Int) (la : Option Addr) (lc B a : Nat) (n : Int) (w : World) (hd : DwB w B (.slice la L.length lc) a) (hr : DwRow w B la L) (ha : a ≤ L.length) (hL : L.length ≤ 9223372036854775807) (h0 : 1 ≤ n) (h1 : n ≤ 1000000) :
    Calls Try.prog 68 #[.pointer (some ⟨B, 0, none⟩), .int .i64 n] w fun e w' => e = .returned (.int .i64 (nx L a n).1) ∧ DwB w' B (.slice la L.length lc) (nx L a n).2 ∧ w.grownBy w' (some B) := by
  have hd0 := hd
  unfold DwB at hd0
  have c0 : w.cell? ⟨B, 0, none⟩ = some (.slice la L.length lc) := by simp [World.cell?, hd0]
  have c1 : w.cell? ⟨B, 1, none⟩ = some (.int .i64 (a : Int)) := by simp [World.cell?, hd0]
  have f1 : w.frozen? ⟨B, 1, none⟩ = false := by simp [World.frozen?, hd0]
  have HD := Lib.hid hd0
  obtain ⟨m, hm⟩ : ∃ m, L.length = m := ⟨_, rfl⟩
  have HM := Lib.hid hm
  rw [hm] at c0 hL ha HD ⊢
  by_cases h : m ≤ a
  · obtain rfl : a = m := by omega
    have hx : nx L a n = (0, a) := if_pos (by omega)
    have HX := Lib.hid hx
    rw [hx]
    clear hx hm hd hd0 hr
    go_enter Try.func68, Try.ntmps68
    go_wp2_with fail
    go_quiet (fail)
    go_wp2
    go_ret
    exact ⟨rfl, by unfold DwB; simpa using HD.out, by first | exact World.grownBy.refl _ _ | exact ⟨rfl, rfl, rfl, Nat.le_refl _, fun _ _ _ => rfl⟩⟩
  · have hlt : a < m := by omega
    have hx : nx L a n = (L.getD a 0 % n, a + 1) := if_neg (by omega)
    have HX := Lib.hid hx
    rw [hx]
    rcases hr with hr | ⟨g, o, rfl, hgB, hg, hc⟩
    · rw [hr] at hm
      simp at hm
      omega
    have c2 := hc a (by omega)
    obtain ⟨y, hy⟩ : ∃ y, L.getD a 0 = y := ⟨_, rfl⟩
    rw [hy] at c2 ⊢
    have hne : B ≠ g := by omega
    have hii : ¬ (m : Int) ≤ (a : Int) := by omega
    clear hx hm hd hd0 hc hy
    go_enter Try.func68, Try.ntmps68
    go_wp2_with fail
    go_quiet (fail)
    go_upto_region 4 with fail
    obtain ⟨W1, hW1⟩ : ∃ W1, (w.drewN nq).setCell ⟨B, 1, none⟩ (.int .i64 ((a : Int) + 1)) = W1 := ⟨_, rfl⟩
    have hd1 : W1.heap[B]? = some (.cells #[.slice (some ⟨g, o, none⟩) m lc, .int .i64 ((a : Int) + 1)] 130 (0, 0)) := by
      rw [← hW1]
      exact heap_setCell_same (w.drewN nq) B 1 _ 130 (.int .i64 ((a : Int) + 1)) (by simpa using HD.out)
    have hg1 : w.grownBy W1 (some B) := by
      rw [← hW1]
      have h1 : w.grownBy (w.drewN nq) (some B) := ⟨rfl, rfl, rfl, Nat.le_refl _, fun _ _ _ => rfl⟩
      exact World.grownBy.trans h1 ⟨rfl, rfl, rfl, by simp, fun k _ hk => Below.heap_setCell _ _ _ k (fun e => hk (by rw [e]))⟩
    rw [hW1]
    have x0 : W1.cell? ⟨B, 0, none⟩ = some (.slice (some ⟨g, o, none⟩) m lc) := by simp [World.cell?, hd1]
    have x1 : W1.cell? ⟨B, 1, none⟩ = some (.int .i64 ((a : Int) + 1)) := by simp [World.cell?, hd1]
    have x2 : W1.cell? ⟨g, o + a, none⟩ = some (.int .i64 y) := (World.cell?_of_block (a := ⟨g, o + a, none⟩) (hg1.block g hg (fun e => by have := Option.some.inj e; omega))).trans c2
    have hai : (a : Int) + 1 - 1 = (a : Int) := by omega
    have hwr : IntKind.i64.wrap ((a : Int) + 1 - 1) = (a : Int) := by rw [IntKind.wrap_i64]; omega
    have hwr2 : IntKind.i64.wrap (a : Int) = (a : Int) := by rw [IntKind.wrap_i64]; omega
    have ha0 : (0 : Int) ≤ (a : Int) := by omega
    have ham : (a : Int) < (m : Int) := by omega
    have HD1 := Lib.hid hd1
    have HG1 := Lib.hid hg1
    clear hW1 hd1 hg1 c0 c1 f1 c2
    go_region_held3 (fun w' => w'.cell? ⟨B, 0, none⟩ = some (.slice (some ⟨g, o, none⟩) m lc) ∧ w'.cell? ⟨B, 1, none⟩ = some (.int .i64 ((a : Int) + 1)) ∧ w'.cell? ⟨g, o + a, none⟩ = some (.int .i64 y)) (go_keep) (first | (go_at_call 17; refine (mod_any _ _ _ (by omega) (by omega)).mono ?_; rintro e w' ⟨rfl, rfl⟩))
    go_wp2
    go_ret
    exact ⟨rfl, by unfold DwB; show W1.heap[B]? = _; rw [HD1.out]; simp, World.grownBy.trans HG1.out ⟨rfl, rfl, rfl, Nat.le_refl _, fun _ _ _ => rfl⟩⟩
end Go.Proofs.Ytanppbdlcinpfaa
end
/- Glyphs that numbers make: what is made stays. No conditions. -/
section
namespace Go.Proofs.Ytanppbdlcinpfaa
set_option maxRecDepth 100000
set_option linter.unusedVariables false
open Go.RowKit Go.Deep
theorem FrS.grow {S : Nat → Prop} {W V V' : World} {row : Option Nat} (h : FrS S W V) (hg : V.grownBy V' row) (hr : ∀ q, row = some q → S q ∨ W.heap.size ≤ q) : FrS S W V' :=
  h.over (FrS.grown (S := fun q => row = some q) hg (fun _ e => e)) hr
theorem FrS.put {S : Nat → Prop} {W V : World} (h : FrS S W V) {b i : Nat} (hb : S b ∨ W.heap.size ≤ b) (u : Value) : FrS S W (V.setCell ⟨b, i, none⟩ u) :=
  h.over (FrS.one V b i u) (fun q hq => by rw [hq]; exact hb)
theorem FrS.al {S : Nat → Prop} {W V : World} (h : FrS S W V) (o : Obj) : FrS S W (V.alloc o) := h.then (balloc (Below.refl _ _) o)
theorem FrS.dr {S : Nat → Prop} {W V : World} (h : FrS S W V) : FrS S W V.drew := h.then (Below.drew (Below.refl _ _))
theorem FrS.bel {S : Nat → Prop} {U W V : World} (h : FrS S W V) (hb : Below U.heap.size U W) (hS : ∀ q, S q → U.heap.size ≤ q) : Below U.heap.size U V := h.below U hb hS
theorem SrcN.fr {S : Nat → Prop} {k n : Nat} {W V : World} {a : Option Addr} {m c : Nat} {U : List Value} (h : SrcN k W (.slice a m c) n U) (hf : FrS S W V) (hS : ∀ g o, a = some ⟨g, o, none⟩ → ¬ S g) : SrcN k V (.slice a m c) n U := by
  obtain ⟨ao, c', e, hl, h1⟩ := h
  refine ⟨ao, c', e, hl, ?_⟩
  rcases h1 with h1 | ⟨g, o, rfl, hg, hc⟩
  · exact .inl h1
  · injection e with e1 _ _
    exact .inr ⟨g, o, rfl, Nat.lt_of_lt_of_le hg hf.size, fun j u hu => (World.cell?_of_block (a := ⟨g, o + j, none⟩) (hf.block g hg (hS g o e1))).trans (hc j u hu)⟩
/-- A Draw in block Bd, somewhere in its numbers. -/
def DwOk (W : World) (Bd : Nat) (la : Option Addr) (lc : Nat) (L : List Int) : Prop := (∃ a, a ≤ L.length ∧ DwB W Bd (.slice la L.length lc) a) ∧ DwRow W Bd la L
theorem DwOk.lt {W : World} {Bd : Nat} {la : Option Addr} {lc : Nat} {L : List Int} (h : DwOk W Bd la lc L) : Bd < W.heap.size := by obtain ⟨⟨a, -, h1⟩, -⟩ := h; exact h1.lt
theorem DwOk.fr {S : Nat → Prop} {W V : World} {Bd : Nat} {la : Option Addr} {lc : Nat} {L : List Int} (h : DwOk W Bd la lc L) (hf : FrS S W V) (hS : ∀ q, S q → Bd < q) : DwOk V Bd la lc L := by
  have hlt := h.lt
  obtain ⟨⟨a, h0, h1⟩, h2⟩ := h
  refine ⟨⟨a, h0, (hf.block Bd hlt (fun x => by have := hS _ x; omega)).trans h1⟩, ?_⟩
  rcases h2 with h2 | ⟨g, o, e, h3, h4, h5⟩
  · exact .inl h2
  · exact .inr ⟨g, o, e, h3, Nat.lt_of_lt_of_le h4 hf.size, fun i hi => (World.cell?_of_block (a := ⟨g, o + i, none⟩) (hf.block g h4 (fun x => by have := hS _ x; omega))).trans (h5 i hi)⟩
theorem DwOk.keep {W V : World} {Bd : Nat} {la : Option Addr} {lc : Nat} {L : List Int} (h : DwOk W Bd la lc L) (hb : Below W.heap.size W V) : DwOk V Bd la lc L := h.fr (FrS.of (S := fun _ => False) hb) (fun _ x => x.elim)
theorem nxt_any {W : World} {Bd : Nat} {la : Option Addr} {lc : Nat} {L : List Int} (h : DwOk W Bd la lc L) (hL : L.length ≤ 9223372036854775807) (n : Int) (h0 : 1 ≤ n) (h1 : n ≤ 1000000) :
    Calls Try.prog 68 #[.pointer (some ⟨Bd, 0, none⟩), .int .i64 n] W fun e w' => ∃ r, e = .returned (.int .i64 r) ∧ 0 ≤ r ∧ r < n ∧ DwOk w' Bd la lc L ∧ FrS (fun q => q = Bd) W w' := by
  obtain ⟨⟨a, ha, h2⟩, h3⟩ := h
  refine (next_any L la lc Bd a n W h2 h3 ha hL h0 h1).mono ?_
  rintro e w' ⟨rfl, h4, h5⟩
  have hb := nx_bd L a h0 ha
  exact ⟨_, rfl, hb.1, hb.2.1, ⟨⟨_, hb.2.2, h4⟩, h3.grown h5⟩, FrS.grown h5 (fun r e => (Option.some.inj e).symm)⟩
/-- Rows that were made, in blocks behind X, not in the row v that they are listed in. -/
structure NsS (W : World) (X k : Nat) (v : Value) (R : List (Nat × List Value)) (vs : List Value) : Prop where
  len : vs.length = R.length
  inn : ∀ (i : Nat) (x : Nat × List Value), R[i]? = some x → ∃ a c, vs[i]? = some (.slice a x.1 c) ∧ x.1 ≤ c ∧ SrcN k W (.slice a x.1 c) x.1 x.2
  off : ∀ (i : Nat) (a : Option Addr) (n c g o : Nat), vs[i]? = some (.slice a n c) → a = some ⟨g, o, none⟩ → X < g ∧ g < W.heap.size ∧ v.ownBlock ≠ some g
theorem NsS.nil (W : World) (X k : Nat) (v : Value) : NsS W X k v [] [] := ⟨rfl, fun i x h => by simp at h, fun i a n c g o h => by simp at h⟩
theorem NsS.fr {S : Nat → Prop} {W V : World} {X k : Nat} {v : Value} {R : List (Nat × List Value)} {vs : List Value} (h : NsS W X k v R vs) (hf : FrS S W V) (hS : ∀ q, S q → q ≤ X ∨ W.heap.size ≤ q ∨ v.ownBlock = some q) : NsS V X k v R vs :=
  ⟨h.len, fun i x hx => by
    obtain ⟨a, c, h1, h2, h3⟩ := h.inn i x hx
    refine ⟨a, c, h1, h2, h3.fr hf (fun g o e hs => ?_)⟩
    obtain ⟨h4, h5, h6⟩ := h.off i a x.1 c g o h1 e
    rcases hS g hs with h7 | h7 | h7
    · omega
    · omega
    · exact h6 h7, fun i a n c g o h1 e => by
    obtain ⟨h4, h5, h6⟩ := h.off i a n c g o h1 e
    exact ⟨h4, Nat.lt_of_lt_of_le h5 hf.size, h6⟩⟩
theorem NsS.add {W W3 W4 : World} {X k n c : Nat} {v v' : Value} {a : Option Addr} {U : List Value} {R : List (Nat × List Value)} {vs : List Value} (h : NsS W X k v R vs) (hu : SrcN k W (.slice a n c) n U) (hc : n ≤ c) (hs : ∀ g o, a = some ⟨g, o, none⟩ → X < g ∧ g < W.heap.size ∧ v.ownBlock ≠ some g)
    (hb3 : Below W.heap.size W W3) (hg : W3.grownBy W4 v.ownBlock) (hor : v'.ownBlock = v.ownBlock ∨ v'.ownBlock = some W3.heap.size) : NsS W4 X k v' (R ++ [(n, U)]) (vs ++ [.slice a n c]) := by
  have hf : FrS (fun q => v.ownBlock = some q) W W4 := (FrS.of hb3).grow hg (fun q e => .inl e)
  have h4 := h.fr hf (fun q e => .inr (.inr e))
  have hu4 := hu.fr hf (fun g o e hx => (hs g o e).2.2 hx)
  have hne : ∀ g, g < W.heap.size → v.ownBlock ≠ some g → v'.ownBlock ≠ some g := fun g hgl hv e => by
    rcases hor with h5 | h5
    · exact hv (h5.symm.trans e)
    · have := Option.some.inj (h5.symm.trans e)
      have := hb3.size
      omega
  have hlast : ∀ (i : Nat) (x : Value), (vs ++ [Value.slice a n c])[i]? = some x → vs[i]? = some x ∨ (i = vs.length ∧ x = .slice a n c) := fun i x hx => by
    by_cases hi : i < vs.length
    · rw [List.getElem?_append_left hi] at hx
      exact .inl hx
    · have h1 := (List.getElem?_eq_some_iff.1 hx).1
      rw [List.length_append, List.length_singleton] at h1
      rw [List.getElem?_append_right (by omega), show i - vs.length = 0 by omega] at hx
      exact .inr ⟨by omega, (Option.some.inj hx).symm⟩
  refine ⟨by rw [List.length_append, List.length_append, h.len]; rfl, fun i x hx => ?_, fun i a' n' c' g o h1 e => ?_⟩
  · by_cases hi : i < R.length
    · rw [List.getElem?_append_left hi] at hx
      obtain ⟨b, d, h1, h2, h3⟩ := h4.inn i x hx
      exact ⟨b, d, by rw [List.getElem?_append_left (by rw [h.len]; exact hi)]; exact h1, h2, h3⟩
    · have h1 := (List.getElem?_eq_some_iff.1 hx).1
      rw [List.length_append, List.length_singleton] at h1
      have hi' : i = R.length := by omega
      rw [List.getElem?_append_right (by omega), show i - R.length = 0 by omega] at hx
      obtain rfl := Option.some.inj hx
      exact ⟨a, c, by rw [List.getElem?_append_right (by rw [h.len]; omega), show i - vs.length = 0 by rw [h.len]; omega]; rfl, hc, hu4⟩
  · rcases hlast i _ h1 with h2 | ⟨-, h2⟩
    · obtain ⟨h5, h6, h7⟩ := h.off i a' n' c' g o h2 e
      exact ⟨h5, Nat.lt_of_lt_of_le h6 hf.size, hne g h6 h7⟩
    · injection h2 with e1 _ _
      subst e1
      obtain ⟨h5, h6, h7⟩ := hs g o e
      exact ⟨h5, Nat.lt_of_lt_of_le h6 hf.size, hne g h6 h7⟩
def cR (C : List (List Pt)) : List (Nat × List Value) := C.map fun c => (c.length, ptc c)
def dR (D : List Dl) : List (Nat × List Value) := D.map fun d => (d.m.length, AX.prc d.m)
/-- Contours with their capacities. -/
def CkAt (W : World) (v : Value) (C : List (List Pt)) : Prop := ∃ vs : List Value, SrcN 1 W v C.length vs ∧ ∀ (i : Nat) (c : List Pt), C[i]? = some c → ∃ a k, vs[i]? = some (Value.slice a c.length k) ∧ c.length ≤ k ∧ PtAt W (.slice a c.length k) c
theorem CkAt.cs {W : World} {v : Value} {C : List (List Pt)} (h : CkAt W v C) : CsAt W v C := by
  obtain ⟨vs, h1, h2⟩ := h
  exact ⟨vs, h1, fun i c hc => by obtain ⟨a, k, h3, -, h4⟩ := h2 i c hc; exact ⟨a, k, h3, h4⟩⟩
theorem NsS.ck {W : World} {X : Nat} {v w : Value} {C : List (List Pt)} {vs : List Value} (h : NsS W X 3 w (cR C) vs) (hv : SrcN 1 W v C.length vs) : CkAt W v C := by
  refine ⟨vs, hv, fun i c hc => ?_⟩
  obtain ⟨a, k, h1, h2, h3⟩ := h.inn i (c.length, ptc c) (by unfold cR; rw [List.getElem?_map, hc]; rfl)
  exact ⟨a, k, h1, h2, h3⟩
theorem NsS.ds {W : World} {X : Nat} {v w : Value} {D : List Dl} {vs : List Value} (h : NsS W X 2 w (dR D) vs) (hv : SrcN 3 W v D.length ((D.zip vs).flatMap dlv)) : DsAt W v D := by
  refine ⟨vs, by rw [h.len]; unfold dR; rw [List.length_map], hv, fun i d hd => ?_⟩
  obtain ⟨a, k, h1, h2, h3⟩ := h.inn i (d.m.length, AX.prc d.m) (by unfold dR; rw [List.getElem?_map, hd]; rfl)
  exact ⟨a, k, h1, h3⟩
end Go.Proofs.Ytanppbdlcinpfaa
end
