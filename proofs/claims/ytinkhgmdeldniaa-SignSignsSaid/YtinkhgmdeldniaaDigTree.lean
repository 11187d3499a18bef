/- Texts merged: DigProof, DigTree. No conditions. -/
import Derived.Test.YtinkhgmdeldniaaDigRoot
import Derived.Test.YtinkhgmdeldniaaXorOne
/- The contract of digest.Proof. -/
section
namespace Go.Proofs.Ytinkhgmdeldniaa.DG
set_option maxRecDepth 100000
/-- The place beside i. -/
def beside (i : Nat) : Nat := if i % 2 = 0 then i + 1 else i - 1
/-- The neighbour at level k. -/
def nbr (L : List ByteArray) (i k : Nat) : ByteArray := (lvl L k).1.getD (beside (i / 2 ^ k)) (lvl L k).2
def prf (L : List ByteArray) (i k : Nat) : List ByteArray := (List.range k).map (nbr L i)
theorem prf_succ (L : List ByteArray) (i k : Nat) : prf L i (k + 1) = prf L i k ++ [nbr L i k] := by unfold prf; rw [List.range_succ, List.map_append]; rfl
theorem prf_len (L : List ByteArray) (i k : Nat) : (prf L i k).length = k := by simp [prf]
/-- The proof of element i of a list whose tree has height h. -/
def proof (L : List ByteArray) (h : Nat) (i : Int) : List ByteArray := if 0 ≤ i ∧ i < (L.length : Int) then prf L i.toNat h else []
end Go.Proofs.Ytinkhgmdeldniaa.DG
namespace Go.Proofs.Ytinkhgmdeldniaa
set_option linter.unusedVariables false
open Go.RowKit Go.Shelf Go.Deep
attribute [local go_sem] Oper.semAt_some
/-- The caller's own blocks: the variable, and the row that it holds. -/
def OwnRow (B : Nat) (W : World) (b : Nat) : Prop := b = B ∨ ∃ ad n c, W.cell? ⟨B, 0, none⟩ = some (.slice (some ad) n c) ∧ ad.block = b
theorem ownRow_below {B n : Nat} {X Y : World} {b : Nat} (hB : B < n) (h : Below n X Y) (hb : OwnRow B Y b) : OwnRow B X b := by
  rcases hb with hb | ⟨ad, n, c, hc, hb⟩
  · exact .inl hb
  · exact .inr ⟨ad, n, c, by rw [← hc]; exact (h.cell (p := ⟨B, 0, none⟩) hB).symm, hb⟩
theorem kpO_refl (O : World → Nat → Prop) (W : World) : KpO O W W := ⟨Nat.le_refl _, fun b hb => .inl hb, fun _ _ _ _ h _ => h⟩
theorem block_of_own {v : Value} {k : Nat} (h : v.ownBlock = some k) : ∃ ad n c, v = .slice (some ad) n c ∧ ad.block = k := by
  unfold Value.ownBlock at h
  split at h
  · exact ⟨_, _, _, rfl, Option.some.inj h⟩
  · cases h
theorem not_row_type {W : World} {B : Nat} {cs : Array Value} {t e : TypeId} {fr : Nat × Nat} (h : W.heap[B]? = some (.cells cs t fr)) (hte : t ≠ e) {base size k : Nat} {v : Value} {xs : List Value} (hr : W.ownsRow base e size v k xs) : some B ≠ v.ownBlock := by
  rcases hr.2 with ⟨rfl, _⟩ | ⟨g, cap, cur, rfl, _, hgb, _⟩
  · simp [Value.ownBlock]
  · intro e'
    obtain rfl : B = g := by simpa [Value.ownBlock] using e'
    have := h.symm.trans hgb
    simp at this
    exact hte this.2.1
theorem own_not {B b : Nat} {X : World} {t : TypeId} {v : Value} (h : Boxed X B t v) (hO : ¬ OwnRow B X b) : v.ownBlock = none ∨ v.ownBlock ≠ some b := by
  cases hw : v.ownBlock with
  | none => exact .inl rfl
  | some k => exact .inr (fun e => by
      obtain ⟨ad, n, c, rfl, hk⟩ := block_of_own hw
      exact hO (.inr ⟨ad, n, c, h.cell, hk.trans (Option.some.inj e)⟩))
set_option maxRecDepth 100000 in
set_option maxHeartbeats 4000000 in
theorem proof_none (n : Nat) (nl : Nat) (a : Option Addr) (c : Nat) (i : Int) (w : World) (hi : i < 0 ∨ (nl : Int) ≤ i) :
    CallsIn Fence.wide n Try.prog 41 #[.slice a nl c, .int .i64 i] w fun e W' => e = .returned (.slice none 0 0) ∧ Below w.heap.size w W' := by
  refine callsIn_of_wp_marks Try.func41 rfl trivial ?_ rfl
  simp only [Try.ntmps41, List.size_toArray, List.length_cons, List.length_nil, Nat.reduceAdd, Nat.reduceSub, Array.replicate_succ, Array.replicate_zero, List.push_toArray, List.append_toArray, List.nil_append, List.cons_append]
  by_cases h0 : i < 0
  · gi_wp2
    exact ⟨_, results_tmp rfl _ _ _, rfl, (Below.refl _ w).alloc (Nat.le_refl _) _⟩
  · have h1 : (nl : Int) ≤ i := by omega
    gi_wp2
    exact ⟨_, results_tmp rfl _ _ _, rfl, (Below.refl _ w).alloc (Nat.le_refl _) _⟩
set_option maxRecDepth 100000 in
set_option maxHeartbeats 4000000 in
theorem proof_in (n : Nat) (hn : 3 ≤ n) (L : List ByteArray) (a : Option Addr) (c h i : Nat) (w : World) (hr : RowAt w (.slice a L.length c) (L.map Value.string)) (hL : L.length ≤ 1000000) (hs : ∀ s ∈ L, s.size < 2147483648) (hh : DG.IsH L.length h) (hi : i < L.length) :
    CallsIn Fence.wide n Try.prog 41 #[.slice a L.length c, .int .i64 (i : Int)] w fun e W' => ∃ v, e = .returned v ∧ W'.ownsRow w.heap.size 9 1 v h ((DG.prf L i h).map Value.string) ∧ Below w.heap.size w W' := by
  have h1 : 1 ≤ n := by omega
  have h20 := hh.le20 hL
  have hi0 : ¬ (i : Int) < 0 := by omega
  have hi1 : ¬ (L.length : Int) ≤ (i : Int) := by omega
  obtain ⟨i0, hif, hz0, hz1, hz2⟩ := info_parts info_string
  refine callsIn_of_wp_marks Try.func41 rfl trivial ?_ rfl
  simp only [Try.ntmps41, List.size_toArray, List.length_cons, List.length_nil, Nat.reduceAdd, Nat.reduceSub, Array.replicate_succ, Array.replicate_zero, List.push_toArray, List.append_toArray, List.nil_append, List.cons_append]
  gi_wp2_with (refine ⟨trivial, ?_⟩; gi_at_call 64; refine (callsIn_wide.2 (levels_any _ _ _ _)).mono ?_; rintro e w' ⟨rfl, rfl⟩)
  have bI := ((Boxed.new w 3 (.int .i64 (i : Int))).alloc (.cells #[.slice none 0 0] 42)).alloc (.cells #[.slice a L.length c] 42)
  have bP := (Boxed.new (w.alloc (.cells #[.int .i64 (i : Int)] 3)) 42 (.slice none 0 0)).alloc (.cells #[.slice a L.length c] 42)
  have bL := Boxed.new ((w.alloc (.cells #[.int .i64 (i : Int)] 3)).alloc (.cells #[.slice none 0 0] 42)) 42 (.slice a L.length c)
  have hB0 : Below w.heap.size w (((w.alloc (.cells #[.int .i64 (i : Int)] 3)).alloc (.cells #[.slice none 0 0] 42)).alloc (.cells #[.slice a L.length c] 42)) := (((Below.refl _ w).alloc (Nat.le_refl _) _).alloc (by simp) _).alloc (by simp; omega) _
  have hsz : (((w.alloc (.cells #[.int .i64 (i : Int)] 3)).alloc (.cells #[.slice none 0 0] 42)).alloc (.cells #[.slice a L.length c] 42)).heap.size = w.heap.size + 3 := by simp
  simp only [World.size_alloc] at bI bP bL ⊢
  generalize ((w.alloc (.cells #[.int .i64 (i : Int)] 3)).alloc (.cells #[.slice none 0 0] 42)).alloc (.cells #[.slice a L.length c] 42) = W0 at *
  have hOm : ∀ A B : World, Below W0.heap.size A B → ∀ b, OwnRow (w.heap.size + 1) B b → OwnRow (w.heap.size + 1) A b := fun A B hb b h => ownRow_below (by omega) hb h
  have hO0 : ∀ b, OwnRow (w.heap.size + 1) W0 b → b = w.heap.size + 1 := fun b hb => by
    rcases hb with hb | ⟨ad, n, c, hc, _⟩
    · exact hb
    · rw [bP.cell] at hc
      cases hc
  have hrow0 : RowO (OwnRow (w.heap.size + 1)) W0 a L := rowO_arg hr hB0 (fun g hg => by have := hO0 g hg; omega)
  refine range_given rfl h1 (gf := 79) (lb := #[.pointer (some ⟨w.heap.size + 1 + 1, 0, none⟩)]) rfl trivial (enters_of Try.func79 (by kernel_rfl) rfl)
    (levels_given (n - 1) (by omega) (w.heap.size + 1 + 1) (OwnRow (w.heap.size + 1)) L a c h W0 hL hs hh (by omega) hOm (fun b hb => by have := hO0 b hb; omega) bL.cell hrow0)
    KpO.trans (fun W l o o' hl ho hc hw => kpO_put hOm W l o o' hl ho hc hw) (Below.refl _ _) (fun _ => rfl)
    (fun pre W => ((∃ v, Boxed W (w.heap.size + 1) 42 v ∧ W.ownsRow w.heap.size 9 1 v (min pre.length h) ((DG.prf L i (min pre.length h)).map Value.string) ∧ True) ∧ Boxed W w.heap.size 3 (.int .i64 (i : Int)) ∧ Boxed W (w.heap.size + 2) 42 (.slice a L.length c)) ∧ Below w.heap.size w W)
    (fun _ _ _ => False)
    (OwnFrom.and (OwnFrom.and (Own.from (holdsRow_own w.heap.size (w.heap.size + 1) 42 9 1 (fun pre : List LvX => min pre.length h) (fun pre : List LvX => (DG.prf L i (min pre.length h)).map Value.string) (fun _ _ => True)) _) (OwnFrom.and (Own.from (boxed_own _ _ _) _) (Own.from (boxed_own _ _ _) _))) (ownFrom_below (Nat.le_refl _) (by omega)))
    (fun _ _ _ _ _ hs _ _ => hs)
    (fun pre X Y b hs hg hb hO _ => by
      obtain ⟨⟨⟨v, h1, h2, _⟩, h3, h4⟩, h5⟩ := hs
      exact ⟨⟨⟨v, h1.kept hg (fun e => hO (.inl (Option.some.inj e).symm)), h2.kept hg (own_not h1 hO), trivial⟩, h3.kept hg (fun e => by have := Option.some.inj e; omega), h4.kept hg (fun e => by have := Option.some.inj e; omega)⟩, h5.grown hg h5.size (fun k e => by cases e; omega)⟩)
    (fun _ _ _ _ _ hs _ _ _ _ => hs)
    ⟨⟨⟨_, bP, by rw [List.length_nil, Nat.zero_min]; exact World.ownsRow_nil _ _ _ _, trivial⟩, bI, bL⟩, hB0⟩
    (fun pre x a' W => ∃ Bx, w.heap.size + 2 < Bx ∧ W.heap[Bx]? = some (.cells #[.slice x.a x.E.length x.c, .string x.f, .int .i64 (x.m : Int)] 84 (0, 0)) ∧ (x.k = pre.length ∧ x.k ≤ h ∧ x.E = (DG.lvl L x.k).1 ∧ x.f = (DG.lvl L x.k).2 ∧ x.m = 2 ^ (h - x.k)) ∧ RowAt W (.slice x.a x.E.length x.c) (x.E.map Value.string) ∧
      a' = { tmps := #[.slice a L.length c, .int .i64 (i : Int), undef, .pointer (some ⟨w.heap.size, 0, none⟩), .slice none 0 0, .pointer (some ⟨w.heap.size + 1, 0, none⟩), .int .i64 (x.k : Int), .pointer (some ⟨Bx, 0, none⟩), .int .i64 (i : Int), .bool false, .bool false, .int .i64 (i : Int), .slice a L.length c, .int .i64 (L.length : Int), .bool false, .bool false, .slice a L.length c, .func (.func 79) #[] #[.pointer (some ⟨w.heap.size + 1 + 1, 0, none⟩)], .int .i64 (x.k : Int), lv x.a x.E.length x.c x.f x.m, undef, undef, undef, undef, undef, undef, undef, undef, undef, undef, undef, undef, undef], defers := [] })
    (fun pre x a' _ X Y row hs hg hr => by
      obtain ⟨Bx, h1, h2, h4, h5, h6⟩ := hs
      exact ⟨Bx, h1, row_kept h2 hg (fun r e => (hr r e).2), h4, h5.grown hg (fun r e => (hr r e).2), h6⟩)
    ?assign ?body ?done ?stop
  case assign =>
    rintro l pre x W K ⟨⟨⟨v, BP, hrow, _⟩, BI, BL⟩, hB⟩ ⟨g1, g2, g3, g4, g5, g6⟩ hK
    have hsW := hB.size
    have hs2 := BL.lt
    obtain ⟨k, xa, xc, E, f, m⟩ := x
    simp only at g1 g2 g3 g4 g5 g6
    have HK := Lib.hid hK
    have HG := Lib.hid (⟨g1, g2, g3, g4, g5⟩ : k = pre.length ∧ k ≤ h ∧ E = (DG.lvl L k).1 ∧ f = (DG.lvl L k).2 ∧ m = 2 ^ (h - k))
    clear g1 g2 g3 g4 g5 hK
    simp only [lvEnc]
    gi_wp2
    exact HK.out _ _ ((KeepsOthers.alloc _ _).from _) (kpO_below hOm (by omega) ((Below.refl _ W).alloc (Nat.le_refl _) _)) ⟨⟨⟨v, BP.alloc _, hrow.alloc _, trivial⟩, BI.alloc _, BL.alloc _⟩, hB.alloc hsW _⟩ ⟨W.heap.size, by omega, World.alloc_heap_new W _, HG.out, g6.keep ((Below.refl _ W).alloc (Nat.le_refl _) _), rfl⟩
  case body =>
    rintro l pre x a' W hl ⟨r, hr⟩ ⟨⟨⟨v, BP, hrow, _⟩, BI, BL⟩, hB⟩ ⟨Bx, hBx, bX, hG, hrx, rfl⟩
    obtain ⟨k, xa, xc, E, f, m⟩ := x
    simp only at bX hG hrx
    have c0 : W.cell? ⟨Bx, 0, none⟩ = some (.slice xa E.length xc) := by simp [World.cell?, bX]
    have c1 : W.cell? ⟨Bx, 1, none⟩ = some (.string f) := by simp [World.cell?, bX]
    have c2 : W.cell? ⟨Bx, 2, none⟩ = some (.int .i64 (m : Int)) := by simp [World.cell?, bX]
    have hn1 : 1 ≤ n - 1 - 1 := by omega
    have hsW0 : W0.heap.size ≤ W.heap.size := by have := BL.lt; omega
    have hpl : (pre ++ [(⟨k, xa, xc, E, f, m⟩ : LvX)]).length = k + 1 := by rw [List.length_append, hG.1]; rfl
    by_cases hkh : k < h
    · have hmm : 1 < m := by
        rw [hG.2.2.2.2]
        exact Nat.one_lt_two_pow (by omega)
      have hm2 : (1 : Int) < (m : Int) := by omega
      have hEl : E.length ≤ maxLen := by
        rw [hG.2.2.1]
        have := DG.lvl_small hL k
        unfold maxLen
        omega
      have hx0 : 0 ≤ (k : Int) := by omega
      obtain ⟨q, hq⟩ : ∃ q, DG.beside (i / 2 ^ k) = q := ⟨_, rfl⟩
      have hqm : q ≤ maxLen := by
        rw [← hq]
        have := Nat.div_le_self i (2 ^ k)
        unfold DG.beside maxLen
        split <;> omega
      have hat : ∀ V, Below W.heap.size W V → Calls Try.prog 65 #[lv xa E.length xc f m, .int .i64 (q : Int)] V fun e w' => e = .returned (.string (E.getD q f)) ∧ Below W.heap.size W w' := fun V hV => (at_any xa xc E f m q V (hrx.keep hV) hEl hqm).mono fun e w' h => ⟨h.1, bnext hV h.2⟩
      have hval : E.getD q f = DG.nbr L i k := by unfold DG.nbr; rw [hG.2.2.1, hG.2.2.2.1, ← hq]
      obtain ⟨z, hz⟩ : ∃ z, DG.nbr L i k = z := ⟨_, rfl⟩
      rw [hval, hz] at hat
      have hxor : bits BinOp.xor IntKind.i64 ((i : Int) / 2 ^ k) 1 = (q : Int) := by
        rw [show ((i : Int) / 2 ^ k) = ((i / 2 ^ k : Nat) : Int) by rw [Int.natCast_ediv]; push_cast; rfl, xor_one _ (by have := Nat.div_le_self i (2 ^ k); omega), xor_one_nat, ← hq]
        rfl
      have HQ : Hid (min (k + 1) h = min pre.length h + 1 ∧ DG.prf L i (min pre.length h + 1) = DG.prf L i (min pre.length h) ++ [z]) := Lib.hid ⟨by have := hG.1; omega, by rw [DG.prf_succ, ← hz, show min pre.length h = k by have := hG.1; omega]⟩
      obtain ⟨cn, hcn⟩ : ∃ cn, min pre.length h = cn := ⟨_, rfl⟩
      rw [hcn] at HQ hrow
      have hcn20 : cn ≤ 20 := by omega
      obtain ⟨va, vc, rfl⟩ := own_shape hrow
      have HAT := Lib.hid hat
      have HXOR := Lib.hid hxor
      have HROW := Lib.hid hrow
      have HBP := Lib.hid BP
      have HBI := Lib.hid BI
      have HBL := Lib.hid BL
      have HHB := Lib.hid hB
      clear hat hval hz hxor hcn hq hrow hEl hrx hB
      have c3 := BP.cell
      have c4 := BI.cell
      have HKS : Hid (∀ V, Below W.heap.size W V → (V.cell? ⟨Bx, 0, none⟩ = some (.slice xa E.length xc) ∧ V.cell? ⟨Bx, 1, none⟩ = some (.string f) ∧ V.cell? ⟨Bx, 2, none⟩ = some (.int .i64 (m : Int))) ∧ V.cell? ⟨w.heap.size + 1, 0, none⟩ = some (.slice va cn vc) ∧ V.cell? ⟨w.heap.size, 0, none⟩ = some (.int .i64 (i : Int))) := Lib.hid fun V hV => by
        have hx := (hV.block Bx (Array.getElem?_eq_some_iff.1 bX).1).trans bX
        exact ⟨⟨by simp [World.cell?, hx], by simp [World.cell?, hx], by simp [World.cell?, hx]⟩, (boxed_below BP hV).cell, (boxed_below BI hV).cell⟩
      have HPL := Lib.hid hpl
      have HG := Lib.hid hG
      have HBX := Lib.hid bX
      clear hpl hmm hG hr bX BP BI BL
      have hxor := HXOR.out
      gi_wp2
      refine wpIn_region_last #[{ dst := some 23, op := Op.load 42 (Operand.tmp 5), type := 42, pos := "digest.go:104", after := #[], guard := none }, { dst := some 24, op := Op.load 84 (Operand.tmp 7), type := 84, pos := "digest.go:104", after := #[], guard := none }, { dst := some 25, op := Op.load 3 (Operand.tmp 3), type := 3, pos := "digest.go:104", after := #[], guard := none }, { dst := some 26, op := Op.move (Operand.tmp 6), type := 3, pos := "digest.go:104", after := #[], guard := none }, { dst := some 27, op := Op.binOp BinOp.shr 3 (Operand.tmp 25) (Operand.tmp 26) 3, type := 3, pos := "digest.go:104", after := #[{ on := 2, ground := Ground.data }, { on := 3, ground := Ground.data }], guard := none }, { dst := some 28, op := Op.binOp BinOp.xor 3 (Operand.tmp 27) (Operand.const (Value.int IntKind.i64 1)) 3, type := 3, pos := "digest.go:104", after := #[{ on := 4, ground := Ground.data }], guard := none }, { dst := some 29, op := Op.call { callee := Callee.value (Operand.func 65), args := #[Operand.tmp 24, Operand.tmp 28], argTypes := #[84, 3] }, type := 9, pos := "digest.go:104", after := #[{ on := 1, ground := Ground.data }, { on := 5, ground := Ground.data }], guard := none }, { dst := some 30, op := Op.buildSlice 42 1 #[(0, Operand.tmp 29)], type := 42, pos := "digest.go:104", after := #[{ on := 6, ground := Ground.data }], guard := none }, { dst := some 31, op := Op.call { callee := Callee.builtin Builtin.append, args := #[Operand.tmp 23, Operand.tmp 30], argTypes := #[42, 42] }, type := 42, pos := "digest.go:104", after := #[{ on := 0, ground := Ground.data }, { on := 7, ground := Ground.data }, { on := 6, ground := Ground.chain }], guard := none }] { dst := none, op := Op.store 42 (Operand.tmp 5) (Operand.tmp 31), type := 0, pos := "digest.go:104", after := #[{ on := 8, ground := Ground.data }, { on := 8, ground := Ground.chain }, { on := 0, ground := Ground.phase }, { on := 1, ground := Ground.phase }, { on := 2, ground := Ground.phase }, { on := 3, ground := Ground.phase }, { on := 4, ground := Ground.phase }, { on := 5, ground := Ground.phase }, { on := 6, ground := Ground.phase }, { on := 7, ground := Ground.phase }, { on := 8, ground := Ground.phase }], guard := none } rfl (by kernel_rfl) (by kernel_rfl) (by kernel_rfl) (fun w' => (w'.cell? ⟨Bx, 0, none⟩ = some (.slice xa E.length xc) ∧ w'.cell? ⟨Bx, 1, none⟩ = some (.string f) ∧ w'.cell? ⟨Bx, 2, none⟩ = some (.int .i64 (m : Int))) ∧ w'.cell? ⟨w.heap.size + 1, 0, none⟩ = some (.slice va cn vc) ∧ w'.cell? ⟨w.heap.size, 0, none⟩ = some (.int .i64 (i : Int))) ?_ (fun hHeld => ?_)
      · first | (refine HKS.out _ ?_; (repeat' (first | exact Below.refl _ _ | (with_reducible assumption) | (refine bnext ?_ (by with_reducible assumption)) | (refine balloc ?_ _) | (refine below_drewN ?_ _) | (refine Below.drew ?_))); done) | exact hS1
      refine wpAnyH_take (i := 0) (oi := { dst := some 23, op := Op.load 42 (Operand.tmp 5), type := 42, pos := "digest.go:104", after := #[], guard := none }) (v := ?_) rfl (by kernel_rfl) (by kernel_rfl) (by kernel_rfl) (fun _ _ _ h => h) (Or.inl ⟨by rfl, ?_⟩) (by assumption) ?_
      rotate_left
      · ((intro w hSw; (try dsimp only at hSw); go_simp); try with_reducible rfl)
      (try simp only [Act.put, List.setIfInBounds_toArray, List.set_cons_zero, List.set_cons_succ])
      refine wpAnyH_take (i := 1) (oi := { dst := some 24, op := Op.load 84 (Operand.tmp 7), type := 84, pos := "digest.go:104", after := #[], guard := none }) (v := ?_) rfl (by kernel_rfl) (by kernel_rfl) (by kernel_rfl) (fun _ _ _ h => h) (Or.inl ⟨by rfl, ?_⟩) (by assumption) ?_
      rotate_left
      · ((intro w hSw; (try dsimp only at hSw); go_simp); try with_reducible rfl)
      (try simp only [Act.put, List.setIfInBounds_toArray, List.set_cons_zero, List.set_cons_succ])
      refine wpAnyH_take (i := 2) (oi := { dst := some 25, op := Op.load 3 (Operand.tmp 3), type := 3, pos := "digest.go:104", after := #[], guard := none }) (v := ?_) rfl (by kernel_rfl) (by kernel_rfl) (by kernel_rfl) (fun _ _ _ h => h) (Or.inl ⟨by rfl, ?_⟩) (by assumption) ?_
      rotate_left
      · ((intro w hSw; (try dsimp only at hSw); go_simp); try with_reducible rfl)
      (try simp only [Act.put, List.setIfInBounds_toArray, List.set_cons_zero, List.set_cons_succ])
      refine wpAnyH_take (i := 3) (oi := { dst := some 26, op := Op.move (Operand.tmp 6), type := 3, pos := "digest.go:104", after := #[], guard := none }) (v := ?_) rfl (by kernel_rfl) (by kernel_rfl) (by kernel_rfl) (fun _ _ _ h => h) (Or.inl ⟨by rfl, ?_⟩) (by assumption) ?_
      rotate_left
      · ((intro w hSw; (try dsimp only at hSw); go_simp); try with_reducible rfl)
      (try simp only [Act.put, List.setIfInBounds_toArray, List.set_cons_zero, List.set_cons_succ])
      refine wpAnyH_take (i := 4) (oi := { dst := some 27, op := Op.binOp BinOp.shr 3 (Operand.tmp 25) (Operand.tmp 26) 3, type := 3, pos := "digest.go:104", after := #[{ on := 2, ground := Ground.data }, { on := 3, ground := Ground.data }], guard := none }) (v := ?_) rfl (by kernel_rfl) (by kernel_rfl) (by kernel_rfl) (fun _ _ _ h => h) (Or.inl ⟨by rfl, ?_⟩) (by assumption) ?_
      rotate_left
      · ((intro w hSw; (try dsimp only at hSw); go_simp); try with_reducible rfl)
      (try simp only [Act.put, List.setIfInBounds_toArray, List.set_cons_zero, List.set_cons_succ])
      refine wpAnyH_take (i := 5) (oi := { dst := some 28, op := Op.binOp BinOp.xor 3 (Operand.tmp 27) (Operand.const (Value.int IntKind.i64 1)) 3, type := 3, pos := "digest.go:104", after := #[{ on := 4, ground := Ground.data }], guard := none }) (v := ?_) rfl (by kernel_rfl) (by kernel_rfl) (by kernel_rfl) (fun _ _ _ h => h) (Or.inl ⟨by rfl, ?_⟩) (by assumption) ?_
      rotate_left
      · ((intro w hSw; (try dsimp only at hSw); go_simp); try with_reducible rfl)
      (try simp only [Act.put, List.setIfInBounds_toArray, List.set_cons_zero, List.set_cons_succ])
      refine wpAnyH_ready (rs := [6]) (by kernel_rfl) (by simp) ?_
      refine AllReadyH.cons (o := { dst := some 29, op := Op.call { callee := Callee.value (Operand.func 65), args := #[Operand.tmp 24, Operand.tmp 28], argTypes := #[84, 3] }, type := 9, pos := "digest.go:104", after := #[{ on := 1, ground := Ground.data }, { on := 5, ground := Ground.data }], guard := none }) rfl (fun K hK => ?_) AllReadyH.nil
      (go_simp; go_at_call 65; refine (HAT.out _ (by (repeat' (first | exact Below.refl _ _ | (with_reducible assumption) | (refine bnext ?_ (by with_reducible assumption)) | (refine balloc ?_ _) | (refine below_drewN ?_ _) | (refine Below.drew ?_))))).mono ?_; rintro e w4 ⟨rfl, hb4⟩; have HROW4 := Lib.hid (own_kept HROW.out hb4); have hs4 := hb4.size; dsimp only)
      refine hK.out _ _ ?_ (fun hHeld => ?_)
      · first | (refine HKS.out _ ?_; (repeat' (first | exact Below.refl _ _ | (with_reducible assumption) | (refine bnext ?_ (by with_reducible assumption)) | (refine balloc ?_ _) | (refine below_drewN ?_ _) | (refine Below.drew ?_))); done) | exact hS1
      clear hK K
      (try simp only [Act.put, List.setIfInBounds_toArray, List.set_cons_zero, List.set_cons_succ])
      refine wpAnyH_ready (rs := [7]) (by kernel_rfl) (by simp) ?_
      refine AllReadyH.cons (o := { dst := some 30, op := Op.buildSlice 42 1 #[(0, Operand.tmp 29)], type := 42, pos := "digest.go:104", after := #[{ on := 6, ground := Ground.data }], guard := none }) rfl (fun K hK => ?_) AllReadyH.nil
      go_simp
      refine hK.out _ _ ?_ (fun hHeld => ?_)
      · first | (refine HKS.out _ ?_; (repeat' (first | exact Below.refl _ _ | (with_reducible assumption) | (refine bnext ?_ (by with_reducible assumption)) | (refine balloc ?_ _) | (refine below_drewN ?_ _) | (refine Below.drew ?_))); done) | exact hS1
      clear hK K
      (try simp only [Act.put, List.setIfInBounds_toArray, List.set_cons_zero, List.set_cons_succ])
      refine wpAnyH_ready (rs := [8]) (by kernel_rfl) (by simp) ?_
      refine AllReadyH.cons (o := { dst := some 31, op := Op.call { callee := Callee.builtin Builtin.append, args := #[Operand.tmp 23, Operand.tmp 30], argTypes := #[42, 42] }, type := 42, pos := "digest.go:104", after := #[{ on := 0, ground := Ground.data }, { on := 7, ground := Ground.data }, { on := 6, ground := Ground.chain }], guard := none }) rfl (fun K hK => ?_) AllReadyH.nil
      (refine step_append_lies _ (by rfl) _ _ _ (by rfl) w.heap.size 9 i0 _ 1 16 Try.underlying42 hif hz0 hz1 hz2 rfl (by omega) (.slice va cn vc) _ _ (by rfl) (HROW4.out.alloc _) ⟨w4.heap.size, 0, none⟩ 1 1 [.string z] (by rfl) (by rfl) (World.news_of_block (cs := #[.string z]) (t := 9) (fr := (0, 0)) (heap_alloc_new w4 _)) (by simp [Value.oneCell']) (by omega) (by unfold maxLen; omega) (by omega) (by have := HHB.out.size; simp; omega) (w4.heap.size + 1) (by simp) ?_; intro gg cap' w1 hown1 hgrow hat hlt; obtain ⟨hv1, hv2, hr2, hk2, hb2⟩ := (boxed_below HBP.out hb4).appended (by decide) HROW4.out (Nat.le_trans HHB.out.size hs4) (Nat.le_succ _) hown1 hgrow; have hI1 := ((boxed_below HBI.out hb4).alloc _).kept hgrow ((boxed_below HBI.out hb4).not_row (by decide) HROW4.out); have hL1 := ((boxed_below HBL.out hb4).alloc _).kept hgrow ((boxed_below HBL.out hb4).not_row (by decide) HROW4.out); have hX1 := (hgrow.block Bx (by have := (Array.getElem?_eq_some_iff.1 HBX.out).1; simp; omega) (not_row_type ((hb4.block Bx (Array.getElem?_eq_some_iff.1 HBX.out).1).trans HBX.out) (by decide) HROW4.out)).trans ((Below.heap_alloc _ _ Bx (by have := (Array.getElem?_eq_some_iff.1 HBX.out).1; omega)).trans ((hb4.block Bx (Array.getElem?_eq_some_iff.1 HBX.out).1).trans HBX.out)); have hS1 : (w1.cell? ⟨Bx, 0, none⟩ = some (.slice xa E.length xc) ∧ w1.cell? ⟨Bx, 1, none⟩ = some (.string f) ∧ w1.cell? ⟨Bx, 2, none⟩ = some (.int .i64 (m : Int))) ∧ w1.cell? ⟨w.heap.size + 1, 0, none⟩ = some (.slice va cn vc) ∧ w1.cell? ⟨w.heap.size, 0, none⟩ = some (.int .i64 (i : Int)) := (⟨⟨by simp [World.cell?, hX1], by simp [World.cell?, hX1], by simp [World.cell?, hX1]⟩, hv1.cell, hI1.cell⟩))
      refine hK.out _ _ ?_ (fun hHeld => ?_)
      · first | (refine HKS.out _ ?_; (repeat' (first | exact Below.refl _ _ | (with_reducible assumption) | (refine bnext ?_ (by with_reducible assumption)) | (refine balloc ?_ _) | (refine below_drewN ?_ _) | (refine Below.drew ?_))); done) | exact hS1
      clear hK K
      (try simp only [Act.put, List.setIfInBounds_toArray, List.set_cons_zero, List.set_cons_succ])
      refine wpAnyH_done (by kernel_rfl) ?_ _
      show Oper.wp _ _ _ _ _ _
      have hc1 := hv1.cell
      have hf1 := hv1.frozen
      have HG1 := Lib.hid hgrow
      have HW1 := Lib.hid hown1
      clear hgrow hown1
      have hs5 := HG1.out.size
      have hh5 := hat
      have hsz1 : (w4.alloc (Obj.cells #[Value.string z] 9)).heap.size = w4.heap.size + 1 := World.size_alloc _ _
      have hset := (grownBy_setCell' w1 (w.heap.size + 1) (.slice (some ⟨gg, 0, none⟩) (cn + 1) cap')).size
      have hlt' := hlt
      have HP2 : Hid (KpO (OwnRow (w.heap.size + 1)) W (w1.setCell ⟨w.heap.size + 1, 0, none⟩ (.slice (some ⟨gg, 0, none⟩) (cn + 1) cap'))) := Lib.hid (by
        refine ⟨by omega, fun b hb => ?_, fun b cs t fr hb hn => ?_⟩
        · rcases hb with hb | ⟨ad, n', c', hc, hb⟩
          · exact .inl (.inl hb)
          · rw [hv2.cell] at hc
            obtain ⟨rfl⟩ : some ad = some (⟨gg, 0, none⟩ : Addr) := by
              injection hc with hc
              injection hc with hc
              exact hc.symm
            simp only at hb
            subst hb
            rcases hh5 with e | e
            · exact .inl (.inr (by
                obtain ⟨ad', n'', c'', h1', h2'⟩ := block_of_own e
                exact ⟨ad', n'', c'', by rw [← h1']; exact HBP.out.cell, h2'⟩))
            · exact .inr ⟨by omega, by omega⟩
        · have hlt2 := (Array.getElem?_eq_some_iff.1 hb).1
          rw [Below.heap_setCell _ _ _ _ (fun e => hn (.inl e)), HG1.out.block b (by omega) (fun e => hn (.inr (by
            obtain ⟨ad', n'', c'', h1', h2'⟩ := block_of_own e.symm
            exact ⟨ad', n'', c'', by rw [← h1']; exact HBP.out.cell, h2'⟩)))]
          exact (Below.heap_alloc _ _ b (by omega)).trans ((hb4.block b hlt2).trans hb))
      have HK3 : Hid (KeepsOthers W (w1.setCell ⟨w.heap.size + 1, 0, none⟩ (.slice (some ⟨gg, 0, none⟩) (cn + 1) cap'))) := Lib.hid ((below_keeps hb4).trans hk2)
      have HI3 : Hid (Boxed (w1.setCell ⟨w.heap.size + 1, 0, none⟩ (.slice (some ⟨gg, 0, none⟩) (cn + 1) cap')) w.heap.size 3 (.int .i64 (i : Int)) ∧ Boxed (w1.setCell ⟨w.heap.size + 1, 0, none⟩ (.slice (some ⟨gg, 0, none⟩) (cn + 1) cap')) (w.heap.size + 2) 42 (.slice a L.length c)) := Lib.hid ⟨hI1.other (by omega) _, hL1.other (by omega) _⟩
      have HB3 : Hid (Below w.heap.size w (w1.setCell ⟨w.heap.size + 1, 0, none⟩ (.slice (some ⟨gg, 0, none⟩) (cn + 1) cap'))) := Lib.hid ((bnext HHB.out hb4).trans hb2)
      have HV2 := Lib.hid hv2
      have HR2 := Lib.hid hr2
      clear hv2 hr2 hk2 hb2 hI1 hL1 hX1 hh5 hat hlt hlt' hset hs5 hsz1
      go_simp
      show _ ∧ _ ∧ _
      refine ⟨HK3.out.from _, HP2.out, ⟨⟨_, HV2.out, ?_⟩, HI3.out.1, HI3.out.2⟩, HB3.out⟩
      rw [HPL.out, HQ.out.1, HQ.out.2, List.map_append]
      exact ⟨HR2.out, trivial⟩
    · have hmm : m = 1 := by rw [hG.2.2.2.2, show h - k = 0 by omega]
      have hm2 : ¬ (1 : Int) < (m : Int) := by omega
      have hkk : k = h := by omega
      have HPL := Lib.hid hpl
      have HG := Lib.hid hG
      have HKK := Lib.hid hkk
      clear hpl hmm hG hkk hr
      gi_wp2
      refine ⟨KeepsFrom.refl _ _, kpO_refl _ _, ⟨⟨v, BP, ?_⟩, BI, BL⟩, hB⟩
      rw [HPL.out, show min (k + 1) h = min pre.length h by have := HG.out.1; have := HKK.out; omega]
      exact hrow
  case done =>
    rintro D xs W hD hlen ⟨⟨⟨v, BP, hrow, _⟩, BI, BL⟩, hB⟩ hK
    rw [hlen, show min (h + 1) h = h by omega] at hrow
    have hc := BP.cell
    gi_wp2
    refine ⟨by simp, .inl ⟨_, _, rfl, run_takeDeferred hK, ?_⟩⟩
    exact ⟨_, results_tmp rfl _ _ _, v, rfl, ownsRow_putObj hrow _ hK rfl, hB.trans (belowK_b (w := w) (Nat.le_refl _) W D _ _ (by omega) hK rfl rfl)⟩
  case stop =>
    rintro D c pre W _ _ h _
    exact h.elim
theorem proof_any (L : List ByteArray) (a : Option Addr) (c h : Nat) (i : Int) (w : World) (hr : RowAt w (.slice a L.length c) (L.map Value.string)) (hL : L.length ≤ 1000000) (hs : ∀ s ∈ L, s.size < 2147483648) (hh : DG.IsH L.length h) :
    Calls Try.prog 41 #[.slice a L.length c, .int .i64 i] w fun e W' => ∃ v, e = .returned v ∧ W'.ownsRow w.heap.size 9 1 v (DG.proof L h i).length ((DG.proof L h i).map Value.string) ∧ Below w.heap.size w W' := by
  by_cases hi : 0 ≤ i ∧ i < (L.length : Int)
  · obtain ⟨k, rfl⟩ : ∃ k : Nat, i = (k : Int) := ⟨i.toNat, by omega⟩
    have hp : DG.proof L h (k : Int) = DG.prf L k h := by unfold DG.proof; rw [if_pos hi]; rfl
    rw [hp, DG.prf_len]
    exact callsIn_wide.1 (proof_in 3 (Nat.le_refl _) L a c h k w hr hL hs hh (by omega))
  · have hp : DG.proof L h i = [] := by unfold DG.proof; rw [if_neg hi]
    rw [hp]
    exact (callsIn_wide.1 (proof_none 3 L.length a c i w (by omega))).mono fun e W' h => ⟨_, h.1, World.ownsRow_nil _ _ _ _, h.2⟩
theorem rootP_any (L : List ByteArray) (a : Option Addr) (c h : Nat) (w : World) (hr : RowAt w (.slice a L.length c) (L.map Value.string)) (hL : L.length ≤ 1000000) (hs : ∀ s ∈ L, s.size < 2147483648) (hh : DG.IsH L.length h) :
    Calls Try.prog 34 #[.slice a L.length c] w fun e W' => e = .returned (.string (DG.root L h)) ∧ Below w.heap.size w W' :=
  callsIn_wide.1 (rootP_in 3 (Nat.le_refl _) L a c h w hr hL hs hh)
end Go.Proofs.Ytinkhgmdeldniaa
end
/- Plain facts: the whole tree, filled up. No conditions. -/
section
namespace Go.Proofs.Ytinkhgmdeldniaa.DG
set_option maxRecDepth 100000
/-- Level k of the tree of height h, filled up. -/
def T (L : List ByteArray) (h k : Nat) : List ByteArray := (lvl L k).1 ++ List.replicate (2 ^ (h - k) - (lvl L k).1.length) (lvl L k).2
theorem half {h k : Nat} (hk : k < h) : 2 ^ (h - k) = 2 * 2 ^ (h - (k + 1)) := by
  rw [show h - k = h - (k + 1) + 1 by omega, Nat.pow_succ]
  omega
theorem lvl_fits {L : List ByteArray} {h : Nat} (hh : IsH L.length h) : ∀ k, k ≤ h → (lvl L k).1.length ≤ 2 ^ (h - k)
  | 0, _ => hh.1
  | k + 1, hk => by
    have := lvl_fits hh k (by omega)
    rw [half (by omega)] at this
    simp only [lvl, ufs_len]
    omega
theorem T_len {L : List ByteArray} {h k : Nat} (hh : IsH L.length h) (hk : k ≤ h) : (T L h k).length = 2 ^ (h - k) := by
  have := lvl_fits hh k hk
  simp only [T, List.length_append, List.length_replicate]
  omega
theorem pad_get {E : List ByteArray} {f d : ByteArray} {n j : Nat} (hj : j < n) : (E ++ List.replicate (n - E.length) f).getD j d = E.getD j f := by
  by_cases hE : j < E.length
  · simp [List.getD, List.getElem?_append_left hE, hE]
  · have h2 : j - E.length < n - E.length := by omega
    simp [List.getD, List.getElem?_append_right (Nat.le_of_not_lt hE), hE, List.getElem?_replicate, h2]
theorem T_get {L : List ByteArray} {h k j : Nat} {d : ByteArray} (hj : j < 2 ^ (h - k)) : (T L h k).getD j d = (lvl L k).1.getD j (lvl L k).2 := pad_get hj
theorem prs_pad {E : List ByteArray} {f : ByteArray} {m : Nat} (hE : E.length ≤ 2 * m) : prs (E ++ List.replicate (2 * m - E.length) f) m = ufs f E ((E.length + 1) / 2) ++ List.replicate (m - (E.length + 1) / 2) (Pair f f) := by
  apply List.ext_getElem
  · simp [prs, ufs]
    omega
  · intro i h1 h2
    have hi : i < m := by simpa [prs] using h1
    simp only [prs, List.getElem_map, List.getElem_range, pr]
    rw [pad_get (by omega), pad_get (by omega)]
    by_cases hc : i < (E.length + 1) / 2
    · rw [List.getElem_append_left (by simpa [ufs] using hc)]
      simp [ufs, uf]
    · rw [List.getElem_append_right (by simp [ufs]; omega)]
      have e1 : ¬ 2 * i < E.length := by omega
      have e2 : ¬ 2 * i + 1 < E.length := by omega
      simp [List.getD, e1, e2]
theorem T_next {L : List ByteArray} {h k : Nat} (hh : IsH L.length h) (hk : k < h) : prs (T L h k) (2 ^ (h - (k + 1))) = T L h (k + 1) := by
  have := lvl_fits hh k (by omega)
  rw [half hk] at this
  unfold T
  rw [half hk, prs_pad this]
  simp only [lvl, ufs_len]
theorem T_top {L : List ByteArray} {h : Nat} {d : ByteArray} : (T L h h).getD 0 d = top L h := by
  rw [T_get (by simp)]
  rfl
theorem beside_lt {h k i : Nat} (hk : k < h) (hi : i < 2 ^ h) : beside (i / 2 ^ k) < 2 ^ (h - k) := by
  have h1 : i / 2 ^ k < 2 ^ (h - k) := by
    rw [Nat.div_lt_iff_lt_mul (Nat.two_pow_pos k), ← Nat.pow_add, show h - k + k = h by omega]
    exact hi
  rw [half hk] at h1 ⊢
  generalize i / 2 ^ k = q at h1 ⊢
  generalize 2 ^ (h - (k + 1)) = m at h1 ⊢
  unfold beside
  split <;> omega
theorem T_nbr {L : List ByteArray} {h k i : Nat} {d : ByteArray} (hk : k < h) (hi : i < 2 ^ h) : (T L h k).getD (beside (i / 2 ^ k)) d = nbr L i k := by
  rw [T_get (beside_lt hk hi)]
  rfl
theorem T_sizes {L : List ByteArray} (hs : ∀ s ∈ L, s.size < 2147483648) (h k : Nat) : ∀ s ∈ T L h k, s.size < 2147483648 := by
  intro s hm
  obtain ⟨h1, h2⟩ := lvl_sizes hs k
  rcases List.mem_append.1 hm with hm | hm
  · exact h1 s hm
  · rw [(List.mem_replicate.1 hm).2]; exact h2
theorem T_zero {L : List ByteArray} {h : Nat} : T L h 0 = L ++ List.replicate (2 ^ h - L.length) ⟨#[]⟩ := rfl
end Go.Proofs.Ytinkhgmdeldniaa.DG
end
