/- Texts merged: Range, DigLvs, DigRoot. No conditions. -/
import Derived.Test.YtinkhgmdeldniaaApp
import Derived.RangeFuncNested
import Derived.RangeFuncBound
import Derived.RangeFuncCalls
import Derived.RangeFuncLeaves
import Derived.Test.YtinkhgmdeldniaaDigNext
import Derived.Shelf.Abstract
import Derived.Shelf.RegionOpen
import Derived.WalkKit
import Derived.OwnWalkIn
import Derived.TacticsInMore
import Derived.LoopNIn
import Derived.LoopIn
import Derived.WalkMore
import Derived.Maps.AppendAt
/- A range over an iterator whose rounds are told something of what they are handed (in the world in which they are handed it). No conditions. -/
section
namespace Go.Proofs.Ytinkhgmdeldniaa
set_option maxRecDepth 100000
set_option linter.unusedVariables false
open Go.RowKit
variable {F : Fence} {n : Nat} {P : Program}
/-- What abides a turn of any block of cells that lies at or beyond B and is none of the caller's own (O). -/
def AbidesOwn {β : Type} (B : Nat) (O : World → Nat → Prop) (J : β → World → Prop) : Prop := ∀ s (X Y : World) (b : Nat), J s X → X.grownBy Y (some b) → B ≤ b → ¬ O X b → (∃ cs t fr, X.heap[b]? = some (.cells cs t fr)) → J s Y
/-- The contract of an iterator: each round is told G of what has come, what comes and the world. -/
def SeqGiven {α : Type} (F : Fence) (n : Nat) (P : Program) (g : Nat) (lb : Array Value) (encs : α → Array Value) (Kp : World → World → Prop) (O : World → Nat → Prop) (G : List α → α → World → Prop) (S Sp : List α → Prop) (w : World) : Prop :=
  ∀ (l : Nat) (J Jx : List α → World → Prop) (W : World), Below w.heap.size w W → AbidesFrom W.heap.size J → AbidesFrom W.heap.size Jx → AbidesOwn W.heap.size O J → AbidesOwn W.heap.size O Jx →
    (∀ pre x W1, J pre W1 → G pre x W1 → YieldAt F (n - 1) P l (encs x) W1 fun e W' =>
      (e = .returned (.bool true) ∧ J (pre ++ [x]) W' ∧ Kp W1 W') ∨ (e = .returned (.bool false) ∧ Jx (pre ++ [x]) W')) →
    J [] W →
    CallsIn F n P g (#[.func (.yield l) #[] #[]] ++ lb) W fun e W' => (∃ v, e = .returned v) ∧ ((∃ xs, S xs ∧ J xs W') ∨ (∃ pre, Sp pre ∧ Jx pre W'))
/-- The statement, over an iterator with such a contract. -/
theorem range_given {α : Type} {g : Operand} {ps : Array Tmp} {assign body : Code} {Q : Exit → Act → World → Prop} {a : Act} {w : World}
    (hro : F.round = none) (h1 : 1 ≤ n) {gf : Nat} {lb : Array Value} (hg : a.eval g = .func (.func gf) #[] lb) (hFg : F.fn gf) (eg : ∀ args w, (callFunc gf args).run P w = .ok (.enter gf args) w)
    {encs : α → Array Value} {Kp : World → World → Prop} {O : World → Nat → Prop} {G : List α → α → World → Prop} {S Sp : List α → Prop} {w0 : World} (hseq : SeqGiven F (n - 1) P gf lb encs Kp O G S Sp w0)
    (hKt : ∀ {A B C : World}, Kp A B → Kp B C → Kp A C) (hKb : ∀ (W : World) (l : Nat) (o o' : Obj), w.heap.size ≤ l → W.heap[l]? = some o → o.isCells = false → o.isWalk = false → Kp W (W.putObj l o')) (hb0 : Below w0.heap.size w0 w) (hps : ∀ x, (encs x).size = ps.size)
    (I : List α → World → Prop) (Ix : Code → List α → World → Prop) (hI : OwnFrom w.heap.size I) (hIx : ∀ c, OwnFrom w.heap.size (Ix c)) (hIo : AbidesOwn w.heap.size O I) (hIxo : ∀ c, AbidesOwn w.heap.size O (Ix c)) (h0 : I [] w) (Ax : List α → α → Act → World → Prop) (hAx : ∀ pre x a', OwnFrom w.heap.size (fun (_ : Unit) W => Ax pre x a' W))
    (hassign : ∀ (l : Nat) (pre : List α) (x : α) (W : World) (K : Act → World → Prop), I pre W → G pre x W → (∀ a' W', KeepsFrom w.heap.size W W' → Kp W W' → I pre W' → Ax pre x a' W' → K a' W') →
      assign.wpIn (F.inRound l) (n - 1 - 1) P (Exit.then K (fun _ _ _ => False)) { tmps := (ps.zip (encs x)).foldl (fun t (p, v) => t.setIfInBounds p v) a.tmps, defers := [] } W)
    (hbody : ∀ (l : Nat) (pre : List α) (x : α) (a' : Act) (W : World), w.heap.size ≤ l → (∃ r, W.heap[l]? = some (.loop r)) → I pre W → Ax pre x a' W → body.wpIn (F.inRound l) (n - 1 - 1) P (ownPostG w.heap.size Kp I Ix (pre ++ [x]) W) a' W)
    (hdone : ∀ (D : Nat) (xs : List α) (W : World), w.heap.size ≤ D → S xs → I xs W → W.heap[D]? = some (.deferred (some [])) → Q .normal { a with defers := { target := .collected D, args := #[] } :: a.defers } W)
    (hstop : ∀ (D : Nat) (c : Code) (pre : List α) (W : World), w.heap.size ≤ D → Sp pre → Ix c pre W → W.heap[D]? = some (.deferred (some [])) → c.wpIn F n P Q { a with defers := { target := .collected D, args := #[] } :: a.defers } W) :
    (Code.rangeFunc g ps assign body).wpIn F n P Q a w := by
  refine wpIn_rangeFunc ?_
  intro fn hfn
  rw [hro]
  let rec' : LoopState → Option Code → Loop := fun st pe => { state := st, pending := pe, fn, tmps := a.tmps, params := ps, assign, body, defers := w.heap.size }
  obtain ⟨R, hR⟩ : ∃ R, rec' = R := ⟨_, rfl⟩
  obtain ⟨W1, hW1⟩ : ∃ W1, (w.alloc (.deferred (some []))).alloc (.loop (R .ready none)) = W1 := ⟨_, rfl⟩
  have hL1 : W1.heap[w.heap.size + 1]? = some (.loop (R .ready none)) := by
    rw [← hW1]
    have := World.alloc_heap_new (w.alloc (.deferred (some []))) (.loop (R .ready none))
    rwa [World.size_alloc] at this
  have hK1 : W1.heap[w.heap.size]? = some (.deferred (some [])) := by
    rw [← hW1]
    exact (Below.heap_alloc _ _ _ (by simp)).trans (World.alloc_heap_new w _)
  have hsz1 : w.heap.size ≤ W1.heap.size := by rw [← hW1]; simp; omega
  have hI1 : I [] W1 := by rw [← hW1]; exact hI.alloc _ (hI.alloc _ h0)
  have hb1 : Below w0.heap.size w0 W1 := by
    rw [← hW1]
    exact hb0.trans ((((Below.refl _ w).alloc (Nat.le_refl _) _).alloc (by simp) _).mono hb0.size)
  refine ⟨w.heap.size + 1, [{ target := .collected w.heap.size, args := #[] }], W1, { target := .fn (.func gf) lb, args := #[.func (.yield (w.heap.size + 1)) #[] #[]] }, W1, gf,
    #[.func (.yield (w.heap.size + 1)) #[] #[]] ++ lb, W1, ?_, ?_, ?_, ?_, fun _ => h1, ?_⟩
  · rw [← hW1, ← hR]; exact run_enterLoop_outer _ _ _ _ _
  · simp only [resolve, hg]
    simp [go_sem]
  · intro f' hf'
    simp [Target.leads] at hf'
    subst hf'
    exact hFg
  · simp [invoke, go_sem, eg]
  · have hnw : ∀ {A : World} {row : Option Nat}, (∀ r, row = some r → W1.heap.size ≤ r ∧ ∃ o : Obj, A.heap[r]? = some o ∧ o.isWalk = true) → (∀ r, row = some r → w.heap.size ≤ r ∧ ∃ o : Obj, A.heap[r]? = some o ∧ o.isCells = false) :=
      fun hr r e => by
        obtain ⟨hB, o, ho, hw⟩ := hr r e
        exact ⟨Nat.le_trans hsz1 hB, o, ho, Obj.not_cells_of_walk hw⟩
    refine (hseq (w.heap.size + 1)
      (fun pre W => I pre W ∧ W.heap[w.heap.size + 1]? = some (.loop (R .ready none)) ∧ W.heap[w.heap.size]? = some (.deferred (some [])))
      (fun pre W => ∃ c, Ix c pre W ∧ W.heap[w.heap.size + 1]? = some (.loop (R .done (some c))) ∧ W.heap[w.heap.size]? = some (.deferred (some [])))
      W1 hb1
      (fun s A B row hs hg' hr => ⟨hI s A B row hs.1 hg' (hnw hr), (grownBy_keeps hg' (fun r e => (hr r e).2) hs.2.1 rfl).trans hs.2.1, (grownBy_keeps hg' (fun r e => (hr r e).2) hs.2.2 rfl).trans hs.2.2⟩)
      (fun s A B row hs hg' hr => by
        obtain ⟨c, hc, hl, hk⟩ := hs
        exact ⟨c, hIx c s A B row hc hg' (hnw hr), (grownBy_keeps hg' (fun r e => (hr r e).2) hl rfl).trans hl, (grownBy_keeps hg' (fun r e => (hr r e).2) hk rfl).trans hk⟩)
      (fun s A B b hs hg' hb hO hc => by
        have hother : ∀ {k : Nat} {o : Obj}, A.heap[k]? = some o → o.isCells = false → B.heap[k]? = some o := fun {k o} hk ho => by
          refine (hg'.block k (Array.getElem?_eq_some_iff.1 hk).1 (fun e => ?_)).trans hk
          obtain rfl := Option.some.inj e
          obtain ⟨cs, t, fr, hcs⟩ := hc
          rw [hcs] at hk
          obtain rfl := Option.some.inj hk
          cases ho
        exact ⟨hIo s A B b hs.1 hg' (Nat.le_trans hsz1 hb) hO hc, hother hs.2.1 rfl, hother hs.2.2 rfl⟩)
      (fun s A B b hs hg' hb hO hc => by
        have hother : ∀ {k : Nat} {o : Obj}, A.heap[k]? = some o → o.isCells = false → B.heap[k]? = some o := fun {k o} hk ho => by
          refine (hg'.block k (Array.getElem?_eq_some_iff.1 hk).1 (fun e => ?_)).trans hk
          obtain rfl := Option.some.inj e
          obtain ⟨cs, t, fr, hcs⟩ := hc
          rw [hcs] at hk
          obtain rfl := Option.some.inj hk
          cases ho
        obtain ⟨c, hcx, hl, hk⟩ := hs
        exact ⟨c, hIxo c s A B b hcx hg' (Nat.le_trans hsz1 hb) hO hc, hother hl rfl, hother hk rfl⟩)
      ?_ ⟨hI1, hL1, hK1⟩).mono ?_
    · rintro pre x W ⟨hi, hl, hk⟩ hG
      have hy := run_yield (P := P) (args := encs x) hl (by rw [← hR]; exact hps x)
      rw [← hR] at hy
      refine ⟨fn, _, assign, body, hy, roundIn_of_wpIn hfn (hassign _ pre x W _ hi hG ?_)⟩
      clear hy
      intro a' V hkf hkp hiV hax
      have hlV := hkf.same _ _ (by omega) hl rfl
      have hkV := hkf.same _ _ (Nat.le_refl _) hk rfl
      have hlt : w.heap.size + 1 < V.heap.size := (Array.getElem?_eq_some_iff.1 hlV).1
      refine ⟨_, run_beginRound hlV (by rw [← hR]), ?_⟩
      let busy : Loop := { R .ready none with state := .busy }
      have hl2 : (V.putObj (w.heap.size + 1) (.loop busy)).heap[w.heap.size + 1]? = some (.loop busy) := World.putObj_heap_same hlt
      have hk2 : (V.putObj (w.heap.size + 1) (.loop busy)).heap[w.heap.size]? = some (.deferred (some [])) := (World.putObj_heap_other (by omega)).trans hkV
      have hp2 : Kp V (V.putObj (w.heap.size + 1) (.loop busy)) := hKb _ _ _ _ (by omega) hlV rfl rfl
      refine wpIn_mono (hbody _ pre x a' _ (by omega) ⟨_, hl2⟩ (hI.putObj _ hiV (by omega) hlV rfl) ((hAx pre x a').putObj (s := ()) _ hax (by omega) hlV rfl)) ?_
      have fin : ∀ (jump : Option Code) (W3 : World), KeepsFrom w.heap.size (V.putObj (w.heap.size + 1) (.loop busy)) W3 →
          (Instr.endRound (w.heap.size + 1) jump).run P W3 = .ok (.bool jump.isNone) (W3.putObj (w.heap.size + 1) (.loop (R (if jump.isNone then .ready else .done) jump))) ∧
          W3.heap[w.heap.size + 1]? = some (.loop busy) ∧
          (W3.putObj (w.heap.size + 1) (.loop (R (if jump.isNone then .ready else .done) jump))).heap[w.heap.size + 1]? = some (.loop (R (if jump.isNone then .ready else .done) jump)) ∧
          (W3.putObj (w.heap.size + 1) (.loop (R (if jump.isNone then .ready else .done) jump))).heap[w.heap.size]? = some (.deferred (some [])) := fun jump W3 hk3 => by
        have hl3 := hk3.same _ _ (by omega) hl2 rfl
        have hr := run_endRound (P := P) jump hl3
        refine ⟨?_, hl3, World.putObj_heap_same (Array.getElem?_eq_some_iff.1 hl3).1, (World.putObj_heap_other (by omega)).trans (hk3.same _ _ (Nat.le_refl _) hk2 rfl)⟩
        rw [← hR]
        simp only [busy, ← hR] at hr
        exact hr
      rintro e a3 W3 hp
      cases e with
      | normal =>
        obtain ⟨hk3, hkp3, hi3⟩ := hp
        obtain ⟨hr, hl3, hl4, hk4⟩ := fin none W3 hk3
        exact ⟨_, _, hr, .inl ⟨rfl, ⟨hI.putObj _ hi3 (by omega) hl3 rfl, hl4, hk4⟩, hKt hkp (hKt (hKt hp2 hkp3) (hKb _ _ _ _ (by omega) hl3 rfl rfl))⟩⟩
      | ret =>
        obtain ⟨hk3, hi3⟩ := hp
        obtain ⟨hr, hl3, hl4, hk4⟩ := fin (some .ret) W3 hk3
        exact ⟨_, _, hr, .inr ⟨rfl, .ret, (hIx _).putObj _ hi3 (by omega) hl3 rfl, hl4, hk4⟩⟩
      | exit id =>
        obtain ⟨hk3, hi3⟩ := hp
        obtain ⟨hr, hl3, hl4, hk4⟩ := fin (some (.exit id)) W3 hk3
        exact ⟨_, _, hr, .inr ⟨rfl, .exit id, (hIx _).putObj _ hi3 (by omega) hl3 rfl, hl4, hk4⟩⟩
      | goto t =>
        obtain ⟨hk3, hi3⟩ := hp
        obtain ⟨hr, hl3, hl4, hk4⟩ := fin (some (.goto t)) W3 hk3
        exact ⟨_, _, hr, .inr ⟨rfl, .goto t, (hIx _).putObj _ hi3 (by omega) hl3 rfl, hl4, hk4⟩⟩
      | panic ch => exact hp.elim
      | outgrown => exact hp.elim
    · rintro e W2 ⟨⟨v, rfl⟩, (⟨xs, hS, hi, hl, hk⟩ | ⟨pre, hSp, c, hi, hl, hk⟩)⟩
      · exact ⟨none, _, by have := run_endLoop (P := P) hl (by rw [← hR]; simp [rec']); rw [← hR] at this; exact this, hdone _ xs _ (Nat.le_refl _) hS (hI.putObj _ hi (by omega) hl rfl) ((World.putObj_heap_other (by omega)).trans hk)⟩
      · exact ⟨some c, _, by have := run_endLoop (P := P) hl (by rw [← hR]; simp [rec']); rw [← hR] at this; exact this, hstop _ c pre _ (Nat.le_refl _) hSp ((hIx c).putObj _ hi (by omega) hl rfl) ((World.putObj_heap_other (by omega)).trans hk)⟩
end Go.Proofs.Ytinkhgmdeldniaa
end
/- The levels that the iterator yields. -/
section
namespace Go.Proofs.Ytinkhgmdeldniaa.DG
set_option maxRecDepth 100000
/-- Level k of the tree of a list: its elements that are not fillers, and the filler. -/
def lvl (L : List ByteArray) : Nat → List ByteArray × ByteArray
  | 0 => (L, ⟨#[]⟩)
  | k + 1 => (ufs (lvl L k).2 (lvl L k).1 (((lvl L k).1.length + 1) / 2), Pair (lvl L k).2 (lvl L k).2)
/-- 2 ^ h is the least power of two that n fits into. -/
def IsH (n h : Nat) : Prop := n ≤ 2 ^ h ∧ ∀ j, j < h → 2 ^ j < n
theorem exists_h (n : Nat) : ∃ h, IsH n h := by
  have : ∀ d, n ≤ 2 ^ d → ∃ h, IsH n h := by
    intro d
    induction d with
    | zero => exact fun h => ⟨0, h, fun j hj => absurd hj (Nat.not_lt_zero _)⟩
    | succ d ih =>
      intro h
      by_cases hd : n ≤ 2 ^ d
      · exact ih hd
      · exact ⟨d + 1, h, fun j hj => Nat.lt_of_le_of_lt (Nat.pow_le_pow_right (by omega) (by omega)) (Nat.lt_of_not_le hd)⟩
  exact this n (Nat.le_of_lt Nat.lt_two_pow_self)
theorem IsH.le20 {n h : Nat} (hh : IsH n h) (hn : n ≤ 1000000) : h ≤ 20 := by
  rcases Nat.lt_or_ge 20 h with h1 | h1
  · have := hh.2 20 h1
    omega
  · exact h1
theorem IsH.lt_iff {n h j : Nat} (hh : IsH n h) (hj : j ≤ h) : 2 ^ j < n ↔ j < h :=
  ⟨fun h1 => by
    rcases Nat.lt_or_ge j h with h2 | h2
    · exact h2
    · have : j = h := by omega
      subst this
      have := hh.1
      omega, hh.2 j⟩
theorem lvl_small {L : List ByteArray} (hL : L.length ≤ 1000000) : ∀ k, (lvl L k).1.length ≤ 1000000
  | 0 => hL
  | k + 1 => by
    have := lvl_small hL k
    simp only [lvl, ufs_len]
    omega
theorem lvl_sizes {L : List ByteArray} (hs : ∀ s ∈ L, s.size < 2147483648) : ∀ k, (∀ s ∈ (lvl L k).1, s.size < 2147483648) ∧ (lvl L k).2.size < 2147483648
  | 0 => ⟨hs, by simp [lvl, ByteArray.size]⟩
  | k + 1 => ⟨fun s hm => by
      simp only [lvl, ufs, List.mem_map] at hm
      obtain ⟨i, _, rfl⟩ := hm
      unfold uf
      rw [Pair_size]
      omega, by
      simp only [lvl, Pair_size]
      omega⟩
end Go.Proofs.Ytinkhgmdeldniaa.DG
namespace Go.Proofs.Ytinkhgmdeldniaa
set_option linter.unusedVariables false
open Go.RowKit Go.Shelf
attribute [local go_sem] Oper.semAt_some
/-- What a round keeps: every block of cells that is none of the caller's own. -/
def KpO (O : World → Nat → Prop) (W W' : World) : Prop := W.heap.size ≤ W'.heap.size ∧ (∀ b, O W' b → O W b ∨ (W.heap.size ≤ b ∧ b < W'.heap.size)) ∧ ∀ b cs t fr, W.heap[b]? = some (.cells cs t fr) → ¬ O W b → W'.heap[b]? = some (.cells cs t fr)
theorem KpO.trans {O : World → Nat → Prop} {A B C : World} (h : KpO O A B) (k : KpO O B C) : KpO O A C :=
  ⟨Nat.le_trans h.1 k.1, fun b hb => by
    rcases k.2.1 b hb with h1 | ⟨h1, h2⟩
    · rcases h.2.1 b h1 with h3 | ⟨h3, h4⟩
      · exact .inl h3
      · exact .inr ⟨h3, Nat.lt_of_lt_of_le h4 k.1⟩
    · exact .inr ⟨Nat.le_trans h.1 h1, h2⟩, fun b cs t fr hb hO => k.2.2 b cs t fr (h.2.2 b cs t fr hb hO) (fun hB => by
    have hlt := (Array.getElem?_eq_some_iff.1 hb).1
    rcases h.2.1 b hB with h1 | ⟨h1, _⟩
    · exact hO h1
    · omega)⟩
/-- The elements lie in a block that is none of the caller's own. -/
def RowO (O : World → Nat → Prop) (W : World) (a : Option Addr) (E : List ByteArray) : Prop := E = [] ∨ ∃ g o cs t fr, a = some ⟨g, o, none⟩ ∧ ¬ O W g ∧ W.heap[g]? = some (.cells cs t fr) ∧ ∀ i, i < E.length → W.cell? ⟨g, o + i, none⟩ = some ((E.map Value.string).getD i (.bool false))
theorem RowO.row {O : World → Nat → Prop} {W : World} {a : Option Addr} {E : List ByteArray} {c : Nat} (h : RowO O W a E) : RowAt W (.slice a E.length c) (E.map Value.string) := by
  rcases h with rfl | ⟨g, o, cs, t, fr, rfl, _, hg, hc⟩
  · exact ⟨a, c, rfl, .inl rfl⟩
  · exact ⟨_, c, by rw [List.length_map], .inr ⟨g, o, rfl, (Array.getElem?_eq_some_iff.1 hg).1, fun i hi => hc i (by simpa using hi)⟩⟩
theorem RowO.kept {O : World → Nat → Prop} {W W' : World} {a : Option Addr} {E : List ByteArray} (h : RowO O W a E) (hk : KpO O W W') : RowO O W' a E := by
  rcases h with rfl | ⟨g, o, cs, t, fr, rfl, hO, hg, hc⟩
  · exact .inl rfl
  · have hg' := hk.2.2 g cs t fr hg hO
    refine .inr ⟨g, o, cs, t, fr, rfl, fun hb => ?_, hg', fun i hi => ?_⟩
    · have hlt := (Array.getElem?_eq_some_iff.1 hg).1
      rcases hk.2.1 g hb with h1 | ⟨h1, _⟩
      · exact hO h1
      · omega
    · rw [← hc i hi]
      exact World.cell?_of_block (a := ⟨g, o + i, none⟩) (hg'.trans hg.symm)
theorem RowO.own {O : World → Nat → Prop} {W W' : World} {a : Option Addr} {E : List ByteArray} (h : RowO O W a E) (hO : ∀ b, O W' b → O W b) (hb : ∀ k o, a = some ⟨k, o, none⟩ → k < W.heap.size → W'.heap[k]? = W.heap[k]?) : RowO O W' a E := by
  rcases h with rfl | ⟨g, o, cs, t, fr, rfl, hO', hg, hc⟩
  · exact .inl rfl
  · have hg' := hb g o rfl (Array.getElem?_eq_some_iff.1 hg).1
    refine .inr ⟨g, o, cs, t, fr, rfl, fun hb => hO' (hO g hb), hg'.trans hg, fun i hi => ?_⟩
    rw [← hc i hi]
    exact World.cell?_of_block (a := ⟨g, o + i, none⟩) hg'
theorem cells_of_cell {W : World} {g o : Nat} {v : Value} (h : W.cell? ⟨g, o, none⟩ = some v) : ∃ cs t fr, W.heap[g]? = some (.cells cs t fr) := by
  unfold World.cell? at h
  simp only at h
  split at h
  · exact ⟨_, _, _, by assumption⟩
  · cases h
theorem RowO.fresh {O : World → Nat → Prop} {W : World} {a : Option Addr} {E : List ByteArray} {n c : Nat} (h : RowAt W (.slice a n c) (E.map Value.string)) (hO : ∀ g o, a = some ⟨g, o, none⟩ → ¬ O W g) : RowO O W a E := by
  obtain ⟨a', c', he, h⟩ := h.out
  injection he with h1 h2 h3
  subst h1
  rcases h with h | ⟨g, o, rfl, hg, hc⟩
  · exact .inl (by simpa using h)
  · by_cases hE : E = []
    · exact .inl hE
    · have hpos : 0 < E.length := List.length_pos_iff.2 hE
      obtain ⟨cs, t, fr, hcs⟩ := cells_of_cell (hc 0 (by simpa using hpos))
      exact .inr ⟨g, o, cs, t, fr, rfl, hO g o rfl, hcs, fun i hi => hc i (by simpa using hi)⟩
/-- The size that a level in a box has. -/
def szAt (w : World) (p : Nat) : Nat := match w.cell? ⟨p, 2, none⟩ with | some (.int _ s) => s.toNat | _ => 0
/-- A level as it is handed over. -/
structure LvX where
  k : Nat
  a : Option Addr
  c : Nat
  E : List ByteArray
  f : ByteArray
  m : Nat
def lvEnc (x : LvX) : Array Value := #[.int .i64 (x.k : Int), lv x.a x.E.length x.c x.f x.m]
/-- What is known of it. -/
def LvG (L : List ByteArray) (h : Nat) (pre : List LvX) (x : LvX) (W : World) : Prop := x.k = pre.length ∧ x.k ≤ h ∧ x.E = (DG.lvl L x.k).1 ∧ x.f = (DG.lvl L x.k).2 ∧ x.m = 2 ^ (h - x.k) ∧ RowAt W (.slice x.a x.E.length x.c) (x.E.map Value.string)
/-- Between two rounds. -/
def LvI (L : List ByteArray) (h : Nat) (J : List LvX → World → Prop) (O : World → Nat → Prop) (p : Nat) (v : Value) (W : World) : Prop := ∃ (pre : List LvX) (a : Option Addr) (c : Nat), v = .int .i64 (pre.length : Int) ∧ pre.length ≤ h ∧ J pre W ∧
  W.heap[p]? = some (.cells #[.slice a (DG.lvl L pre.length).1.length c, .string (DG.lvl L pre.length).2, .int .i64 ((2 ^ (h - pre.length) : Nat) : Int)] 84 (0, 0)) ∧ ¬ O W p ∧ RowO O W a (DG.lvl L pre.length).1 ∧ ∀ b, O W b → b < W.heap.size
set_option maxRecDepth 100000 in
set_option maxHeartbeats 4000000 in
theorem levels_in (n : Nat) (hn : 1 ≤ n) (l bt B0 : Nat) (O : World → Nat → Prop) (L : List ByteArray) (a : Option Addr) (c h : Nat) (J Jx : List LvX → World → Prop) (hL : L.length ≤ 1000000) (hs : ∀ s ∈ L, s.size < 2147483648) (hh : DG.IsH L.length h)
    (hY : ∀ pre x W, J pre W → LvG L h pre x W → YieldAt Fence.wide (n - 1) Try.prog l (lvEnc x) W fun e W' =>
      (e = .returned (.bool true) ∧ J (pre ++ [x]) W' ∧ KpO O W W') ∨ (e = .returned (.bool false) ∧ Jx (pre ++ [x]) W'))
    (W : World) (hB0 : B0 ≤ W.heap.size) (hbt : bt < W.heap.size) (hO : ∀ A B, Below B0 A B → ∀ b, O B b → O A b) (hO0 : ∀ b, O W b → b < W.heap.size) (hJ : AbidesFrom W.heap.size J) (hJo : AbidesOwn W.heap.size O J)
    (ht : W.cell? ⟨bt, 0, none⟩ = some (.slice a L.length c)) (hr : RowO O W a L) (h0 : J [] W) :
    CallsIn Fence.wide n Try.prog 79 #[.func (.yield l) #[] #[], .pointer (some ⟨bt, 0, none⟩)] W fun e W' => (∃ v, e = .returned v) ∧
      ((∃ ys : List LvX, ys.length = h + 1 ∧ J ys W') ∨ (∃ pre, True ∧ Jx pre W')) := by
  have h20 := hh.le20 hL
  have HH := Lib.hid hh
  obtain ⟨nl, hnl⟩ : ∃ nl, L.length = nl := ⟨_, rfl⟩
  have HN := Lib.hid hnl
  have HLL := Lib.hid hL
  rw [hnl] at ht hL
  clear hnl
  refine callsIn_of_wp Try.func79 rfl trivial ?_ rfl
  simp only [Try.ntmps79, List.size_toArray, List.length_cons, List.length_nil, Nat.reduceAdd, Nat.reduceSub, Array.replicate_succ, Array.replicate_zero, List.push_toArray, List.append_toArray, List.nil_append, List.cons_append]
  have hW1 := heap_alloc_new W (.cells #[.slice a nl c, .string ⟨#[]⟩, .int .i64 1] 84)
  have hbW := (Below.refl W.heap.size W).alloc (Nat.le_refl _) (.cells #[.slice a nl c, .string ⟨#[]⟩, .int .i64 1] 84)
  have HJ : Hid (∀ pre A B, J pre A → Below A.heap.size A B → J pre B) := Lib.hid fun pre A B hA hb => hJ pre A B none hA ⟨hb.os, hb.tape, hb.output, hb.size, fun k hk _ => hb.block k hk⟩ (fun r e => by cases e)
  have HT : Hid (∀ B, Below W.heap.size W B → B.cell? ⟨bt, 0, none⟩ = some (.slice a nl c)) := Lib.hid fun B hb => (hb.cell (p := ⟨bt, 0, none⟩) hbt).trans ht
  have HJO := Lib.hid hJo
  have HO := Lib.hid hO
  have HO0 := Lib.hid hO0
  have HRR := Lib.hid hr
  have HY := Lib.hid hY
  have HS := Lib.hid hs
  have HJ0 := Lib.hid h0
  have hpO : ¬ O W W.heap.size := fun hb => Nat.lt_irrefl _ (hO0 _ hb)
  gi_wp2
  generalize W.alloc (.cells #[.slice a nl c, .string ⟨#[]⟩, .int .i64 1] 84) = W1 at hW1 hbW ⊢
  obtain ⟨p, hp⟩ : ∃ p, W.heap.size = p := ⟨_, rfl⟩
  have HP := Lib.hid hp
  rw [hp] at hW1 hpO ⊢
  clear hJ hJo hO hO0 hr hY hs h0 ht hp
  gi_loopw [8] (fun _ wr => ∃ j : Nat, j ≤ h ∧ wr.heap[p]? = some (.cells #[.slice a nl c, .string ⟨#[]⟩, .int .i64 ((2 ^ j : Nat) : Int)] 84 (0, 0)) ∧ Below W.heap.size W wr) (fun _ wr => nl - szAt wr p)
  case atStart => exact ⟨0, Nat.zero_le _, hW1, hbW⟩
  case round =>
    clear hW1 hbW
    obtain ⟨j, hj, hx, hb⟩ := hrel
    have ct := HT.out wr hb
    have c0 : wr.cell? ⟨p, 0, none⟩ = some (.slice a nl c) := by simp [World.cell?, hx]
    have c1 : wr.cell? ⟨p, 1, none⟩ = some (.string ⟨#[]⟩) := by simp [World.cell?, hx]
    have c2 : wr.cell? ⟨p, 2, none⟩ = some (.int .i64 ((2 ^ j : Nat) : Int)) := by simp [World.cell?, hx]
    have f2 : wr.frozen? ⟨p, 2, none⟩ = false := by simp [World.frozen?, hx]
    have hsz : szAt wr p = 2 ^ j := by unfold szAt; rw [c2]; exact Int.toNat_natCast _
    have hle : 2 ^ j ≤ 1048576 := Nat.le_trans (Nat.pow_le_pow_right (by omega) (Nat.le_trans hj h20)) (by decide)
    have hiff := HH.out.lt_iff hj
    rw [HN.out] at hiff
    have hdbl : 2 ^ (j + 1) = 2 * 2 ^ j := Nat.pow_succ'
    by_cases hlt : 2 ^ j < nl
    · have hjh := hiff.1 hlt
      have hlti : ((2 ^ j : Nat) : Int) < (nl : Int) := by omega
      have HD := Lib.hid hdbl
      have HX := Lib.hid (heap_setCell_same wr p 2 _ 84 (.int .i64 (((2 ^ j : Nat) : Int) * 2)) hx)
      have HSZ := Lib.hid hsz
      have HB := Lib.hid (hb.setCell (p := ⟨p, 2, none⟩) (by rw [HP.out]; exact Nat.le_refl _) (.int .i64 (((2 ^ j : Nat) : Int) * 2)))
      have hpos : 0 < 2 ^ j := Nat.two_pow_pos j
      obtain ⟨s, hs⟩ : ∃ s, 2 ^ j = s := ⟨_, rfl⟩
      have HSJ := Lib.hid hs
      rw [hs] at c2 hlti hle hlt hpos HX HB
      clear hs hdbl hsz hiff hx hb
      gi_wp2
      go_roundw
      case rel =>
        refine ⟨j + 1, hjh, ?_, HB.out⟩
        rw [show ((2 ^ (j + 1) : Nat) : Int) = (s : Int) * 2 by rw [HD.out, HSJ.out]; omega]
        exact HX.out
      case measure =>
        rw [HSZ.out, HSJ.out]
        have : szAt (wr.setCell ⟨p, 2, none⟩ (.int .i64 ((s : Int) * 2))) p = s * 2 := by
          have := HX.out
          simp only [szAt, World.cell?, this]
          simp
          omega
        rw [this]
        omega
    · have hjh : j = h := by omega
      have hlti : ¬ ((2 ^ j : Nat) : Int) < (nl : Int) := by omega
      subst hjh
      obtain ⟨s, hs⟩ : ∃ s, 2 ^ j = s := ⟨_, rfl⟩
      rw [hs] at c2 hlti hle hlt hx
      have HSJ := Lib.hid hs
      clear hsz hiff hdbl hs
      gi_wp2
      have HBA := Lib.hid hb
      have HX0 := Lib.hid hx
      clear hb hx c0 c1 c2 f2 ct hlt hlti
      have hpW : W.heap.size ≤ p := by rw [HP.out]; exact Nat.le_refl _
      have hOown : ∀ b, O wr b → O W b := fun b hb => HO.out W wr (HBA.out.mono hB0) b hb
      have hst : LvI L j J O p (.int .i64 0) wr := by
        refine ⟨[], a, c, rfl, Nat.zero_le _, HJ.out _ _ _ HJ0.out HBA.out, ?_, fun hb => hpO (hOown _ hb), HRR.out.own hOown (fun k o _ hk => HBA.out.block k hk), fun b hb => Nat.lt_of_lt_of_le (HO0.out b (hOown b hb)) HBA.out.size⟩
        rw [HX0.out, ← HSJ.out, ← HN.out]
        rfl
      gi_loopw [4] (fun v4 wr => LvI L j J O p v4 wr) (fun v4 _ => j + 1 - (intOf v4).toNat)
      case atStart => exact hst
      case round =>
        clear hst HX0 HBA hOown
        obtain ⟨pre, a, c, rfl, hk, hJr, hx, hpO, hrow, hOs⟩ := hrel
        have hsm := DG.lvl_small HLL.out pre.length
        obtain ⟨hss, hsf⟩ := DG.lvl_sizes HS.out pre.length
        obtain ⟨k, hkk⟩ : ∃ k, pre.length = k := ⟨_, rfl⟩
        have HKK := Lib.hid hkk
        obtain ⟨E, hE⟩ : ∃ E, (DG.lvl L k).1 = E := ⟨_, rfl⟩
        obtain ⟨f, hf⟩ : ∃ f, (DG.lvl L k).2 = f := ⟨_, rfl⟩
        obtain ⟨m, hm⟩ : ∃ m, 2 ^ (j - k) = m := ⟨_, rfl⟩
        rw [hkk] at hk hx hrow hsm hss hsf
        rw [hE] at hx hrow hsm hss
        rw [hf] at hx hsf
        rw [hm] at hx
        have hG : LvG L j pre ⟨k, a, c, E, f, m⟩ wr := ⟨hkk.symm, hk, hE.symm, hf.symm, hm.symm, hrow.row⟩
        have hyy := HY.out pre ⟨k, a, c, E, f, m⟩ wr hJr hG
        obtain ⟨ne, hne⟩ : ∃ ne, E.length = ne := ⟨_, rfl⟩
        simp only [lvEnc] at hyy
        rw [hne] at hyy hx hsm
        obtain ⟨fn, tmps, assign, body, hy, hR⟩ := hyy
        have c0 : wr.cell? ⟨p, 0, none⟩ = some (.slice a ne c) := by simp [World.cell?, hx]
        have c1 : wr.cell? ⟨p, 1, none⟩ = some (.string f) := by simp [World.cell?, hx]
        have c2 : wr.cell? ⟨p, 2, none⟩ = some (.int .i64 (m : Int)) := by simp [World.cell?, hx]
        have HX := Lib.hid hx
        have HE := Lib.hid hE
        have HF := Lib.hid hf
        have HM := Lib.hid hm
        have HNE := Lib.hid hne
        have HROW := Lib.hid hrow
        have HOS := Lib.hid hOs
        have hm1 : m ≤ 1048576 := by rw [← hm]; exact Nat.le_trans (Nat.pow_le_pow_right (by omega) (by omega)) (Nat.pow_le_pow_right (by omega) h20 : 2 ^ j ≤ 2 ^ 20)
        have HSS := Lib.hid hss
        have HMK : Hid (if k < j then 1 < m ∧ m / 2 = 2 ^ (j - (k + 1)) else m = 1) := Lib.hid (by
          by_cases hkj : k < j
          · rw [if_pos hkj, ← hm, show j - k = (j - (k + 1)) + 1 by omega, Nat.pow_succ]
            have := Nat.two_pow_pos (j - (k + 1))
            omega
          · rw [if_neg hkj, ← hm, show j - k = 0 by omega])
        clear hx hE hf hm hne hrow hOs hss hJr hG
        rw [hkk]
        clear hkk
        by_cases hkj : k < j
        · obtain ⟨hm2, hmh⟩ : 1 < m ∧ m / 2 = 2 ^ (j - (k + 1)) := by have := HMK.out; rwa [if_pos hkj] at this
          have hm2i : (1 : Int) < (m : Int) := by omega
          have HMH := Lib.hid hmh
          clear hmh
          gi_wp2
          refine hR.mono ?_
          clear hR hy c0 c1 c2
          rintro e W3 (⟨rfl, hJ3, hk3⟩ | ⟨rfl, hJx3⟩)
          · have hx3 := hk3.2.2 _ _ _ _ HX.out hpO
            have hrow3 := HROW.out.kept hk3
            have hpO3 : ¬ O W3 p := fun hb => by
              have hlt := (Array.getElem?_eq_some_iff.1 HX.out).1
              rcases hk3.2.1 p hb with h1 | ⟨h1, _⟩
              · exact hpO h1
              · omega
            have hOs3 : ∀ b, O W3 b → b < W3.heap.size := fun b hb => by
              rcases hk3.2.1 b hb with h1 | ⟨_, h1⟩
              · exact Nat.lt_of_lt_of_le (HOS.out b h1) hk3.1
              · exact h1
            have c0 : W3.cell? ⟨p, 0, none⟩ = some (.slice a ne c) := by simp [World.cell?, hx3]
            have c1 : W3.cell? ⟨p, 1, none⟩ = some (.string f) := by simp [World.cell?, hx3]
            have c2 : W3.cell? ⟨p, 2, none⟩ = some (.int .i64 (m : Int)) := by simp [World.cell?, hx3]
            have hnx := next_any a c E f m W3 hrow3.row (by rw [HNE.out]; exact hsm) (by unfold maxLen; omega) hsf HSS.out
            rw [HNE.out] at hnx
            have HNX := Lib.hid hnx
            have HX3 := Lib.hid hx3
            have HJ3 := Lib.hid hJ3
            have HO3 := Lib.hid hOs3
            clear hnx hx3 hrow3 hk3 hJ3 hOs3
            gi_wp2_with (refine ⟨trivial, ?_⟩; gi_at_call 80; refine (callsIn_wide.2 HNX.out).mono ?_; rintro e w5 ⟨a', c', rfl, hsrc, hfr, hb5⟩; have hx5 := (hb5.block p (Array.getElem?_eq_some_iff.1 HX3.out).1).trans HX3.out; have d0 : w5.cell? ⟨p, 0, none⟩ = some (.slice a ne c) := (by simp [World.cell?, hx5]); have d1 : w5.cell? ⟨p, 1, none⟩ = some (.string f) := (by simp [World.cell?, hx5]); have d2 : w5.cell? ⟨p, 2, none⟩ = some (.int .i64 (m : Int)) := (by simp [World.cell?, hx5]); have f0 : w5.frozen? ⟨p, 0, none⟩ = false := (by simp [World.frozen?, hx5]); have f1 : w5.frozen? ⟨p, 1, none⟩ = false := (by simp [World.frozen?, hx5]); have f2 : w5.frozen? ⟨p, 2, none⟩ = false := (by simp [World.frozen?, hx5]); have HX5 := Lib.hid hx5; have HSRC := Lib.hid hsrc; have HB5 := Lib.hid hb5; clear hx5 hsrc hb5)
            have hlt3 : p < W3.heap.size := (Array.getElem?_eq_some_iff.1 HX3.out).1
            have hlt5 : p < w5.heap.size := Nat.lt_of_lt_of_le hlt3 HB5.out.size
            have hB3 : B0 ≤ W3.heap.size := by have := HP.out; omega
            have hBp : B0 ≤ p := by have := HP.out; omega
            have hO5 : ∀ b, O w5 b → O W3 b := fun b hb => HO.out W3 w5 (HB5.out.mono hB3) b hb
            have hx6 := heap_setCell_same w5 p 0 _ 84 (.slice a' ((ne + 1) / 2) c') HX5.out
            have hx7 := heap_setCell_same _ p 1 _ 84 (.string (DG.Pair f f)) hx6
            have hx8 := heap_setCell_same _ p 2 _ 84 (.int .i64 ((m : Int) / 2)) hx7
            have hO6 : ∀ b, O (w5.setCell ⟨p, 0, none⟩ (.slice a' ((ne + 1) / 2) c')) b → O w5 b := fun b hb => HO.out w5 _ ((Below.refl B0 w5).setCell (p := ⟨p, 0, none⟩) hBp _) b hb
            have hO7 : ∀ b, O ((w5.setCell ⟨p, 0, none⟩ (.slice a' ((ne + 1) / 2) c')).setCell ⟨p, 1, none⟩ (.string (DG.Pair f f))) b → O w5 b := fun b hb => hO6 b (HO.out _ _ ((Below.refl B0 _).setCell (p := ⟨p, 1, none⟩) hBp _) b hb)
            have hO8 : ∀ b, O (((w5.setCell ⟨p, 0, none⟩ (.slice a' ((ne + 1) / 2) c')).setCell ⟨p, 1, none⟩ (.string (DG.Pair f f))).setCell ⟨p, 2, none⟩ (.int .i64 ((m : Int) / 2))) b → O w5 b := fun b hb => hO7 b (HO.out _ _ ((Below.refl B0 _).setCell (p := ⟨p, 2, none⟩) hBp _) b hb)
            have j5 := HJ.out _ _ _ HJ3.out HB5.out
            have hn5 : ¬ O w5 p := fun hb => hpO3 (hO5 p hb)
            have j6 := HJO.out _ _ _ p j5 (grown_setcell w5 p 0 (.slice a' ((ne + 1) / 2) c')) hpW hn5 ⟨_, _, _, HX5.out⟩
            have j7 := HJO.out _ _ _ p j6 (grown_setcell _ p 1 (.string (DG.Pair f f))) hpW (fun hb => hn5 (hO6 p hb)) ⟨_, _, _, hx6⟩
            have j8 := HJO.out _ _ _ p j7 (grown_setcell _ p 2 (.int .i64 ((m : Int) / 2))) hpW (fun hb => hn5 (hO7 p hb)) ⟨_, _, _, hx7⟩
            have hr5 : RowO O w5 a' (DG.ufs f E ((ne + 1) / 2)) := RowO.fresh HSRC.out.row (fun g o e hb => by
              have := hfr g o e
              have := HO3.out g (hO5 g hb)
              omega)
            have hga : ∀ g o, a' = some ⟨g, o, none⟩ → g ≠ p := fun g o e => by have := hfr g o e; omega
            have hlv : DG.lvl L (k + 1) = (DG.ufs f E ((ne + 1) / 2), DG.Pair f f) := by
              show (DG.ufs (DG.lvl L k).2 (DG.lvl L k).1 (((DG.lvl L k).1.length + 1) / 2), DG.Pair (DG.lvl L k).2 (DG.lvl L k).2) = _
              rw [HE.out, HF.out, HNE.out]
            have hlen : (DG.ufs f E ((ne + 1) / 2)).length = (ne + 1) / 2 := DG.ufs_len _ _ _
            have hmi : (m : Int) / 2 = ((2 ^ (j - (k + 1)) : Nat) : Int) := by rw [← HMH.out]; omega
            have hpl : (pre ++ [(⟨k, a, c, E, f, m⟩ : LvX)]).length = k + 1 := by rw [List.length_append, HKK.out]; rfl
            refine ⟨⟨pre ++ [⟨k, a, c, E, f, m⟩], a', c', by rw [hpl]; go_num, by rw [hpl]; exact hkj, j8, ?_, fun hb => hn5 (hO8 p hb), ?_, fun b hb => ?_⟩, by simp [intOf]; omega⟩
            · rw [hpl, hlv]
              simp only
              rw [hlen, ← hmi]
              exact hx8
            · rw [hpl, hlv]
              refine hr5.own hO8 (fun g o e hlt => ?_)
              have hne := hga g o e
              rw [Below.heap_setCell _ _ _ _ hne, Below.heap_setCell _ _ _ _ hne, Below.heap_setCell _ _ _ _ hne]
            · have h1 := HO3.out b (hO5 b (hO8 b hb))
              have h2 := HB5.out.size
              have h3 := (grown_setcell w5 p 0 (.slice a' ((ne + 1) / 2) c')).size
              have h4 := (grown_setcell (w5.setCell ⟨p, 0, none⟩ (.slice a' ((ne + 1) / 2) c')) p 1 (.string (DG.Pair f f))).size
              have h5 := (grown_setcell ((w5.setCell ⟨p, 0, none⟩ (.slice a' ((ne + 1) / 2) c')).setCell ⟨p, 1, none⟩ (.string (DG.Pair f f))) p 2 (.int .i64 ((m : Int) / 2))).size
              omega
          · gi_wp2
            go_end0
            exact ⟨⟨_, rfl⟩, .inr ⟨_, trivial, hJx3⟩⟩
        · have hm1' : m = 1 := by have := HMK.out; rwa [if_neg hkj] at this
          have hm2i : ¬ (1 : Int) < (m : Int) := by omega
          clear hm1'
          gi_wp2
          refine hR.mono ?_
          clear hR hy c0 c1 c2
          have hpl : (pre ++ [(⟨k, a, c, E, f, m⟩ : LvX)]).length = j + 1 := by rw [List.length_append, HKK.out, show k = j by omega]; rfl
          rintro e W3 (⟨rfl, hJ3, hk3⟩ | ⟨rfl, hJx3⟩)
          · have hx3 := hk3.2.2 _ _ _ _ HX.out hpO
            have c2 : W3.cell? ⟨p, 2, none⟩ = some (.int .i64 (m : Int)) := by simp [World.cell?, hx3]
            have HJ3 := Lib.hid hJ3
            have HPL := Lib.hid hpl
            clear hx3 hk3 hJ3 hpl
            gi_wp2
            go_end0
            exact ⟨⟨_, rfl⟩, .inl ⟨_, HPL.out, HJ3.out⟩⟩
          · have HJX := Lib.hid hJx3
            clear hpl hJx3
            gi_wp2
            go_end0
            exact ⟨⟨_, rfl⟩, .inr ⟨_, trivial, HJX.out⟩⟩
end Go.Proofs.Ytinkhgmdeldniaa
end
/- The contract of digest.Root. -/
section
namespace Go.Proofs.Ytinkhgmdeldniaa.DG
set_option maxRecDepth 100000
/-- The first element of level k. -/
def top (L : List ByteArray) (k : Nat) : ByteArray := (lvl L k).1.getD 0 (lvl L k).2
/-- The root of the tree of a list whose height is h. -/
def root (L : List ByteArray) (h : Nat) : ByteArray := S (dig (rootL h (top L h)))
end Go.Proofs.Ytinkhgmdeldniaa.DG
namespace Go.Proofs.Ytinkhgmdeldniaa
set_option linter.unusedVariables false
open Go.RowKit Go.Shelf
attribute [local go_sem] Oper.semAt_some
theorem row_kept {X Y : World} {row : Option Nat} {B : Nat} {c : Array Value} {t : TypeId} (h : X.heap[B]? = some (.cells c t (0, 0))) (hg : X.grownBy Y row) (hr : ∀ r, row = some r → ∃ o : Obj, X.heap[r]? = some o ∧ o.isCells = false) : Y.heap[B]? = some (.cells c t (0, 0)) :=
  (hg.block B (Array.getElem?_eq_some_iff.1 h).1 (fun e => by obtain ⟨o, ho, hc⟩ := hr B e.symm; rw [h] at ho; cases ho; cases hc)).trans h
theorem RowAt.grown {W W' : World} {v : Value} {U : List Value} {row : Option Nat} (h : RowAt W v U) (hg : W.grownBy W' row) (hr : ∀ r, row = some r → ∃ o : Obj, W.heap[r]? = some o ∧ o.isCells = false) : RowAt W' v U := by
  obtain ⟨a, cap, rfl, h | ⟨g, o, rfl, hgs, hc⟩⟩ := h.out
  · exact ⟨a, cap, rfl, Or.inl h⟩
  · refine ⟨_, cap, rfl, Or.inr ⟨g, o, rfl, Nat.lt_of_lt_of_le hgs hg.size, fun i hi => ?_⟩⟩
    rw [← hc i hi]
    refine World.cell?_of_block (a := ⟨g, o + i, none⟩) (hg.block g hgs (fun e => ?_))
    obtain ⟨ob, ho, hcs⟩ := hr g e.symm
    obtain ⟨cs, t, fr, hcc⟩ := cells_of_cell (hc i hi)
    rw [hcc] at ho
    obtain rfl := Option.some.inj ho
    cases hcs
theorem rowO_arg {O : World → Nat → Prop} {w W : World} {a : Option Addr} {E : List ByteArray} {n c : Nat} (h : RowAt w (.slice a n c) (E.map Value.string)) (hb : Below w.heap.size w W) (hO : ∀ g, O W g → w.heap.size ≤ g) : RowO O W a E := by
  obtain ⟨a', c', he, hh⟩ := h.out
  injection he with h1 h2 h3
  subst h1
  by_cases hE : E = []
  · exact .inl hE
  · refine RowO.fresh (h.keep hb) (fun g o e hg => ?_)
    rcases hh with hh | ⟨g', o', e', hg', _⟩
    · exact hE (by simpa using hh)
    · rw [e] at e'
      injection e' with e'
      injection e' with e1 e2
      subst e1
      have := hO g hg
      omega
theorem below_keeps {W W' : World} (h : Below W.heap.size W W') : KeepsOthers W W' := KeepsOthers.of_grownBy (row := none) ⟨h.os, h.tape, h.output, h.size, fun k hk _ => h.block k hk⟩ (fun j o e => by cases e)
theorem boxed_below {W W' : World} {B : Nat} {t : TypeId} {v : Value} (h : Boxed W B t v) (hb : Below W.heap.size W W') : Boxed W' B t v := (hb.block B (Boxed.lt h)).trans h
theorem kpO_set {O : World → Nat → Prop} {W : World} {B : Nat} {v : Value} (hO : ∀ b, O (W.setCell ⟨B, 0, none⟩ v) b → O W b) (hB : O W B) : KpO O W (W.setCell ⟨B, 0, none⟩ v) :=
  ⟨(grownBy_setCell' W B v).size, fun b hb => .inl (hO b hb), fun b cs t fr hb hn => (Below.heap_setCell _ _ _ _ (fun e => hn (by rw [show b = B from e]; exact hB))).trans hb⟩
theorem kpO_put {O : World → Nat → Prop} {B0 : Nat} (hO : ∀ A B, Below B0 A B → ∀ b, O B b → O A b) (W : World) (l : Nat) (o o' : Obj) (hl : B0 ≤ l) (h : W.heap[l]? = some o) (hc : o.isCells = false) (_ : o.isWalk = false) : KpO O W (W.putObj l o') := by
  have hg := grownBy_putObj' W l o'
  have hlt := (Array.getElem?_eq_some_iff.1 h).1
  refine ⟨hg.size, fun b hb => .inl (hO W _ ((Below.refl B0 W).grown hg (by omega) (fun k e => by cases e; exact hl)) b hb), fun b cs t fr hb _ => ?_⟩
  refine (hg.block b (Array.getElem?_eq_some_iff.1 hb).1 (fun e => ?_)).trans hb
  obtain rfl := Option.some.inj e
  rw [hb] at h
  obtain rfl := Option.some.inj h
  cases hc
theorem kpO_below {O : World → Nat → Prop} {B0 : Nat} (hO : ∀ A B, Below B0 A B → ∀ b, O B b → O A b) {W W' : World} (hB : B0 ≤ W.heap.size) (h : Below W.heap.size W W') : KpO O W W' :=
  ⟨h.size, fun b hb => .inl (hO W W' (h.mono hB) b hb), fun b cs t fr hb _ => (h.block b (Array.getElem?_eq_some_iff.1 hb).1).trans hb⟩
theorem levels_given (n : Nat) (hn : 1 ≤ n) (bt : Nat) (O : World → Nat → Prop) (L : List ByteArray) (a : Option Addr) (c h : Nat) (W0 : World) (hL : L.length ≤ 1000000) (hs : ∀ s ∈ L, s.size < 2147483648) (hh : DG.IsH L.length h)
    (hbt : bt < W0.heap.size) (hO : ∀ A B, Below W0.heap.size A B → ∀ b, O B b → O A b) (hO0 : ∀ b, O W0 b → b < W0.heap.size) (ht : W0.cell? ⟨bt, 0, none⟩ = some (.slice a L.length c)) (hr : RowO O W0 a L) :
    SeqGiven Fence.wide n Try.prog 79 #[.pointer (some ⟨bt, 0, none⟩)] lvEnc (KpO O) O (LvG L h) (fun xs => xs.length = h + 1) (fun _ => True) W0 :=
  fun l J Jx W hW hJ hJx hJo hJxo hY h0 => levels_in n hn l bt W0.heap.size O L a c h J Jx hL hs hh hY W hW.size (Nat.lt_of_lt_of_le hbt hW.size) hO (fun b hb => Nat.lt_of_lt_of_le (hO0 b (hO _ _ hW b hb)) hW.size) hJ hJo
    ((hW.cell (p := ⟨bt, 0, none⟩) hbt).trans ht) (hr.own (hO _ _ hW) (fun k o _ hk => hW.block k hk)) h0
set_option maxHeartbeats 400000 in
theorem levels_any (a : Option Addr) (n c : Nat) (w : World) :
    Calls Try.prog 64 #[.slice a n c] w fun e w' => e = .returned (.func (.func 79) #[] #[.pointer (some ⟨w.heap.size, 0, none⟩)]) ∧ w' = w.alloc (.cells #[.slice a n c] 42) := by
  go_enter Try.func64, Try.ntmps64
  go_wp2
  go_ret
  exact ⟨rfl, rfl⟩
/-- What lies in the two variables when some levels have come. -/
def RootI (L : List ByteArray) (B : Nat) (pre : List LvX) (W : World) : Prop := Boxed W B 9 (.string (if pre.length = 0 then ⟨#[]⟩ else DG.top L (pre.length - 1))) ∧ Boxed W (B + 1) 3 (.int .i64 ((pre.length - 1 : Nat) : Int))
set_option maxRecDepth 100000 in
set_option maxHeartbeats 4000000 in
theorem rootP_in (n : Nat) (hn : 3 ≤ n) (L : List ByteArray) (a : Option Addr) (c h : Nat) (w : World) (hr : RowAt w (.slice a L.length c) (L.map Value.string)) (hL : L.length ≤ 1000000) (hs : ∀ s ∈ L, s.size < 2147483648) (hh : DG.IsH L.length h) :
    CallsIn Fence.wide n Try.prog 34 #[.slice a L.length c] w fun e W' => e = .returned (.string (DG.root L h)) ∧ Below w.heap.size w W' := by
  have h1 : 1 ≤ n := by omega
  have h20 := hh.le20 hL
  have HSZ := Lib.hid (DG.lvl_sizes hs)
  have HRW := Lib.hid hr
  have HH := Lib.hid hh
  refine callsIn_of_wp_marks Try.func34 rfl trivial ?_ rfl
  simp only [Try.ntmps34, List.size_toArray, List.length_cons, List.length_nil, Nat.reduceAdd, Nat.reduceSub, Array.replicate_succ, Array.replicate_zero, List.push_toArray, List.append_toArray, List.nil_append, List.cons_append]
  gi_wp2_with (refine ⟨trivial, ?_⟩; gi_at_call 64; refine (callsIn_wide.2 (levels_any _ _ _ _)).mono ?_; rintro e w' ⟨rfl, rfl⟩)
  have hr0 := hr
  have bO := ((Boxed.new w 9 (.string ⟨#[]⟩)).alloc (.cells #[.int .i64 0] 3)).alloc (.cells #[.slice a L.length c] 42)
  have b1 := (Boxed.new (w.alloc (.cells #[.string ⟨#[]⟩] 9)) 3 (.int .i64 0)).alloc (.cells #[.slice a L.length c] 42)
  have b2 := Boxed.new ((w.alloc (.cells #[.string ⟨#[]⟩] 9)).alloc (.cells #[.int .i64 0] 3)) 42 (.slice a L.length c)
  have hB0 : Below w.heap.size w (((w.alloc (.cells #[.string ⟨#[]⟩] 9)).alloc (.cells #[.int .i64 0] 3)).alloc (.cells #[.slice a L.length c] 42)) := (((Below.refl _ w).alloc (Nat.le_refl _) _).alloc (by simp) _).alloc (by simp; omega) _
  have hsz : (((w.alloc (.cells #[.string ⟨#[]⟩] 9)).alloc (.cells #[.int .i64 0] 3)).alloc (.cells #[.slice a L.length c] 42)).heap.size = w.heap.size + 3 := by simp
  simp only [World.size_alloc] at bO b1 b2 ⊢
  generalize ((w.alloc (.cells #[.string ⟨#[]⟩] 9)).alloc (.cells #[.int .i64 0] 3)).alloc (.cells #[.slice a L.length c] 42) = W0 at *
  have hOm : ∀ A B : World, Below W0.heap.size A B → ∀ b, (fun (_ : World) (b : Nat) => b = w.heap.size ∨ b = w.heap.size + 1) B b → (fun (_ : World) (b : Nat) => b = w.heap.size ∨ b = w.heap.size + 1) A b := fun _ _ _ _ h => h
  have hrow0 : RowO (fun (_ : World) (b : Nat) => b = w.heap.size ∨ b = w.heap.size + 1) W0 a L := rowO_arg hr0 hB0 (fun g hg => by rcases hg with rfl | rfl <;> omega)
  refine range_given rfl h1 (gf := 79) (lb := #[.pointer (some ⟨w.heap.size + 1 + 1, 0, none⟩)]) rfl trivial (enters_of Try.func79 (by kernel_rfl) rfl)
    (levels_given (n - 1) (by omega) (w.heap.size + 1 + 1) (fun _ b => b = w.heap.size ∨ b = w.heap.size + 1) L a c h W0 hL hs hh (by omega) hOm (fun b hb => by rcases hb with rfl | rfl <;> omega) b2.cell hrow0)
    KpO.trans (fun W l o o' hl ho hc hw => kpO_put hOm W l o o' hl ho hc hw) (Below.refl _ _) (fun _ => rfl)
    (fun pre W => (Boxed W w.heap.size 9 (.string (if pre.length = 0 then ⟨#[]⟩ else DG.top L (pre.length - 1))) ∧ Boxed W (w.heap.size + 1) 3 (.int .i64 ((pre.length - 1 : Nat) : Int)) ∧ Boxed W (w.heap.size + 2) 42 (.slice a L.length c)) ∧ Below w.heap.size w W)
    (fun _ _ _ => False)
    (OwnFrom.and (OwnFrom.and (Own.from (boxed_own _ _ _) _) (OwnFrom.and (Own.from (boxed_own _ _ _) _) (Own.from (boxed_own _ _ _) _))) (ownFrom_below (Nat.le_refl _) (by omega)))
    (fun _ _ _ _ _ hs _ _ => hs)
    (fun pre X Y b hs hg hb hO _ => ⟨⟨hs.1.1.kept hg (fun e => hO (.inl (Option.some.inj e).symm)), hs.1.2.1.kept hg (fun e => hO (.inr (Option.some.inj e).symm)), hs.1.2.2.kept hg (fun e => by have := Option.some.inj e; omega)⟩, hs.2.grown hg hs.2.size (fun k e => by cases e; omega)⟩)
    (fun _ _ _ _ _ hs _ _ _ _ => hs)
    ⟨⟨bO, b1, b2⟩, hB0⟩
    (fun pre x a' W => ∃ Bx, w.heap.size + 2 < Bx ∧ W.heap[Bx]? = some (.cells #[.slice x.a x.E.length x.c, .string x.f, .int .i64 (x.m : Int)] 84 (0, 0)) ∧ (x.k = pre.length ∧ x.k ≤ h ∧ x.E = (DG.lvl L x.k).1 ∧ x.f = (DG.lvl L x.k).2) ∧ RowAt W (.slice x.a x.E.length x.c) (x.E.map Value.string) ∧
      a' = { tmps := #[.slice a L.length c, undef, .string ⟨#[]⟩, .pointer (some ⟨w.heap.size, 0, none⟩), .pointer (some ⟨w.heap.size + 1, 0, none⟩), .int .i64 (x.k : Int), .pointer (some ⟨Bx, 0, none⟩), .slice a L.length c, .func (.func 79) #[] #[.pointer (some ⟨w.heap.size + 1 + 1, 0, none⟩)], .int .i64 (x.k : Int), lv x.a x.E.length x.c x.f x.m, undef, undef, undef, undef, undef, undef, undef], defers := [] })
    (fun pre x a' _ X Y row hs hg hr => by
      obtain ⟨Bx, h1, h2, h3, h4, h5⟩ := hs
      exact ⟨Bx, h1, row_kept h2 hg (fun r e => (hr r e).2), h3, h4.grown hg (fun r e => (hr r e).2), h5⟩)
    ?assign ?body ?done ?stop
  case assign =>
    rintro l pre x W K ⟨⟨B0, B1, B2⟩, hB⟩ ⟨g1, g2, g3, g4, g5, g6⟩ hK
    have hsW := hB.size
    have hs2 := B2.lt
    obtain ⟨k, xa, xc, E, f, m⟩ := x
    simp only at g1 g2 g3 g4 g5 g6
    have HK := Lib.hid hK
    have HG := Lib.hid (⟨g1, g2, g3, g4⟩ : k = pre.length ∧ k ≤ h ∧ E = (DG.lvl L k).1 ∧ f = (DG.lvl L k).2)
    clear g1 g2 g3 g4 g5 hK
    simp only [lvEnc]
    gi_wp2
    exact HK.out _ _ ((KeepsOthers.alloc _ _).from _) (kpO_below hOm (by omega) ((Below.refl _ W).alloc (Nat.le_refl _) _)) ⟨⟨B0.alloc _, B1.alloc _, B2.alloc _⟩, hB.alloc hsW _⟩ ⟨W.heap.size, by omega, World.alloc_heap_new W _, HG.out, g6.keep ((Below.refl _ W).alloc (Nat.le_refl _) _), rfl⟩
  case body =>
    rintro l pre x a' W hl ⟨r, hr⟩ ⟨⟨B0, B1, B2⟩, hB⟩ ⟨Bx, hBx, bX, hG, hrow, rfl⟩
    obtain ⟨k, xa, xc, E, f, m⟩ := x
    simp only at bX hG hrow
    have c0 : W.cell? ⟨Bx, 0, none⟩ = some (.slice xa E.length xc) := by simp [World.cell?, bX]
    have c1 : W.cell? ⟨Bx, 1, none⟩ = some (.string f) := by simp [World.cell?, bX]
    have c2 : W.cell? ⟨Bx, 2, none⟩ = some (.int .i64 (m : Int)) := by simp [World.cell?, bX]
    have hEl : E.length ≤ maxLen := by
      rw [hG.2.2.1]
      have := DG.lvl_small hL k
      unfold maxLen
      omega
    have hat : Calls Try.prog 65 #[lv xa E.length xc f m, .int .i64 0] W fun e w' => e = .returned (.string (E.getD 0 f)) ∧ Below W.heap.size W w' := at_any xa xc E f m 0 W hrow hEl (Nat.zero_le _)
    have htop : E.getD 0 f = DG.top L k := by unfold DG.top; rw [hG.2.2.1, hG.2.2.2]
    rw [htop] at hat
    have HAT := Lib.hid hat
    have HG := Lib.hid hG
    have HHB := Lib.hid hB
    have hn1 : 1 ≤ n - 1 - 1 := by omega
    have hsW0 : W0.heap.size ≤ W.heap.size := by have := B2.lt; omega
    clear hat hG hB hEl htop hrow hr
    gi_wp2_with (refine ⟨trivial, ?_⟩; gi_at_call 65; refine (CallsIn.inRound l (callsIn_wide.2 HAT.out)).mono ?_; rintro e w5 ⟨rfl, hb5⟩; have D0 := boxed_below B0 hb5; have D1 := boxed_below B1 hb5; have d0 := D0.cell; have d1 := D1.cell; have e0 := D0.frozen; have e1 := D1.frozen; have D2 := boxed_below B2 hb5; clear B0 B1 B2)
    have hsW := hb5.size
    have k1 : KpO (fun (_ : World) (b : Nat) => b = w.heap.size ∨ b = w.heap.size + 1) W w5 := kpO_below hOm hsW0 hb5
    have hpl : (pre ++ [(⟨k, xa, xc, E, f, m⟩ : LvX)]).length = k + 1 := by rw [List.length_append, HG.out.1]; rfl
    refine ⟨((below_keeps hb5).trans ((KeepsOthers.setCell _ _ _).trans (KeepsOthers.setCell _ _ _))).from _, (k1.trans (kpO_set (fun _ h => h) (.inr rfl))).trans (kpO_set (fun _ h => h) (.inl rfl)), ⟨?_, ?_, ?_⟩, ?_⟩
    · rw [hpl, if_neg (by omega), Nat.add_sub_cancel]
      exact (D0.other (by omega) _).set _
    · rw [hpl, Nat.add_sub_cancel]
      exact (D1.set _).other (by omega) _
    · exact (D2.other (by omega) _).other (by omega) _
    · exact ((bnext HHB.out hb5).setCell (p := ⟨w.heap.size + 1, 0, none⟩) (by simp) _).setCell (p := ⟨w.heap.size, 0, none⟩) (by simp) _
  case done =>
    rintro D xs W hD hlen ⟨⟨B0, B1, _⟩, hB⟩ hK
    rw [hlen, if_neg (by omega)] at B0
    rw [hlen] at B1
    simp only [Nat.add_sub_cancel] at B0 B1
    have d0 := B0.cell
    have d1 := B1.cell
    have HB := Lib.hid hB
    have HK := Lib.hid hK
    have hts : (DG.top L h).size < 2147483648 := getD_size (HSZ.out h).2 (HSZ.out h).1 0
    clear hB hK B0 B1 hlen
    gi_wp2_with (first | (refine ⟨trivial, ?_⟩; gi_at_call 66; refine (callsIn_wide.2 (root_any h (DG.top L h) _ (by omega) (by unfold maxLen; omega))).mono ?_; rintro e w5 ⟨rfl, hb5⟩) | (refine ⟨trivial, ?_⟩; gi_at_call 67; refine (callsIn_wide.2 (text_any _ _)).mono ?_; rintro e w6 ⟨rfl, hb6⟩))
    have hK6 := (hb6.block D (by have := (Array.getElem?_eq_some_iff.1 HK.out).1; have := hb5.size; omega)).trans ((hb5.block D (Array.getElem?_eq_some_iff.1 HK.out).1).trans HK.out)
    refine ⟨by simp, .inl ⟨_, _, rfl, run_takeDeferred hK6, ?_⟩⟩
    exact ⟨_, results_tmp rfl _ _ _, rfl, (bnext (bnext HB.out hb5) hb6).trans (belowK_b (w := w) (Nat.le_refl _) w6 D _ _ (by omega) hK6 rfl rfl)⟩
  case stop =>
    rintro D c pre W _ _ h _
    exact h.elim
end Go.Proofs.Ytinkhgmdeldniaa
end
