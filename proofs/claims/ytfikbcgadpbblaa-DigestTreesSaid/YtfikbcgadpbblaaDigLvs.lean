/- The levels that the iterator yields. -/
import Derived.Test.YtfikbcgadpbblaaDigNext
import Derived.Test.YtfikbcgadpbblaaRange
import Derived.Shelf.Abstract
import Derived.Shelf.RegionOpen
import Derived.WalkKit
import Derived.OwnWalkIn
import Derived.TacticsInMore
import Derived.LoopNIn
import Derived.LoopIn
import Derived.WalkMore
namespace Go.Proofs.Ytfikbcgadpbblaa.DG
/-- Level k of the tree of a list: its elements that are not fillers, and the filler. -/
def lvl (L : List ByteArray) : Nat → List ByteArray × ByteArray
  | 0 => (L, ⟨#[]⟩)
  | k + 1 => (ufs (lvl L k).2 (lvl L k).1 (((lvl L k).1.length + 1) / 2), Pair (lvl L k).2 (lvl L k).2)
/-- 2 ^ h is the least power of two that n fits into. -/
def IsH (n h : Nat) : Prop := n ≤ 2 ^ h ∧ ∀ j, j < h → 2 ^ j < n
theorem exists_h (n : Nat) : ∃ h, IsH n h := by
  have : ∀ d, n ≤ 2 ^ d → ∃ h, IsH n h := by
    intro d
    induction d with
    | zero => exact fun h => ⟨0, h, fun j hj => absurd hj (Nat.not_lt_zero _)⟩
    | succ d ih =>
      intro h
      by_cases hd : n ≤ 2 ^ d
      · exact ih hd
      · exact ⟨d + 1, h, fun j hj => Nat.lt_of_le_of_lt (Nat.pow_le_pow_right (by omega) (by omega)) (Nat.lt_of_not_le hd)⟩
  exact this n (Nat.le_of_lt Nat.lt_two_pow_self)
theorem IsH.le20 {n h : Nat} (hh : IsH n h) (hn : n ≤ 1000000) : h ≤ 20 := by
  rcases Nat.lt_or_ge 20 h with h1 | h1
  · have := hh.2 20 h1
    omega
  · exact h1
theorem IsH.lt_iff {n h j : Nat} (hh : IsH n h) (hj : j ≤ h) : 2 ^ j < n ↔ j < h :=
  ⟨fun h1 => by
    rcases Nat.lt_or_ge j h with h2 | h2
    · exact h2
    · have : j = h := by omega
      subst this
      have := hh.1
      omega, hh.2 j⟩
theorem lvl_small {L : List ByteArray} (hL : L.length ≤ 1000000) : ∀ k, (lvl L k).1.length ≤ 1000000
  | 0 => hL
  | k + 1 => by
    have := lvl_small hL k
    simp only [lvl, ufs_len]
    omega
theorem lvl_sizes {L : List ByteArray} (hs : ∀ s ∈ L, s.size < 2147483648) : ∀ k, (∀ s ∈ (lvl L k).1, s.size < 2147483648) ∧ (lvl L k).2.size < 2147483648
  | 0 => ⟨hs, by simp [lvl, ByteArray.size]⟩
  | k + 1 => ⟨fun s hm => by
      simp only [lvl, ufs, List.mem_map] at hm
      obtain ⟨i, _, rfl⟩ := hm
      unfold uf
      rw [Pair_size]
      omega, by
      simp only [lvl, Pair_size]
      omega⟩
end Go.Proofs.Ytfikbcgadpbblaa.DG
namespace Go.Proofs.Ytfikbcgadpbblaa
set_option linter.unusedVariables false
open Go.RowKit Go.Shelf
attribute [local go_sem] Oper.semAt_some
/-- What a round keeps: every block of cells that is none of the caller's own. -/
def KpO (O : World → Nat → Prop) (W W' : World) : Prop := W.heap.size ≤ W'.heap.size ∧ (∀ b, O W' b → O W b ∨ (W.heap.size ≤ b ∧ b < W'.heap.size)) ∧ ∀ b cs t fr, W.heap[b]? = some (.cells cs t fr) → ¬ O W b → W'.heap[b]? = some (.cells cs t fr)
theorem KpO.trans {O : World → Nat → Prop} {A B C : World} (h : KpO O A B) (k : KpO O B C) : KpO O A C :=
  ⟨Nat.le_trans h.1 k.1, fun b hb => by
    rcases k.2.1 b hb with h1 | ⟨h1, h2⟩
    · rcases h.2.1 b h1 with h3 | ⟨h3, h4⟩
      · exact .inl h3
      · exact .inr ⟨h3, Nat.lt_of_lt_of_le h4 k.1⟩
    · exact .inr ⟨Nat.le_trans h.1 h1, h2⟩, fun b cs t fr hb hO => k.2.2 b cs t fr (h.2.2 b cs t fr hb hO) (fun hB => by
    have hlt := (Array.getElem?_eq_some_iff.1 hb).1
    rcases h.2.1 b hB with h1 | ⟨h1, _⟩
    · exact hO h1
    · omega)⟩
/-- The elements lie in a block that is none of the caller's own. -/
def RowO (O : World → Nat → Prop) (W : World) (a : Option Addr) (E : List ByteArray) : Prop := E = [] ∨ ∃ g o cs t fr, a = some ⟨g, o, none⟩ ∧ ¬ O W g ∧ W.heap[g]? = some (.cells cs t fr) ∧ ∀ i, i < E.length → W.cell? ⟨g, o + i, none⟩ = some ((E.map Value.string).getD i (.bool false))
theorem RowO.row {O : World → Nat → Prop} {W : World} {a : Option Addr} {E : List ByteArray} {c : Nat} (h : RowO O W a E) : RowAt W (.slice a E.length c) (E.map Value.string) := by
  rcases h with rfl | ⟨g, o, cs, t, fr, rfl, _, hg, hc⟩
  · exact ⟨a, c, rfl, .inl rfl⟩
  · exact ⟨_, c, by rw [List.length_map], .inr ⟨g, o, rfl, (Array.getElem?_eq_some_iff.1 hg).1, fun i hi => hc i (by simpa using hi)⟩⟩
theorem RowO.kept {O : World → Nat → Prop} {W W' : World} {a : Option Addr} {E : List ByteArray} (h : RowO O W a E) (hk : KpO O W W') : RowO O W' a E := by
  rcases h with rfl | ⟨g, o, cs, t, fr, rfl, hO, hg, hc⟩
  · exact .inl rfl
  · have hg' := hk.2.2 g cs t fr hg hO
    refine .inr ⟨g, o, cs, t, fr, rfl, fun hb => ?_, hg', fun i hi => ?_⟩
    · have hlt := (Array.getElem?_eq_some_iff.1 hg).1
      rcases hk.2.1 g hb with h1 | ⟨h1, _⟩
      · exact hO h1
      · omega
    · rw [← hc i hi]
      exact World.cell?_of_block (a := ⟨g, o + i, none⟩) (hg'.trans hg.symm)
theorem RowO.own {O : World → Nat → Prop} {W W' : World} {a : Option Addr} {E : List ByteArray} (h : RowO O W a E) (hO : ∀ b, O W' b → O W b) (hb : ∀ k o, a = some ⟨k, o, none⟩ → k < W.heap.size → W'.heap[k]? = W.heap[k]?) : RowO O W' a E := by
  rcases h with rfl | ⟨g, o, cs, t, fr, rfl, hO', hg, hc⟩
  · exact .inl rfl
  · have hg' := hb g o rfl (Array.getElem?_eq_some_iff.1 hg).1
    refine .inr ⟨g, o, cs, t, fr, rfl, fun hb => hO' (hO g hb), hg'.trans hg, fun i hi => ?_⟩
    rw [← hc i hi]
    exact World.cell?_of_block (a := ⟨g, o + i, none⟩) hg'
theorem cells_of_cell {W : World} {g o : Nat} {v : Value} (h : W.cell? ⟨g, o, none⟩ = some v) : ∃ cs t fr, W.heap[g]? = some (.cells cs t fr) := by
  unfold World.cell? at h
  simp only at h
  split at h
  · exact ⟨_, _, _, by assumption⟩
  · cases h
theorem RowO.fresh {O : World → Nat → Prop} {W : World} {a : Option Addr} {E : List ByteArray} {n c : Nat} (h : RowAt W (.slice a n c) (E.map Value.string)) (hO : ∀ g o, a = some ⟨g, o, none⟩ → ¬ O W g) : RowO O W a E := by
  obtain ⟨a', c', he, h⟩ := h.out
  injection he with h1 h2 h3
  subst h1
  rcases h with h | ⟨g, o, rfl, hg, hc⟩
  · exact .inl (by simpa using h)
  · by_cases hE : E = []
    · exact .inl hE
    · have hpos : 0 < E.length := List.length_pos_iff.2 hE
      obtain ⟨cs, t, fr, hcs⟩ := cells_of_cell (hc 0 (by simpa using hpos))
      exact .inr ⟨g, o, cs, t, fr, rfl, hO g o rfl, hcs, fun i hi => hc i (by simpa using hi)⟩
/-- The size that a level in a box has. -/
def szAt (w : World) (p : Nat) : Nat := match w.cell? ⟨p, 2, none⟩ with | some (.int _ s) => s.toNat | _ => 0
/-- A level as it is handed over. -/
structure LvX where
  k : Nat
  a : Option Addr
  c : Nat
  E : List ByteArray
  f : ByteArray
  m : Nat
def lvEnc (x : LvX) : Array Value := #[.int .i64 (x.k : Int), lv x.a x.E.length x.c x.f x.m]
/-- What is known of it. -/
def LvG (L : List ByteArray) (h : Nat) (pre : List LvX) (x : LvX) (W : World) : Prop := x.k = pre.length ∧ x.k ≤ h ∧ x.E = (DG.lvl L x.k).1 ∧ x.f = (DG.lvl L x.k).2 ∧ x.m = 2 ^ (h - x.k) ∧ RowAt W (.slice x.a x.E.length x.c) (x.E.map Value.string)
/-- Between two rounds. -/
def LvI (L : List ByteArray) (h : Nat) (J : List LvX → World → Prop) (O : World → Nat → Prop) (p : Nat) (v : Value) (W : World) : Prop := ∃ (pre : List LvX) (a : Option Addr) (c : Nat), v = .int .i64 (pre.length : Int) ∧ pre.length ≤ h ∧ J pre W ∧
  W.heap[p]? = some (.cells #[.slice a (DG.lvl L pre.length).1.length c, .string (DG.lvl L pre.length).2, .int .i64 ((2 ^ (h - pre.length) : Nat) : Int)] 56 (0, 0)) ∧ ¬ O W p ∧ RowO O W a (DG.lvl L pre.length).1 ∧ ∀ b, O W b → b < W.heap.size
set_option maxRecDepth 100000 in
set_option maxHeartbeats 4000000 in
theorem levels_in (n : Nat) (hn : 1 ≤ n) (l bt B0 : Nat) (O : World → Nat → Prop) (L : List ByteArray) (a : Option Addr) (c h : Nat) (J Jx : List LvX → World → Prop) (hL : L.length ≤ 1000000) (hs : ∀ s ∈ L, s.size < 2147483648) (hh : DG.IsH L.length h)
    (hY : ∀ pre x W, J pre W → LvG L h pre x W → YieldAt Fence.wide (n - 1) Try.prog l (lvEnc x) W fun e W' =>
      (e = .returned (.bool true) ∧ J (pre ++ [x]) W' ∧ KpO O W W') ∨ (e = .returned (.bool false) ∧ Jx (pre ++ [x]) W'))
    (W : World) (hB0 : B0 ≤ W.heap.size) (hbt : bt < W.heap.size) (hO : ∀ A B, Below B0 A B → ∀ b, O B b → O A b) (hO0 : ∀ b, O W b → b < W.heap.size) (hJ : AbidesFrom W.heap.size J) (hJo : AbidesOwn W.heap.size O J)
    (ht : W.cell? ⟨bt, 0, none⟩ = some (.slice a L.length c)) (hr : RowO O W a L) (h0 : J [] W) :
    CallsIn Fence.wide n Try.prog 34 #[.func (.yield l) #[] #[], .pointer (some ⟨bt, 0, none⟩)] W fun e W' => (∃ v, e = .returned v) ∧
      ((∃ ys : List LvX, ys.length = h + 1 ∧ J ys W') ∨ (∃ pre, True ∧ Jx pre W')) := by
  have h20 := hh.le20 hL
  have HH := Lib.hid hh
  obtain ⟨nl, hnl⟩ : ∃ nl, L.length = nl := ⟨_, rfl⟩
  have HN := Lib.hid hnl
  have HLL := Lib.hid hL
  rw [hnl] at ht hL
  clear hnl
  refine callsIn_of_wp Try.func34 rfl trivial ?_ rfl
  simp only [Try.ntmps34, List.size_toArray, List.length_cons, List.length_nil, Nat.reduceAdd, Nat.reduceSub, Array.replicate_succ, Array.replicate_zero, List.push_toArray, List.append_toArray, List.nil_append, List.cons_append]
  have hW1 := heap_alloc_new W (.cells #[.slice a nl c, .string ⟨#[]⟩, .int .i64 1] 56)
  have hbW := (Below.refl W.heap.size W).alloc (Nat.le_refl _) (.cells #[.slice a nl c, .string ⟨#[]⟩, .int .i64 1] 56)
  have HJ : Hid (∀ pre A B, J pre A → Below A.heap.size A B → J pre B) := Lib.hid fun pre A B hA hb => hJ pre A B none hA ⟨hb.os, hb.tape, hb.output, hb.size, fun k hk _ => hb.block k hk⟩ (fun r e => by cases e)
  have HT : Hid (∀ B, Below W.heap.size W B → B.cell? ⟨bt, 0, none⟩ = some (.slice a nl c)) := Lib.hid fun B hb => (hb.cell (p := ⟨bt, 0, none⟩) hbt).trans ht
  have HJO := Lib.hid hJo
  have HO := Lib.hid hO
  have HO0 := Lib.hid hO0
  have HRR := Lib.hid hr
  have HY := Lib.hid hY
  have HS := Lib.hid hs
  have HJ0 := Lib.hid h0
  have hpO : ¬ O W W.heap.size := fun hb => Nat.lt_irrefl _ (hO0 _ hb)
  gi_wp2
  generalize W.alloc (.cells #[.slice a nl c, .string ⟨#[]⟩, .int .i64 1] 56) = W1 at hW1 hbW ⊢
  obtain ⟨p, hp⟩ : ∃ p, W.heap.size = p := ⟨_, rfl⟩
  have HP := Lib.hid hp
  rw [hp] at hW1 hpO ⊢
  clear hJ hJo hO hO0 hr hY hs h0 ht hp
  gi_loopw [8] (fun _ wr => ∃ j : Nat, j ≤ h ∧ wr.heap[p]? = some (.cells #[.slice a nl c, .string ⟨#[]⟩, .int .i64 ((2 ^ j : Nat) : Int)] 56 (0, 0)) ∧ Below W.heap.size W wr) (fun _ wr => nl - szAt wr p)
  case atStart => exact ⟨0, Nat.zero_le _, hW1, hbW⟩
  case round =>
    clear hW1 hbW
    obtain ⟨j, hj, hx, hb⟩ := hrel
    have ct := HT.out wr hb
    have c0 : wr.cell? ⟨p, 0, none⟩ = some (.slice a nl c) := by simp [World.cell?, hx]
    have c1 : wr.cell? ⟨p, 1, none⟩ = some (.string ⟨#[]⟩) := by simp [World.cell?, hx]
    have c2 : wr.cell? ⟨p, 2, none⟩ = some (.int .i64 ((2 ^ j : Nat) : Int)) := by simp [World.cell?, hx]
    have f2 : wr.frozen? ⟨p, 2, none⟩ = false := by simp [World.frozen?, hx]
    have hsz : szAt wr p = 2 ^ j := by unfold szAt; rw [c2]; exact Int.toNat_natCast _
    have hle : 2 ^ j ≤ 1048576 := Nat.le_trans (Nat.pow_le_pow_right (by omega) (Nat.le_trans hj h20)) (by decide)
    have hiff := HH.out.lt_iff hj
    rw [HN.out] at hiff
    have hdbl : 2 ^ (j + 1) = 2 * 2 ^ j := Nat.pow_succ'
    by_cases hlt : 2 ^ j < nl
    · have hjh := hiff.1 hlt
      have hlti : ((2 ^ j : Nat) : Int) < (nl : Int) := by omega
      have HD := Lib.hid hdbl
      have HX := Lib.hid (heap_setCell_same wr p 2 _ 56 (.int .i64 (((2 ^ j : Nat) : Int) * 2)) hx)
      have HSZ := Lib.hid hsz
      have HB := Lib.hid (hb.setCell (p := ⟨p, 2, none⟩) (by rw [HP.out]; exact Nat.le_refl _) (.int .i64 (((2 ^ j : Nat) : Int) * 2)))
      have hpos : 0 < 2 ^ j := Nat.two_pow_pos j
      obtain ⟨s, hs⟩ : ∃ s, 2 ^ j = s := ⟨_, rfl⟩
      have HSJ := Lib.hid hs
      rw [hs] at c2 hlti hle hlt hpos HX HB
      clear hs hdbl hsz hiff hx hb
      gi_wp2
      go_roundw
      case rel =>
        refine ⟨j + 1, hjh, ?_, HB.out⟩
        rw [show ((2 ^ (j + 1) : Nat) : Int) = (s : Int) * 2 by rw [HD.out, HSJ.out]; omega]
        exact HX.out
      case measure =>
        rw [HSZ.out, HSJ.out]
        have : szAt (wr.setCell ⟨p, 2, none⟩ (.int .i64 ((s : Int) * 2))) p = s * 2 := by
          have := HX.out
          simp only [szAt, World.cell?, this]
          simp
          omega
        rw [this]
        omega
    · have hjh : j = h := by omega
      have hlti : ¬ ((2 ^ j : Nat) : Int) < (nl : Int) := by omega
      subst hjh
      obtain ⟨s, hs⟩ : ∃ s, 2 ^ j = s := ⟨_, rfl⟩
      rw [hs] at c2 hlti hle hlt hx
      have HSJ := Lib.hid hs
      clear hsz hiff hdbl hs
      gi_wp2
      have HBA := Lib.hid hb
      have HX0 := Lib.hid hx
      clear hb hx c0 c1 c2 f2 ct hlt hlti
      have hpW : W.heap.size ≤ p := by rw [HP.out]; exact Nat.le_refl _
      have hOown : ∀ b, O wr b → O W b := fun b hb => HO.out W wr (HBA.out.mono hB0) b hb
      have hst : LvI L j J O p (.int .i64 0) wr := by
        refine ⟨[], a, c, rfl, Nat.zero_le _, HJ.out _ _ _ HJ0.out HBA.out, ?_, fun hb => hpO (hOown _ hb), HRR.out.own hOown (fun k o _ hk => HBA.out.block k hk), fun b hb => Nat.lt_of_lt_of_le (HO0.out b (hOown b hb)) HBA.out.size⟩
        rw [HX0.out, ← HSJ.out, ← HN.out]
        rfl
      gi_loopw [4] (fun v4 wr => LvI L j J O p v4 wr) (fun v4 _ => j + 1 - (intOf v4).toNat)
      case atStart => exact hst
      case round =>
        clear hst HX0 HBA hOown
        obtain ⟨pre, a, c, rfl, hk, hJr, hx, hpO, hrow, hOs⟩ := hrel
        have hsm := DG.lvl_small HLL.out pre.length
        obtain ⟨hss, hsf⟩ := DG.lvl_sizes HS.out pre.length
        obtain ⟨k, hkk⟩ : ∃ k, pre.length = k := ⟨_, rfl⟩
        have HKK := Lib.hid hkk
        obtain ⟨E, hE⟩ : ∃ E, (DG.lvl L k).1 = E := ⟨_, rfl⟩
        obtain ⟨f, hf⟩ : ∃ f, (DG.lvl L k).2 = f := ⟨_, rfl⟩
        obtain ⟨m, hm⟩ : ∃ m, 2 ^ (j - k) = m := ⟨_, rfl⟩
        rw [hkk] at hk hx hrow hsm hss hsf
        rw [hE] at hx hrow hsm hss
        rw [hf] at hx hsf
        rw [hm] at hx
        have hG : LvG L j pre ⟨k, a, c, E, f, m⟩ wr := ⟨hkk.symm, hk, hE.symm, hf.symm, hm.symm, hrow.row⟩
        have hyy := HY.out pre ⟨k, a, c, E, f, m⟩ wr hJr hG
        obtain ⟨ne, hne⟩ : ∃ ne, E.length = ne := ⟨_, rfl⟩
        simp only [lvEnc] at hyy
        rw [hne] at hyy hx hsm
        obtain ⟨fn, tmps, assign, body, hy, hR⟩ := hyy
        have c0 : wr.cell? ⟨p, 0, none⟩ = some (.slice a ne c) := by simp [World.cell?, hx]
        have c1 : wr.cell? ⟨p, 1, none⟩ = some (.string f) := by simp [World.cell?, hx]
        have c2 : wr.cell? ⟨p, 2, none⟩ = some (.int .i64 (m : Int)) := by simp [World.cell?, hx]
        have HX := Lib.hid hx
        have HE := Lib.hid hE
        have HF := Lib.hid hf
        have HM := Lib.hid hm
        have HNE := Lib.hid hne
        have HROW := Lib.hid hrow
        have HOS := Lib.hid hOs
        have hm1 : m ≤ 1048576 := by rw [← hm]; exact Nat.le_trans (Nat.pow_le_pow_right (by omega) (by omega)) (Nat.pow_le_pow_right (by omega) h20 : 2 ^ j ≤ 2 ^ 20)
        have HSS := Lib.hid hss
        have HMK : Hid (if k < j then 1 < m ∧ m / 2 = 2 ^ (j - (k + 1)) else m = 1) := Lib.hid (by
          by_cases hkj : k < j
          · rw [if_pos hkj, ← hm, show j - k = (j - (k + 1)) + 1 by omega, Nat.pow_succ]
            have := Nat.two_pow_pos (j - (k + 1))
            omega
          · rw [if_neg hkj, ← hm, show j - k = 0 by omega])
        clear hx hE hf hm hne hrow hOs hss hJr hG
        rw [hkk]
        clear hkk
        by_cases hkj : k < j
        · obtain ⟨hm2, hmh⟩ : 1 < m ∧ m / 2 = 2 ^ (j - (k + 1)) := by have := HMK.out; rwa [if_pos hkj] at this
          have hm2i : (1 : Int) < (m : Int) := by omega
          have HMH := Lib.hid hmh
          clear hmh
          gi_wp2
          refine hR.mono ?_
          clear hR hy c0 c1 c2
          rintro e W3 (⟨rfl, hJ3, hk3⟩ | ⟨rfl, hJx3⟩)
          · have hx3 := hk3.2.2 _ _ _ _ HX.out hpO
            have hrow3 := HROW.out.kept hk3
            have hpO3 : ¬ O W3 p := fun hb => by
              have hlt := (Array.getElem?_eq_some_iff.1 HX.out).1
              rcases hk3.2.1 p hb with h1 | ⟨h1, _⟩
              · exact hpO h1
              · omega
            have hOs3 : ∀ b, O W3 b → b < W3.heap.size := fun b hb => by
              rcases hk3.2.1 b hb with h1 | ⟨_, h1⟩
              · exact Nat.lt_of_lt_of_le (HOS.out b h1) hk3.1
              · exact h1
            have c0 : W3.cell? ⟨p, 0, none⟩ = some (.slice a ne c) := by simp [World.cell?, hx3]
            have c1 : W3.cell? ⟨p, 1, none⟩ = some (.string f) := by simp [World.cell?, hx3]
            have c2 : W3.cell? ⟨p, 2, none⟩ = some (.int .i64 (m : Int)) := by simp [World.cell?, hx3]
            have hnx := next_any a c E f m W3 hrow3.row (by rw [HNE.out]; exact hsm) (by unfold maxLen; omega) hsf HSS.out
            rw [HNE.out] at hnx
            have HNX := Lib.hid hnx
            have HX3 := Lib.hid hx3
            have HJ3 := Lib.hid hJ3
            have HO3 := Lib.hid hOs3
            clear hnx hx3 hrow3 hk3 hJ3 hOs3
            gi_wp2_with (refine ⟨trivial, ?_⟩; gi_at_call 35; refine (callsIn_wide.2 HNX.out).mono ?_; rintro e w5 ⟨a', c', rfl, hsrc, hfr, hb5⟩; have hx5 := (hb5.block p (Array.getElem?_eq_some_iff.1 HX3.out).1).trans HX3.out; have d0 : w5.cell? ⟨p, 0, none⟩ = some (.slice a ne c) := (by simp [World.cell?, hx5]); have d1 : w5.cell? ⟨p, 1, none⟩ = some (.string f) := (by simp [World.cell?, hx5]); have d2 : w5.cell? ⟨p, 2, none⟩ = some (.int .i64 (m : Int)) := (by simp [World.cell?, hx5]); have f0 : w5.frozen? ⟨p, 0, none⟩ = false := (by simp [World.frozen?, hx5]); have f1 : w5.frozen? ⟨p, 1, none⟩ = false := (by simp [World.frozen?, hx5]); have f2 : w5.frozen? ⟨p, 2, none⟩ = false := (by simp [World.frozen?, hx5]); have HX5 := Lib.hid hx5; have HSRC := Lib.hid hsrc; have HB5 := Lib.hid hb5; clear hx5 hsrc hb5)
            have hlt3 : p < W3.heap.size := (Array.getElem?_eq_some_iff.1 HX3.out).1
            have hlt5 : p < w5.heap.size := Nat.lt_of_lt_of_le hlt3 HB5.out.size
            have hB3 : B0 ≤ W3.heap.size := by have := HP.out; omega
            have hBp : B0 ≤ p := by have := HP.out; omega
            have hO5 : ∀ b, O w5 b → O W3 b := fun b hb => HO.out W3 w5 (HB5.out.mono hB3) b hb
            have hx6 := heap_setCell_same w5 p 0 _ 56 (.slice a' ((ne + 1) / 2) c') HX5.out
            have hx7 := heap_setCell_same _ p 1 _ 56 (.string (DG.Pair f f)) hx6
            have hx8 := heap_setCell_same _ p 2 _ 56 (.int .i64 ((m : Int) / 2)) hx7
            have hO6 : ∀ b, O (w5.setCell ⟨p, 0, none⟩ (.slice a' ((ne + 1) / 2) c')) b → O w5 b := fun b hb => HO.out w5 _ ((Below.refl B0 w5).setCell (p := ⟨p, 0, none⟩) hBp _) b hb
            have hO7 : ∀ b, O ((w5.setCell ⟨p, 0, none⟩ (.slice a' ((ne + 1) / 2) c')).setCell ⟨p, 1, none⟩ (.string (DG.Pair f f))) b → O w5 b := fun b hb => hO6 b (HO.out _ _ ((Below.refl B0 _).setCell (p := ⟨p, 1, none⟩) hBp _) b hb)
            have hO8 : ∀ b, O (((w5.setCell ⟨p, 0, none⟩ (.slice a' ((ne + 1) / 2) c')).setCell ⟨p, 1, none⟩ (.string (DG.Pair f f))).setCell ⟨p, 2, none⟩ (.int .i64 ((m : Int) / 2))) b → O w5 b := fun b hb => hO7 b (HO.out _ _ ((Below.refl B0 _).setCell (p := ⟨p, 2, none⟩) hBp _) b hb)
            have j5 := HJ.out _ _ _ HJ3.out HB5.out
            have hn5 : ¬ O w5 p := fun hb => hpO3 (hO5 p hb)
            have j6 := HJO.out _ _ _ p j5 (grown_setcell w5 p 0 (.slice a' ((ne + 1) / 2) c')) hpW hn5 ⟨_, _, _, HX5.out⟩
            have j7 := HJO.out _ _ _ p j6 (grown_setcell _ p 1 (.string (DG.Pair f f))) hpW (fun hb => hn5 (hO6 p hb)) ⟨_, _, _, hx6⟩
            have j8 := HJO.out _ _ _ p j7 (grown_setcell _ p 2 (.int .i64 ((m : Int) / 2))) hpW (fun hb => hn5 (hO7 p hb)) ⟨_, _, _, hx7⟩
            have hr5 : RowO O w5 a' (DG.ufs f E ((ne + 1) / 2)) := RowO.fresh HSRC.out.row (fun g o e hb => by
              have := hfr g o e
              have := HO3.out g (hO5 g hb)
              omega)
            have hga : ∀ g o, a' = some ⟨g, o, none⟩ → g ≠ p := fun g o e => by have := hfr g o e; omega
            have hlv : DG.lvl L (k + 1) = (DG.ufs f E ((ne + 1) / 2), DG.Pair f f) := by
              show (DG.ufs (DG.lvl L k).2 (DG.lvl L k).1 (((DG.lvl L k).1.length + 1) / 2), DG.Pair (DG.lvl L k).2 (DG.lvl L k).2) = _
              rw [HE.out, HF.out, HNE.out]
            have hlen : (DG.ufs f E ((ne + 1) / 2)).length = (ne + 1) / 2 := DG.ufs_len _ _ _
            have hmi : (m : Int) / 2 = ((2 ^ (j - (k + 1)) : Nat) : Int) := by rw [← HMH.out]; omega
            have hpl : (pre ++ [(⟨k, a, c, E, f, m⟩ : LvX)]).length = k + 1 := by rw [List.length_append, HKK.out]; rfl
            refine ⟨⟨pre ++ [⟨k, a, c, E, f, m⟩], a', c', by rw [hpl]; go_num, by rw [hpl]; exact hkj, j8, ?_, fun hb => hn5 (hO8 p hb), ?_, fun b hb => ?_⟩, by simp [intOf]; omega⟩
            · rw [hpl, hlv]
              simp only
              rw [hlen, ← hmi]
              exact hx8
            · rw [hpl, hlv]
              refine hr5.own hO8 (fun g o e hlt => ?_)
              have hne := hga g o e
              rw [Below.heap_setCell _ _ _ _ hne, Below.heap_setCell _ _ _ _ hne, Below.heap_setCell _ _ _ _ hne]
            · have h1 := HO3.out b (hO5 b (hO8 b hb))
              have h2 := HB5.out.size
              have h3 := (grown_setcell w5 p 0 (.slice a' ((ne + 1) / 2) c')).size
              have h4 := (grown_setcell (w5.setCell ⟨p, 0, none⟩ (.slice a' ((ne + 1) / 2) c')) p 1 (.string (DG.Pair f f))).size
              have h5 := (grown_setcell ((w5.setCell ⟨p, 0, none⟩ (.slice a' ((ne + 1) / 2) c')).setCell ⟨p, 1, none⟩ (.string (DG.Pair f f))) p 2 (.int .i64 ((m : Int) / 2))).size
              omega
          · gi_wp2
            go_end0
            exact ⟨⟨_, rfl⟩, .inr ⟨_, trivial, hJx3⟩⟩
        · have hm1' : m = 1 := by have := HMK.out; rwa [if_neg hkj] at this
          have hm2i : ¬ (1 : Int) < (m : Int) := by omega
          clear hm1'
          gi_wp2
          refine hR.mono ?_
          clear hR hy c0 c1 c2
          have hpl : (pre ++ [(⟨k, a, c, E, f, m⟩ : LvX)]).length = j + 1 := by rw [List.length_append, HKK.out, show k = j by omega]; rfl
          rintro e W3 (⟨rfl, hJ3, hk3⟩ | ⟨rfl, hJx3⟩)
          · have hx3 := hk3.2.2 _ _ _ _ HX.out hpO
            have c2 : W3.cell? ⟨p, 2, none⟩ = some (.int .i64 (m : Int)) := by simp [World.cell?, hx3]
            have HJ3 := Lib.hid hJ3
            have HPL := Lib.hid hpl
            clear hx3 hk3 hJ3 hpl
            gi_wp2
            go_end0
            exact ⟨⟨_, rfl⟩, .inl ⟨_, HPL.out, HJ3.out⟩⟩
          · have HJX := Lib.hid hJx3
            clear hpl hJx3
            gi_wp2
            go_end0
            exact ⟨⟨_, rfl⟩, .inr ⟨_, trivial, HJX.out⟩⟩
end Go.Proofs.Ytfikbcgadpbblaa
