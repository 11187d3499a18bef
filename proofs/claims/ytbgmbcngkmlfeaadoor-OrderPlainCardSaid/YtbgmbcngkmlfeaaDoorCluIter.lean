/- The clusters that the iterator yields are those of the plain function, in their order. -/
import Derived.Test.YtbgmbcngkmlfeaaDoorCluBeg
import Derived.RangeFuncNested
import Derived.RangeFuncBound
import Derived.RangeFuncCalls
import Derived.RangeFuncLeaves
import Derived.Shelf.Abstract
import Derived.Shelf.RegionOpen
import Derived.WalkKit
import Derived.OwnWalkIn
import Derived.TacticsInMore
import Derived.LoopNIn
import Derived.LoopIn
import Derived.WalkMore
namespace Go.Proofs.YtbgmbcngkmlfeaaDoor
set_option linter.unusedVariables false
open Go.RowKit Go.Shelf
attribute [local go_sem] Oper.semAt_some
theorem wpIn_scope {P : Program} {n : Nat} {c : Code} {Q : Exit → Act → World → Prop} {a : Act} {w : World} (h : c.wpIn Fence.wide n P (Exit.noGoto Q) a w) : (Code.scope c).wpIn Fence.wide n P Q a w :=
  wpIn_wide.2 (wp_scope_straight ((wpIn_wide (n := n)).1 h))
abbrev sp (x : Nat × Nat) : Value := .agg #[.int .i64 (x.1 : Int), .int .i64 (x.2 : Int)]
/-- What a round keeps: the cells of the blocks that S names. -/
def KpS (S : Nat → Prop) (W W' : World) : Prop := W.heap.size ≤ W'.heap.size ∧ ∀ p : Addr, S p.block → p.block < W.heap.size → W'.cell? p = W.cell? p
theorem KpS.refl (S : Nat → Prop) (W : World) : KpS S W W := ⟨Nat.le_refl _, fun _ _ _ => rfl⟩
theorem KpS.trans {S : Nat → Prop} {A B C : World} (h : KpS S A B) (k : KpS S B C) : KpS S A C :=
  ⟨Nat.le_trans h.1 k.1, fun p hp hl => (k.2 p hp (Nat.lt_of_lt_of_le hl h.1)).trans (h.2 p hp hl)⟩
theorem KpS.of {S : Nat → Prop} {A B : World} (h : Below A.heap.size A B) : KpS S A B := ⟨h.size, fun p _ hl => h.cell hl⟩
theorem KpS.at {S : Nat → Prop} {A B : World} (h : KpS S A B) {p : Addr} {v : Value} (hs : S p.block) (hc : A.cell? p = some v) : B.cell? p = some v := (h.2 p hs (World.block_lt_of_cell? A p hc)).trans hc
theorem KpS.laid {S : Nat → Prop} {A B : World} {g : Nat × Nat} (h : KpS S A B) (hg : S g.1) (h0 : S 0) (hl : Laid A g) : Laid B g :=
  ⟨Nat.lt_of_lt_of_le hl.lt h.1, Nat.lt_of_lt_of_le hl.lt0 h.1, h.at (p := ⟨_, _, none⟩) h0 hl.var, fun k j hk hj => h.at (p := ⟨g.1, _, none⟩) hg (hl.cells k j hk hj)⟩
set_option maxRecDepth 100000 in
set_option maxHeartbeats 4000000 in
theorem iter_in (n : Nat) (hn : 1 ≤ n) (l bt bf b2 : Nat) (S : Nat → Prop) (s : ByteArray) (g : Nat × Nat) (J Jx : List (Nat × Nat) → World → Prop) (hs : s.size ≤ maxLen)
    (hY : ∀ pre x W, J pre W → pre.length < (CP.split s).length → YieldAt Fence.wide (n - 1) Tryd.prog l #[sp x] W fun e W' =>
      (e = .returned (.bool true) ∧ J (pre ++ [x]) W' ∧ KpS S W W') ∨ (e = .returned (.bool false) ∧ Jx (pre ++ [x]) W'))
    (W : World) (hJ : AbidesFrom W.heap.size J) (hbt : S bt) (hbf : S bf) (hb2 : S b2) (hg1 : S g.1) (hg0 : S 0) (hl : Laid W g)
    (ht : W.cell? ⟨bt, 0, none⟩ = some (.string s)) (ht2 : W.cell? ⟨b2, 0, none⟩ = some (.string s)) (hf : W.cell? ⟨bf, 0, none⟩ = some (.func (.func 61) #[] #[.pointer (some ⟨b2, 0, none⟩)])) (h0 : J [] W) :
    CallsIn Fence.wide n Tryd.prog 59 #[.func (.yield l) #[] #[], .pointer (some ⟨bt, 0, none⟩), .pointer (some ⟨bf, 0, none⟩)] W fun e W' => (∃ v, e = .returned v) ∧
      ((∃ ys, ys = CP.split s ∧ J ys W') ∨ (∃ pre, pre <+: CP.split s ∧ Jx pre W')) := by
  have HS := Lib.hid hs
  unfold maxLen at hs
  refine callsIn_of_wp Tryd.func59 rfl trivial ?_ rfl
  simp only [Tryd.ntmps59, List.size_toArray, List.length_cons, List.length_nil, Nat.reduceAdd, Nat.reduceSub, Array.replicate_succ, Array.replicate_zero, List.push_toArray, List.append_toArray, List.nil_append, List.cons_append]
  refine wpIn_scope ?_
  gi_wp2
  refine wpIn_label ?_
  gi_wp2
  have HJ : Hid (∀ pre A B, J pre A → Below A.heap.size A B → J pre B) := Lib.hid fun pre A B hA hb => hJ pre A B none hA ⟨hb.os, hb.tape, hb.output, hb.size, fun k hk _ => hb.block k hk⟩ (fun r e => by cases e)
  have HL : Hid (∀ B, KpS S W B → Laid B g) := Lib.hid fun B hb => hb.laid hg1 hg0 hl
  have HT : Hid (∀ B, KpS S W B → B.cell? ⟨bt, 0, none⟩ = some (.string s) ∧ B.cell? ⟨bf, 0, none⟩ = some (.func (.func 61) #[] #[.pointer (some ⟨b2, 0, none⟩)]) ∧ B.cell? ⟨b2, 0, none⟩ = some (.string s)) := Lib.hid fun B hb => ⟨hb.at (p := ⟨bt, 0, none⟩) hbt ht, hb.at (p := ⟨bf, 0, none⟩) hbf hf, hb.at (p := ⟨b2, 0, none⟩) hb2 ht2⟩
  have hY' := Lib.hid hY
  clear hJ hl ht ht2 hf hY hb2
  gi_loopw [4] (fun v wr => ∃ (pre : List (Nat × Nat)) (f : Nat), v = .int .i64 f ∧ Hid (CP.At s pre f) ∧ f ≤ s.size ∧ J pre wr ∧ KpS S W wr) (fun v _ => s.size - (intOf v).toNat)
  case atStart => exact ⟨[], 0, rfl, Lib.hid (CP.At.start s), Nat.zero_le _, h0, KpS.refl _ _⟩
  case round =>
    clear h0
    obtain ⟨pre, f, rfl, HA, hfs, hJr, hb⟩ := hrel
    obtain ⟨c1, c2, c3⟩ := HT.out _ hb
    by_cases hfl : f < s.size
    · have hfi : (f : Int) < (s.size : Int) := by omega
      gi_wp2
      gi_loopw [4, 5] (fun v0 v wi => ∃ i : Nat, v0 = .int .i64 f ∧ v = .int .i64 i ∧ f + 1 ≤ i ∧ i ≤ s.size ∧ Hid (CP.nxt s f (s.size - i) i = CP.stop s f) ∧ J pre wi ∧ KpS S W wi) (fun _ v _ => s.size - (intOf v).toNat)
      case atStart => exact ⟨f + 1, rfl, by go_num, Nat.le_refl _, hfl, Lib.hid rfl, hJr, hb⟩
      case round =>
        clear hJr hb c1 c2 c3
        obtain ⟨i, rfl, rfl, hi0, hi1, HN, hJr, hb⟩ := hrel
        obtain ⟨c1, c2, c3⟩ := HT.out _ hb
        by_cases hil : i < s.size
        · have hii : (i : Int) < (s.size : Int) := by omega
          have HC := Lib.hid (begins_any s f i b2 g wr (HL.out _ hb) HS.out hil (by omega) c3)
          cases hbg : CP.beg s f i with
          | false =>
            rw [hbg] at HC
            have HN2 : Hid (CP.nxt s f (s.size - (i + 1)) (i + 1) = CP.stop s f) := Lib.hid (by rw [← HN.out, CP.nxt_on hbg (by omega)]; congr 1)
            clear hbg
            gi_wp2_with (refine ⟨trivial, ?_⟩; gi_at_call 61; refine (callsIn_wide.2 HC.out).mono ?_; rintro e w2 ⟨rfl, hb2⟩)
            go_roundw
            case rel => exact ⟨i + 1, rfl, by go_num, by omega, hil, HN2, HJ.out _ _ _ hJr hb2, hb.trans (KpS.of hb2)⟩
            case measure => simp [intOf]; omega
          | true =>
            rw [hbg] at HC
            have HE : Hid (CP.stop s f = i) := Lib.hid (by rw [← HN.out, CP.nxt_here hbg (by omega)])
            clear hbg
            have hm := HA.out.more hfl
            gi_wp2_with (refine ⟨trivial, ?_⟩; gi_at_call 61; refine (callsIn_wide.2 HC.out).mono ?_; rintro e w2 ⟨rfl, hb2⟩; have hJ2 := HJ.out _ _ _ hJr hb2; obtain ⟨fn, tmps, assign, body, hy, hR⟩ := hY'.out pre (f, i) _ hJ2 hm)
            refine hR.mono ?_
            rintro e W3 (⟨rfl, hJ3, hk3⟩ | ⟨rfl, hJx3⟩)
            · gi_wp2
              have HA2 := HA.out.next hfl
              rw [HE.out] at HA2
              exact ⟨⟨pre ++ [(f, i)], i, rfl, Lib.hid HA2, hi1, hJ3, (hb.trans (KpS.of hb2)).trans hk3⟩, by simp [intOf]; omega⟩
            · gi_wp2
              rw [Exit.noGoto_ret]
              refine bodyPost_ret (results_none rfl _ _ _) rfl ?_
              have HA2 := (HA.out.next hfl).pfx
              rw [HE.out] at HA2
              exact ⟨⟨_, rfl⟩, .inr ⟨pre ++ [(f, i)], HA2, hJx3⟩⟩
        · obtain rfl : i = s.size := by omega
          have HE : Hid (CP.stop s f = s.size) := Lib.hid (by rw [← HN.out, Nat.sub_self]; rfl)
          have hm := HA.out.more hfl
          obtain ⟨fn, tmps, assign, body, hy, hR⟩ := hY'.out pre (f, s.size) _ hJr hm
          clear HN
          gi_wp2
          refine hR.mono ?_
          have HA2 := HA.out.next hfl
          rw [HE.out] at HA2
          have HA3 := Lib.hid (HA2.done (Nat.le_refl _))
          clear HA2 HA HE
          rintro e W3 (⟨rfl, hJ3, hk3⟩ | ⟨rfl, hJx3⟩)
          · gi_wp2
            rw [Exit.noGoto_normal]
            go_end0
            exact ⟨⟨_, rfl⟩, .inl ⟨_, HA3.out, hJ3⟩⟩
          · gi_wp2
            rw [Exit.noGoto_normal]
            go_end0
            exact ⟨⟨_, rfl⟩, .inr ⟨_, ⟨[], by rw [List.append_nil]; exact HA3.out⟩, hJx3⟩⟩
    · have HA3 := Lib.hid (HA.out.done (by omega))
      clear HA
      gi_wp2
      rw [Exit.noGoto_normal]
      go_end0
      exact ⟨⟨_, rfl⟩, .inl ⟨_, HA3.out, hJr⟩⟩
/-- The value that is ranged over. -/
theorem iter_stops (n : Nat) (hn : 1 ≤ n) (bt bf b2 : Nat) (S : Nat → Prop) (s : ByteArray) (g : Nat × Nat) (hs : s.size ≤ maxLen) (w : World) (hbt : S bt) (hbf : S bf) (hb2 : S b2) (hg1 : S g.1) (hg0 : S 0) (hl : Laid w g)
    (ht : w.cell? ⟨bt, 0, none⟩ = some (.string s)) (ht2 : w.cell? ⟨b2, 0, none⟩ = some (.string s)) (hf : w.cell? ⟨bf, 0, none⟩ = some (.func (.func 61) #[] #[.pointer (some ⟨b2, 0, none⟩)])) :
    SeqStopsK Fence.wide n Tryd.prog 59 #[.pointer (some ⟨bt, 0, none⟩), .pointer (some ⟨bf, 0, none⟩)] (fun x : Nat × Nat => #[sp x]) (KpS S) (fun ys => ys = CP.split s) (fun pre => pre <+: CP.split s) (CP.split s).length w := fun l J Jx W hW hJ _ hY h0 =>
  iter_in n hn l bt bf b2 S s g J Jx hs hY W hJ hbt hbf hb2 hg1 hg0 (hl.mono hW) ((KpS.of (S := S) hW).at (p := ⟨bt, 0, none⟩) hbt ht) ((KpS.of (S := S) hW).at (p := ⟨b2, 0, none⟩) hb2 ht2) ((KpS.of (S := S) hW).at (p := ⟨bf, 0, none⟩) hbf hf) h0
set_option maxHeartbeats 400000 in
theorem beginner_any (s : ByteArray) (w : World) :
    Calls Tryd.prog 58 #[.string s] w fun e w' => e = .returned (.func (.func 61) #[] #[.pointer (some ⟨w.heap.size, 0, none⟩)]) ∧ w' = w.alloc (.cells #[.string s] 9) := by
  go_enter Tryd.func58, Tryd.ntmps58
  go_wp2
  go_ret
  exact ⟨rfl, rfl⟩
def iterWorld (w : World) (s : ByteArray) : World := ((w.alloc (.cells #[.string s] 9)).alloc (.cells #[.string s] 9)).alloc (.cells #[.func (.func 61) #[] #[.pointer (some ⟨w.heap.size + 1, 0, none⟩)]] 75)
set_option maxHeartbeats 400000 in
theorem clusters_any (s : ByteArray) (w : World) :
    Calls Tryd.prog 54 #[.string s] w fun e w' => e = .returned (.func (.func 59) #[] #[.pointer (some ⟨w.heap.size, 0, none⟩), .pointer (some ⟨w.heap.size + 1 + 1, 0, none⟩)]) ∧ w' = iterWorld w s := by
  go_enter Tryd.func54, Tryd.ntmps54
  go_wp2_with (go_at_call 58; refine (beginner_any s _).mono ?_; rintro e w1 ⟨rfl, rfl⟩)
  go_ret
  exact ⟨rfl, rfl⟩
end Go.Proofs.YtbgmbcngkmlfeaaDoor
