/- The links of a chain, as the program yields them. No conditions. -/
import Derived.Test.YtinkhgmdeldniaaLater
namespace Go.Proofs.Ytinkhgmdeldniaa
set_option maxRecDepth 100000
set_option linter.unusedVariables false
open Go.RowKit Go.Shelf Go.Deep
attribute [local go_sem] Oper.semAt_some
set_option maxHeartbeats 400000 in
theorem klinks_any (seed : ByteArray) (i c : Int) (w : World) :
    Calls Try.prog 39 #[.agg #[.string seed, .int .i64 i], .int .i64 c] w fun e w' => e = .returned (.func (.func 70) #[] #[.pointer (some ⟨w.heap.size, 0, none⟩), .pointer (some ⟨w.heap.size + 1, 0, none⟩)]) ∧ w' = (w.alloc (.cells #[.string seed, .int .i64 i] 60)).alloc (.cells #[.int .i64 c] 3) := by
  go_enter Try.func39, Try.ntmps39
  go_wp2
  go_ret
  exact ⟨by simp, rfl⟩
/-- A link with its number. -/
abbrev LkX := Nat × ByteArray
def lkEnc (x : LkX) : Array Value := #[.int .i64 (x.1 : Int), .string x.2]
/-- What is known of the link that comes. -/
def LkG (seed : ByteArray) (i c : Int) (pre : List LkX) (x : LkX) (W : World) : Prop := x = (pre.length, SG.link seed i c pre.length) ∧ pre.length ≤ 15
set_option maxHeartbeats 4000000 in
theorem klinks_in (n : Nat) (hn : 1 ≤ n) (l bk bc : Nat) (seed : ByteArray) (i c : Int) (J Jx : List LkX → World → Prop) (hs : seed.size ≤ 1000000) (hi : -1000000 ≤ i ∧ i ≤ 1000000) (hc : -1000000 ≤ c ∧ c ≤ 1000000)
    (hY : ∀ pre x W, J pre W → LkG seed i c pre x W → YieldAt Fence.wide (n - 1) Try.prog l (lkEnc x) W fun e W' =>
      (e = .returned (.bool true) ∧ J (pre ++ [x]) W' ∧ True) ∨ (e = .returned (.bool false) ∧ Jx (pre ++ [x]) W'))
    (U : World) (hJ : AbidesFrom U.heap.size J) (c0 : U.cell? ⟨bk, 0, none⟩ = some (.string seed)) (c1 : U.cell? ⟨bk, 1, none⟩ = some (.int .i64 i)) (c2 : U.cell? ⟨bc, 0, none⟩ = some (.int .i64 c)) (h0 : J [] U) :
    CallsIn Fence.wide n Try.prog 70 #[.func (.yield l) #[] #[], .pointer (some ⟨bk, 0, none⟩), .pointer (some ⟨bc, 0, none⟩)] U fun e W' => (∃ v, e = .returned v) ∧
      ((∃ xs : List LkX, xs.length = 16 ∧ J xs W') ∨ (∃ pre : List LkX, True ∧ Jx pre W')) := by
  have HJ : Hid (∀ pre A B, J pre A → Below A.heap.size A B → J pre B) := Lib.hid fun pre A B hA hb => hJ pre A B none hA ⟨hb.os, hb.tape, hb.output, hb.size, fun k hk _ => hb.block k hk⟩ (fun r e => by cases e)
  obtain ⟨a, ha⟩ : ∃ a, W.WP.S (W.WP.text seed.data.toList) = a := ⟨_, rfl⟩
  obtain ⟨b, hb⟩ : ∃ b, W.WP.S (W.WP.int i) = b := ⟨_, rfl⟩
  obtain ⟨d, hd⟩ : ∃ d, W.WP.S (W.WP.int c) = d := ⟨_, rfl⟩
  have hh := SG.head_size seed i c
  have hhd : SG.head seed i c = a ++ b ++ d := by unfold SG.head; rw [ha, hb, hd]
  rw [hhd] at hh
  have sa : a.size ≤ seed.size + 30 := by rw [ByteArray.size_append, ByteArray.size_append] at hh; omega
  have sb : b.size ≤ 10 := by rw [← hb]; exact W.WP.int_size i
  have sd : d.size ≤ 10 := by rw [← hd]; exact W.WP.int_size c
  obtain ⟨st, hst⟩ : ∃ st, DG.Of (a ++ b ++ d) = st := ⟨_, rfl⟩
  have HA : Hid (∀ V, Calls Try.prog 72 #[.string seed] V fun e w' => e = .returned (.string a) ∧ Below V.heap.size V w') := Lib.hid fun V => by rw [← ha]; exact W.text_any seed V (by omega)
  have HI : Hid (∀ V, Calls Try.prog 42 #[.int .i64 i] V fun e w' => e = .returned (.string b) ∧ Below V.heap.size V w') := Lib.hid fun V => by rw [← hb]; exact W.int_any i V (by omega) (by omega)
  have HC : Hid (∀ V, Calls Try.prog 42 #[.int .i64 c] V fun e w' => e = .returned (.string d) ∧ Below V.heap.size V w') := Lib.hid fun V => by rw [← hd]; exact W.int_any c V (by omega) (by omega)
  have HO : Hid (∀ V, Calls Try.prog 71 #[.string (a ++ b ++ d)] V fun e w' => e = .returned (.string st) ∧ Below V.heap.size V w') := Lib.hid fun V => by rw [← hst]; exact Of_any _ V (by unfold maxLen; omega)
  have HS : Hid (SG.link seed i c 0 = st) := Lib.hid (by unfold SG.link; rw [hhd, hst]; rfl)
  have HOL : Hid (∀ (k : Nat) (V : World), Calls Try.prog 71 #[.string (SG.link seed i c k)] V fun e w' => e = .returned (.string (SG.link seed i c (k + 1))) ∧ Below V.heap.size V w') := Lib.hid fun k V => Of_any _ V (by have := SG.link_size seed i c k; unfold maxLen; omega)
  have HY := Lib.hid hY
  have HJ0 := Lib.hid h0
  clear ha hb hd hh hhd hst hi hc hY hJ h0
  refine callsIn_of_wp Try.func70 rfl trivial ?_ rfl
  simp only [Try.ntmps70, List.size_toArray, List.length_cons, List.length_nil, Nat.reduceAdd, Nat.reduceSub, Array.replicate_succ, Array.replicate_zero, List.push_toArray, List.append_toArray, List.nil_append, List.cons_append]
  have l0 := Later.cell c0
  have l1 := Later.cell c1
  have l2 := Later.cell c2
  gi_wp2
  refine wpIn_wide.2 ?_
  refine wp_region_later (by kernel_rfl) (by kernel_rfl) ?_
  repeat (go_big_quiet_step (first
    | (go_at_call 72; exact calls_later _ (HA.out _))
    | (go_at_call 42; first | (with_reducible exact calls_later _ (HI.out _)) | (with_reducible exact calls_later _ (HC.out _)))
    | (go_at_call 71; exact calls_later _ (HO.out _))))
  refine wpQuiet_nil ?_
  intro w5 hw'
  obtain ⟨s5, hs5⟩ := hw'
  have hb5 : Below U.heap.size U w5 := by rw [hs5]; exact s5.le
  clear hs5 s5 l0 l1 l2 c0 c1 c2
  gi_wp2
  gi_loopw [4, 5] (fun v4 v5 wr => ∃ (pre : List LkX) (k : Nat), pre.length = k ∧ v4 = .string (SG.link seed i c k) ∧ v5 = .int .i64 (k : Int) ∧ k ≤ 16 ∧ J pre wr) (fun _ v _ => 16 - (intOf v).toNat)
  case atStart => exact ⟨[], 0, rfl, by rw [HS.out], rfl, by omega, HJ.out _ _ _ HJ0.out hb5⟩
  case round =>
    clear hb5 HS HJ0
    obtain ⟨pre, k, hpk, rfl, rfl, hk, hJr⟩ := hrel
    by_cases hk15 : k < 16
    · have hki : (k : Int) ≤ 15 := by omega
      have hsz := SG.link_size seed i c k
      obtain ⟨y, hy⟩ : ∃ y, SG.link seed i c k = y := ⟨_, rfl⟩
      obtain ⟨z, hz⟩ : ∃ z, SG.link seed i c (k + 1) = z := ⟨_, rfl⟩
      obtain ⟨fn, tmps, assign, body, hyy, hR⟩ := HY.out pre (k, y) wr hJr ⟨by rw [hpk, hy], by omega⟩
      have HOK := Lib.hid (HOL.out k)
      rw [hy, hz] at HOK
      have HZ := Lib.hid hz
      rw [hy]
      simp only [lkEnc] at hyy
      clear hy hz HY
      gi_wp2
      refine hR.mono ?_
      rintro e W3 (⟨rfl, hJ3, _⟩ | ⟨rfl, hJx3⟩)
      · have HJ3 := Lib.hid hJ3
        clear hJ3 hJr hR
        gi_wp2_with (refine ⟨trivial, ?_⟩; gi_at_call 71; refine (callsIn_wide.2 (HOK.out _)).mono ?_; rintro e w6 ⟨rfl, hb6⟩)
        go_roundw
        case rel => exact ⟨pre ++ [(k, y)], k + 1, by rw [List.length_append, hpk]; rfl, by rw [HZ.out], by go_num, by omega, HJ.out _ _ _ HJ3.out hb6⟩
        case measure => simp [intOf]; omega
      · gi_wp2
        go_end0
        exact ⟨⟨_, rfl⟩, .inr ⟨_, trivial, hJx3⟩⟩
    · have hki : ¬ (k : Int) ≤ 15 := by omega
      gi_wp2
      refine ⟨fun _ h => (by cases h), ?_⟩
      gi_wp2
      go_end0
      exact ⟨⟨_, rfl⟩, .inl ⟨pre, by omega, hJr⟩⟩
/-- .. as what is ranged over. -/
theorem klinks_given (n : Nat) (hn : 1 ≤ n) (bk bc : Nat) (seed : ByteArray) (i c : Int) (W0 : World) (hs : seed.size ≤ 1000000) (hi : -1000000 ≤ i ∧ i ≤ 1000000) (hc : -1000000 ≤ c ∧ c ≤ 1000000)
    (c0 : W0.cell? ⟨bk, 0, none⟩ = some (.string seed)) (c1 : W0.cell? ⟨bk, 1, none⟩ = some (.int .i64 i)) (c2 : W0.cell? ⟨bc, 0, none⟩ = some (.int .i64 c)) :
    SeqGiven Fence.wide n Try.prog 70 #[.pointer (some ⟨bk, 0, none⟩), .pointer (some ⟨bc, 0, none⟩)] lkEnc (fun _ _ => True) (fun _ _ => False) (LkG seed i c) (fun xs => xs.length = 16) (fun _ => True) W0 :=
  fun l J Jx U hU hJ hJx hJo hJxo hY h0 => klinks_in n hn l bk bc seed i c J Jx hs hi hc hY U hJ
    ((hU.cell (p := ⟨bk, 0, none⟩) (World.block_lt_of_cell? W0 _ c0)).trans c0) ((hU.cell (p := ⟨bk, 1, none⟩) (World.block_lt_of_cell? W0 _ c1)).trans c1) ((hU.cell (p := ⟨bc, 0, none⟩) (World.block_lt_of_cell? W0 _ c2)).trans c2) h0
end Go.Proofs.Ytinkhgmdeldniaa
