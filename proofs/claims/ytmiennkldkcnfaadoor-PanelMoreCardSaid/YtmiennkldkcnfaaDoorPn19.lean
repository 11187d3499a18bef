/- The chapter's examples. No conditions. -/
import Derived.Test.YtmiennkldkcnfaaDoorPn18
import Derived.Test.YtmiennkldkcnfaaDoorPnLaid
namespace Go.Proofs.YtmiennkldkcnfaaDoor
set_option maxRecDepth 100000
set_option linter.unusedVariables false
open Go.ChangeShapes Go.WideShapes Go.ChangeAt Go.RowKit Go.Joins Go.Deep
/-- A row that was just written down is given to a panel. -/
theorem write_lit {P P' : Pn} {b g : Nat} (w w1 : World) (hB : Below w.heap.size w w1) (hp : PnAt w1 b g P) (ho : PnOk P) (hu : P.upd < 1000000) (hb : w.heap.size ≤ b) (hg : w.heap.size ≤ g) (c : Rc) (hc : rcOk c) (S : List Nat) (hS : ∀ r ∈ S, r < 18446744073709551616) (n : Nat) (hn : S.length = n) (hn2 : n ≤ 1000000) (r : Int) (hr : P.wr c S = (r, P')) :
    Calls Tryd.prog 30 #[.pointer (some ⟨b, 0, none⟩), rcV c, .slice (some ⟨w1.heap.size, 0, none⟩) n n] (w1.alloc (.cells (S.map U6).toArray 63)) fun e w' => e = .returned (.int .i64 r) ∧ PnAt w' b g P' ∧ Below w.heap.size w w' := by
  have hk := balloc (Below.refl _ w1) (.cells (S.map U6).toArray 63)
  have hsz : b < w1.heap.size ∧ g < w1.heap.size := ⟨(Array.getElem?_eq_some_iff.1 hp.hd).1, (Array.getElem?_eq_some_iff.1 hp.row).1⟩
  have hs : UA (w1.alloc (.cells (S.map U6).toArray 63)) (.slice (some ⟨w1.heap.size, 0, none⟩) n n) S := by
    unfold UA
    rw [hn]
    exact srcN_new w1 (S.map U6) 63 1 n n (by rw [List.length_map, hn, Nat.mul_one])
  refine (wr_any (hp.below hk) ho hu c hc S _ hs (fun q hq => ?_) (by omega) hS).mono fun e w' h => ?_
  · have e : w1.heap.size = q := Option.some.inj hq
    omega
  · rw [hr] at h
    exact ⟨h.1, h.2.1, h.2.2.below w (balloc hB _) (fun q hq => by rcases hq with rfl | rfl <;> assumption)⟩
set_option maxHeartbeats 4000000 in
theorem sanity_any (w : World) (t0 : Nat × Nat) (hld : Laid w t0) : Calls Tryd.prog 11 #[] w fun x w' => x = .returned (.bool true) ∧ Below w.heap.size w w' := by
  have HLD := Lib.hid hld
  clear hld
  have ok0 : PnOk ⟨8, [0, 0, 0, 0], 0, false, 0⟩ ∧ (0 : Nat) < 1000000 := ⟨⟨by decide, by decide, by decide, by decide, by decide, by decide, by decide⟩, by decide⟩
  have ok1 : PnOk ⟨8, [0, 20, 8, 0], 1, false, 0⟩ ∧ (1 : Nat) < 1000000 := ⟨⟨by decide, by decide, by decide, by decide, by decide, by decide, by decide⟩, by decide⟩
  have ok2 : PnOk ⟨8, [0, 20, 8, 0], 1, true, 1⟩ ∧ (1 : Nat) < 1000000 := ⟨⟨by decide, by decide, by decide, by decide, by decide, by decide, by decide⟩, by decide⟩
  have ok3 : PnOk ⟨8, [1, 20, 8, 0], 1, true, 0⟩ ∧ (1 : Nat) < 1000000 := ⟨⟨by decide, by decide, by decide, by decide, by decide, by decide, by decide⟩, by decide⟩
  have HK0 := Lib.hid ok0
  have HK1 := Lib.hid ok1
  have HK2 := Lib.hid ok2
  have HK3 := Lib.hid ok3
  clear ok0 ok1 ok2 ok3
  go_enter Tryd.func11, Tryd.ntmps11
  go_wp2_with fail
  go_at_call 12
  refine (new_any w 8 4 (by omega) (by omega)).mono ?_
  rintro x w1 ⟨b, g, rfl, kp, hbw0, hgw0, kb⟩
  have hbw := Lib.hid hbw0
  have hgw := Lib.hid hgw0
  have HPw1 : Hid (PnAt w1 b g ⟨8, [0, 0, 0, 0], 0, false, 0⟩) := Lib.hid kp
  have HBw1 := Lib.hid kb
  clear kp kb hbw0 hgw0
  go_upto_region 4 with fail
  go_wp2_with fail
  go_at_call 33
  refine (rect_any _ 2 1 3 2).mono ?_
  rintro x w2 ⟨rfl, kb⟩
  have HBw2 := Lib.hid (bnext HBw1.out kb)
  have HPw2 := Lib.hid (HPw1.out.below kb)
  clear kb
  have hc0 := write_lit w w2 HBw2.out HPw2.out HK0.out.1 HK0.out.2 hbw.out hgw.out ⟨2, 1, 3, 2⟩ (by unfold rcOk; dsimp only; omega) [5, 2] (by decide) 2 rfl (by decide) 0 (P' := ⟨8, [0, 20, 8, 0], 1, false, 0⟩) (by kernel_rfl)
  have HC := Lib.hid hc0
  clear hc0
  go_wp2_with fail
  go_at_call 30
  refine HC.out.mono ?_
  rintro x w3 ⟨rfl, kp, kb⟩
  have HPw3 := Lib.hid kp
  have HBw3 := Lib.hid kb
  clear kp kb HC
  go_upto_region 5 with fail
  have HC := Lib.hid (pixels_any HPw3.out HK1.out.1)
  go_wp2_with fail
  go_at_call 16
  refine HC.out.mono ?_
  rintro x w4 ⟨vw4, rfl, ko, kb⟩
  have HBw4 := Lib.hid (bnext HBw3.out kb)
  have HPw4 := Lib.hid (HPw3.out.below kb)
  have hu := (own_ua ko).keep (balloc (Below.refl _ w4) (.cells #[.int .u64 0, .int .u64 20, .int .u64 8, .int .u64 0] 63))
  clear HC ko kb
  have hc0 := same_any vw4 (.slice (some ⟨w4.heap.size, 0, none⟩) 4 4) [0, 20, 8, 0] [0, 20, 8, 0] (w4.alloc (.cells #[.int .u64 0, .int .u64 20, .int .u64 8, .int .u64 0] 63)) hu (srcN_new w4 [.int .u64 0, .int .u64 20, .int .u64 8, .int .u64 0] 63 1 4 4 rfl) (by decide) (by decide)
  rw [decide_eq_true rfl] at hc0
  have HC := Lib.hid hc0
  have hb2 := balloc HBw4.out (.cells #[.int .u64 0, .int .u64 20, .int .u64 8, .int .u64 0] 63)
  have hp2 := HPw4.out.below (balloc (Below.refl _ w4) (.cells #[.int .u64 0, .int .u64 20, .int .u64 8, .int .u64 0] 63))
  have HB2 := Lib.hid hb2
  have HP2 := Lib.hid hp2
  clear hc0 hu hb2 hp2
  go_wp2_with fail
  go_at_call 15
  refine HC.out.mono ?_
  rintro x w5 ⟨rfl, kb⟩
  have HBw5 := Lib.hid (bnext HB2.out kb)
  have HPw5 := Lib.hid (HP2.out.below kb)
  clear kb HC HB2 HP2
  have HC := Lib.hid (updates_any HPw5.out HK1.out.1)
  go_wp2_with fail
  go_at_call 18
  refine HC.out.mono ?_
  rintro x w6 ⟨rfl, he⟩
  have he' := he.symm
  subst he'
  have HBw6 := HBw5
  have HPw6 := HPw5
  clear HC
  go_upto_region 6 with fail
  have HC := Lib.hid (fail_any HPw5.out HK1.out.1 1)
  go_wp2_with fail
  go_at_call 31
  refine HC.out.mono ?_
  rintro x w7 ⟨rfl, kp, kb⟩
  have HPw7 : Hid (PnAt w7 b g ⟨8, [0, 20, 8, 0], 1, true, 1⟩) := Lib.hid kp
  have HBw7 := Lib.hid (kb.below w HBw5.out (fun q hq => by rcases hq with rfl | rfl; exact hbw.out; exact hgw.out))
  clear HC kp kb
  go_upto_region 7 with fail
  go_wp2_with fail
  go_at_call 33
  refine (rect_any _ 0 0 1 3).mono ?_
  rintro x w8 ⟨rfl, kb⟩
  have HBw8 := Lib.hid (bnext HBw7.out kb)
  have HPw8 := Lib.hid (HPw7.out.below kb)
  clear kb
  have hc0 := write_lit w w8 HBw8.out HPw8.out HK2.out.1 HK2.out.2 hbw.out hgw.out ⟨0, 0, 1, 3⟩ (by unfold rcOk; dsimp only; omega) [1, 1, 1] (by decide) 3 rfl (by decide) 52 (P' := ⟨8, [1, 20, 8, 0], 1, true, 0⟩) (by kernel_rfl)
  have HC := Lib.hid hc0
  clear hc0
  go_wp2_with fail
  go_at_call 30
  refine HC.out.mono ?_
  rintro x w9 ⟨rfl, kp, kb⟩
  have HPw9 := Lib.hid kp
  have HBw9 := Lib.hid kb
  clear kp kb HC
  go_upto_region 8 with fail
  have HC := Lib.hid (pixels_any HPw9.out HK3.out.1)
  go_wp2_with fail
  go_at_call 16
  refine HC.out.mono ?_
  rintro x w10 ⟨vw10, rfl, ko, kb⟩
  have HBw10 := Lib.hid (bnext HBw9.out kb)
  have HPw10 := Lib.hid (HPw9.out.below kb)
  have hu := (own_ua ko).keep (balloc (Below.refl _ w10) (.cells #[.int .u64 1, .int .u64 20, .int .u64 8, .int .u64 0] 63))
  clear HC ko kb
  have hc0 := same_any vw10 (.slice (some ⟨w10.heap.size, 0, none⟩) 4 4) [1, 20, 8, 0] [1, 20, 8, 0] (w10.alloc (.cells #[.int .u64 1, .int .u64 20, .int .u64 8, .int .u64 0] 63)) hu (srcN_new w10 [.int .u64 1, .int .u64 20, .int .u64 8, .int .u64 0] 63 1 4 4 rfl) (by decide) (by decide)
  rw [decide_eq_true rfl] at hc0
  have HC := Lib.hid hc0
  have hb2 := balloc HBw10.out (.cells #[.int .u64 1, .int .u64 20, .int .u64 8, .int .u64 0] 63)
  have hp2 := HPw10.out.below (balloc (Below.refl _ w10) (.cells #[.int .u64 1, .int .u64 20, .int .u64 8, .int .u64 0] 63))
  have HB2 := Lib.hid hb2
  have HP2 := Lib.hid hp2
  clear hc0 hu hb2 hp2
  go_wp2_with fail
  go_at_call 15
  refine HC.out.mono ?_
  rintro x w11 ⟨rfl, kb⟩
  have HBw11 := Lib.hid (bnext HB2.out kb)
  have HPw11 := Lib.hid (HP2.out.below kb)
  clear kb HC HB2 HP2
  have HC := Lib.hid (updates_any HPw11.out HK3.out.1)
  go_wp2_with fail
  go_at_call 18
  refine HC.out.mono ?_
  rintro x w12 ⟨rfl, he⟩
  have he' := he.symm
  subst he'
  have HBw12 := HBw11
  have HPw12 := HPw11
  clear HC
  go_upto_region 9 with fail
  go_wp2_with fail
  go_at_call 33
  refine (rect_any _ 6 0 3 1).mono ?_
  rintro x w13 ⟨rfl, kb⟩
  have HBw13 := Lib.hid (bnext HBw11.out kb)
  have HPw13 := Lib.hid (HPw11.out.below kb)
  clear kb
  have hc0 := write_lit w w13 HBw13.out HPw13.out HK3.out.1 HK3.out.2 hbw.out hgw.out ⟨6, 0, 3, 1⟩ (by unfold rcOk; dsimp only; omega) [0] (by decide) 1 rfl (by decide) 1 (P' := ⟨8, [1, 20, 8, 0], 1, true, 0⟩) (by kernel_rfl)
  have HC := Lib.hid hc0
  clear hc0
  go_wp2_with fail
  go_at_call 30
  refine HC.out.mono ?_
  rintro x w14 ⟨rfl, kp, kb⟩
  have HPw14 := Lib.hid kp
  have HBw14 := Lib.hid kb
  clear kp kb HC
  go_wp2_with fail
  go_at_call 33
  refine (rect_any _ 0 0 1 1).mono ?_
  rintro x w15 ⟨rfl, kb⟩
  have HBw15 := Lib.hid (bnext HBw14.out kb)
  have HPw15 := Lib.hid (HPw14.out.below kb)
  clear kb
  have hc0 := write_lit w w15 HBw15.out HPw15.out HK3.out.1 HK3.out.2 hbw.out hgw.out ⟨0, 0, 1, 1⟩ (by unfold rcOk; dsimp only; omega) [2] (by decide) 1 rfl (by decide) 1 (P' := ⟨8, [1, 20, 8, 0], 1, true, 0⟩) (by kernel_rfl)
  have HC := Lib.hid hc0
  clear hc0
  go_wp2_with fail
  go_at_call 30
  refine HC.out.mono ?_
  rintro x w16 ⟨rfl, kp, kb⟩
  have HPw16 := Lib.hid kp
  have HBw16 := Lib.hid kb
  clear kp kb HC
  go_wp2_with fail
  go_at_call 33
  refine (rect_any _ 0 0 1 1).mono ?_
  rintro x w17 ⟨rfl, kb⟩
  have HBw17 := Lib.hid (bnext HBw16.out kb)
  have HPw17 := Lib.hid (HPw16.out.below kb)
  clear kb
  have hc0 := write_lit w w17 HBw17.out HPw17.out HK3.out.1 HK3.out.2 hbw.out hgw.out ⟨0, 0, 1, 1⟩ (by unfold rcOk; dsimp only; omega) [1, 1] (by decide) 2 rfl (by decide) 1 (P' := ⟨8, [1, 20, 8, 0], 1, true, 0⟩) (by kernel_rfl)
  have HC := Lib.hid hc0
  clear hc0
  go_wp2_with fail
  go_at_call 30
  refine HC.out.mono ?_
  rintro x w18 ⟨rfl, kp, kb⟩
  have HPw18 := Lib.hid kp
  have HBw18 := Lib.hid kb
  clear kp kb HC
  go_upto_region 10 with fail
  go_upto_region 11 with fail
  have HB2 := Lib.hid (balloc HBw18.out (.cells #[.int .u64 2, .int .u64 8, .int .u64 0, .int .u64 4] 63))
  have HNX := Lib.hid (show UA (w18.alloc (.cells #[.int .u64 2, .int .u64 8, .int .u64 0, .int .u64 4] 63)) (.slice (some ⟨w18.heap.size, 0, none⟩) 4 4) [2, 8, 0, 4] from srcN_new w18 [.int .u64 2, .int .u64 8, .int .u64 0, .int .u64 4] 63 1 4 4 rfl)
  obtain ⟨n, hn⟩ : ∃ n, w18.heap.size = n := ⟨_, rfl⟩
  obtain ⟨y0, hy0⟩ : ∃ y0, w18.alloc (.cells #[.int .u64 2, .int .u64 8, .int .u64 0, .int .u64 4] 63) = y0 := ⟨_, rfl⟩
  rw [hy0] at HB2 HNX
  rw [hy0]
  rw [hn] at HNX
  try rw [hn]
  clear hn hy0
  have hm : (Instr.makeSlice 32 (.int .i64 4) (.int .i64 4)).run Tryd.prog y0 = .ok (.slice (some ⟨y0.heap.size, 0, none⟩) 4 4) (y0.alloc (.cells ((List.replicate 4 (0 : Nat)).map U6).toArray 63)) := make_u64 y0 4 (by decide)
  have hb2 := balloc HB2.out (.cells ((List.replicate 4 (0 : Nat)).map U6).toArray 63)
  have hk2 := balloc (Below.refl _ y0) (.cells ((List.replicate 4 (0 : Nat)).map U6).toArray 63)
  have hc0 := plan_any (y0.alloc (.cells ((List.replicate 4 (0 : Nat)).map U6).toArray 63)) t0 (HLD.out.mono hb2) (.slice (some ⟨y0.heap.size, 0, none⟩) 4 4) (.slice (some ⟨n, 0, none⟩) 4 4) (List.replicate 4 0) [2, 8, 0, 4] 8 3 (show UA (y0.alloc (.cells ((List.replicate 4 (0 : Nat)).map U6).toArray 63)) (.slice (some ⟨y0.heap.size, 0, none⟩) 4 4) (List.replicate 4 0) from srcN_new y0 ((List.replicate 4 (0 : Nat)).map U6) 63 1 4 4 rfl) (HNX.out.keep hk2) (by decide) (by decide) (by decide) (by decide) (by decide)
  rw [show planP (List.replicate 4 0) [2, 8, 0, 4] 8 3 = [⟨1, 0, 3, 2⟩, ⟨2, 3, 1, 1⟩] from by unfold planP; rw [if_pos (by decide)]; show PN.red 3 _ = _; rw [PN.red_end (by decide +kernel)]; decide +kernel] at hc0
  have HC := Lib.hid hc0
  have HB3 := Lib.hid hb2
  have HN3 := Lib.hid (HNX.out.keep hk2)
  clear hb2 hk2 hc0 HB2 HNX
  go_wp2_with fail
  go_at_call 22
  refine HC.out.mono ?_
  rintro x y1 ⟨vp, rfl, ko, kb⟩
  have HB4 := Lib.hid (bnext HB3.out kb)
  have HN4 := Lib.hid (HN3.out.keep kb)
  have HR4 := Lib.hid (own_srcN ko)
  clear HC HB3 HN3 ko kb hm
  go_wp2_with fail
  go_at_call 33
  refine (rect_any _ 1 0 3 2).mono ?_
  rintro x y1a ⟨rfl, kb⟩
  have HB5 := Lib.hid (bnext HB4.out kb)
  have HN5 := Lib.hid (HN4.out.keep kb)
  have HR5 := Lib.hid (SrcN.keep HR4.out kb)
  clear HB4 HN4 HR4 kb
  have HB4 := HB5
  have HN4 := HN5
  have HR4 := HR5
  clear HB5 HN5 HR5
  go_wp2_with fail
  go_at_call 33
  refine (rect_any _ 2 3 1 1).mono ?_
  rintro x y1b ⟨rfl, kb⟩
  have HB5 := Lib.hid (bnext HB4.out kb)
  have HN5 := Lib.hid (HN4.out.keep kb)
  have HR5 := Lib.hid (SrcN.keep HR4.out kb)
  clear HB4 HN4 HR4 kb
  have HB4 := HB5
  have HN4 := HN5
  have HR4 := HR5
  clear HB5 HN5 HR5
  have hb6 := balloc HB4.out (.cells #[.int .i64 1, .int .i64 0, .int .i64 3, .int .i64 2, .int .i64 2, .int .i64 3, .int .i64 1, .int .i64 1] 31)
  have hk6 := balloc (Below.refl _ y1b) (.cells #[.int .i64 1, .int .i64 0, .int .i64 3, .int .i64 2, .int .i64 2, .int .i64 3, .int .i64 1, .int .i64 1] 31)
  have hc0 := samer_any (y1b.alloc (.cells #[.int .i64 1, .int .i64 0, .int .i64 3, .int .i64 2, .int .i64 2, .int .i64 3, .int .i64 1, .int .i64 1] 31)) [⟨1, 0, 3, 2⟩, ⟨2, 3, 1, 1⟩] [⟨1, 0, 3, 2⟩, ⟨2, 3, 1, 1⟩] vp (.slice (some ⟨y1b.heap.size, 0, none⟩) 2 2) 2 2 rfl rfl (SrcN.keep HR4.out hk6) (srcN_new y1b (rcs [⟨1, 0, 3, 2⟩, ⟨2, 3, 1, 1⟩]) 31 4 2 2 rfl) (by decide) (by decide)
  rw [decide_eq_true rfl] at hc0
  have HC := Lib.hid hc0
  have HB6 := Lib.hid hb6
  have HN6 := Lib.hid (HN4.out.keep hk6)
  clear hb6 hk6 hc0 HB4 HN4 HR4
  go_wp2_with fail
  go_at_call 21
  refine HC.out.mono ?_
  rintro x z1 ⟨rfl, kb⟩
  have HB2 := Lib.hid (bnext HB6.out kb)
  have HNX := Lib.hid (HN6.out.keep kb)
  clear kb HC HB6 HN6
  have hm : (Instr.makeSlice 32 (.int .i64 4) (.int .i64 4)).run Tryd.prog z1 = .ok (.slice (some ⟨z1.heap.size, 0, none⟩) 4 4) (z1.alloc (.cells ((List.replicate 4 (0 : Nat)).map U6).toArray 63)) := make_u64 z1 4 (by decide)
  have hb2 := balloc HB2.out (.cells ((List.replicate 4 (0 : Nat)).map U6).toArray 63)
  have hk2 := balloc (Below.refl _ z1) (.cells ((List.replicate 4 (0 : Nat)).map U6).toArray 63)
  have hc0 := plan_any (z1.alloc (.cells ((List.replicate 4 (0 : Nat)).map U6).toArray 63)) t0 (HLD.out.mono hb2) (.slice (some ⟨z1.heap.size, 0, none⟩) 4 4) (.slice (some ⟨n, 0, none⟩) 4 4) (List.replicate 4 0) [2, 8, 0, 4] 8 1 (show UA (z1.alloc (.cells ((List.replicate 4 (0 : Nat)).map U6).toArray 63)) (.slice (some ⟨z1.heap.size, 0, none⟩) 4 4) (List.replicate 4 0) from srcN_new z1 ((List.replicate 4 (0 : Nat)).map U6) 63 1 4 4 rfl) (HNX.out.keep hk2) (by decide) (by decide) (by decide) (by decide) (by decide)
  rw [show planP (List.replicate 4 0) [2, 8, 0, 4] 8 1 = [⟨1, 0, 3, 4⟩] from by unfold planP; rw [if_pos (by decide)]; show PN.red 1 _ = _; rw [PN.red_go (by decide +kernel) (by decide), PN.red_end (by decide +kernel)]; decide +kernel] at hc0
  have HC := Lib.hid hc0
  have HB3 := Lib.hid hb2
  have HN3 := Lib.hid (HNX.out.keep hk2)
  clear hb2 hk2 hc0 HB2 HNX
  go_wp2_with fail
  go_at_call 22
  refine HC.out.mono ?_
  rintro x y2 ⟨vp, rfl, ko, kb⟩
  have HB4 := Lib.hid (bnext HB3.out kb)
  have HN4 := Lib.hid (HN3.out.keep kb)
  have HR4 := Lib.hid (own_srcN ko)
  clear HC HB3 HN3 ko kb hm
  go_wp2_with fail
  go_at_call 33
  refine (rect_any _ 1 0 3 4).mono ?_
  rintro x y2a ⟨rfl, kb⟩
  have HB5 := Lib.hid (bnext HB4.out kb)
  have HN5 := Lib.hid (HN4.out.keep kb)
  have HR5 := Lib.hid (SrcN.keep HR4.out kb)
  clear HB4 HN4 HR4 kb
  have HB4 := HB5
  have HN4 := HN5
  have HR4 := HR5
  clear HB5 HN5 HR5
  have hb6 := balloc HB4.out (.cells #[.int .i64 1, .int .i64 0, .int .i64 3, .int .i64 4] 31)
  have hk6 := balloc (Below.refl _ y2a) (.cells #[.int .i64 1, .int .i64 0, .int .i64 3, .int .i64 4] 31)
  have hc0 := samer_any (y2a.alloc (.cells #[.int .i64 1, .int .i64 0, .int .i64 3, .int .i64 4] 31)) [⟨1, 0, 3, 4⟩] [⟨1, 0, 3, 4⟩] vp (.slice (some ⟨y2a.heap.size, 0, none⟩) 1 1) 1 1 rfl rfl (SrcN.keep HR4.out hk6) (srcN_new y2a (rcs [⟨1, 0, 3, 4⟩]) 31 4 1 1 rfl) (by decide) (by decide)
  rw [decide_eq_true rfl] at hc0
  have HC := Lib.hid hc0
  have HB6 := Lib.hid hb6
  have HN6 := Lib.hid (HN4.out.keep hk6)
  clear hb6 hk6 hc0 HB4 HN4 HR4
  go_wp2_with fail
  go_at_call 21
  refine HC.out.mono ?_
  rintro x z2 ⟨rfl, kb⟩
  have HB2 := Lib.hid (bnext HB6.out kb)
  have HNX := Lib.hid (HN6.out.keep kb)
  clear kb HC HB6 HN6
  go_upto_region 12 with fail
  have hb7 := balloc HB2.out (.cells #[.int .u64 2, .int .u64 8] 63)
  have hs7 : UA (z2.alloc (.cells #[.int .u64 2, .int .u64 8] 63)) (.slice (some ⟨z2.heap.size, 0, none⟩) 2 2) [2, 8] := srcN_new z2 [.int .u64 2, .int .u64 8] 63 1 2 2 rfl
  have HB7 := Lib.hid hb7
  have HS7 := Lib.hid hs7
  clear hb7 hs7 HB2 HNX
  go_wp2_with fail
  go_at_call 33
  refine (rect_any _ 1 0 3 2).mono ?_
  rintro x x1 ⟨rfl, kb⟩
  have hc0 := cut_any x1 [2, 8] (.slice (some ⟨z2.heap.size, 0, none⟩) 2 2) ⟨1, 0, 3, 2⟩ (by unfold rcOk; dsimp only; omega) (HS7.out.keep kb) (by decide) (fun a n k h => by injection h with _ h1 h2; omega) (by decide)
  rw [show cutL [2, 8] ⟨1, 0, 3, 2⟩ = [1, 4] by decide +kernel] at hc0
  have HC := Lib.hid hc0
  have HB8 := Lib.hid (bnext HB7.out kb)
  clear hc0 kb HB7 HS7
  go_wp2_with fail
  go_at_call 25
  refine HC.out.mono ?_
  rintro x x2 ⟨vc, rfl, ko, kb⟩
  have HB9 := Lib.hid (bnext HB8.out kb)
  have hc0 := same_any vc (.slice (some ⟨x2.heap.size, 0, none⟩) 2 2) [1, 4] [1, 4] (x2.alloc (.cells #[.int .u64 1, .int .u64 4] 63)) ((own_ua ko).keep (balloc (Below.refl _ x2) (.cells #[.int .u64 1, .int .u64 4] 63))) (srcN_new x2 [.int .u64 1, .int .u64 4] 63 1 2 2 rfl) (by decide) (by decide)
  rw [decide_eq_true rfl] at hc0
  have HC2 := Lib.hid hc0
  have HBa := Lib.hid (balloc HB9.out (.cells #[.int .u64 1, .int .u64 4] 63))
  clear hc0 HC ko kb HB8 HB9
  go_wp2_with fail
  go_at_call 15
  refine HC2.out.mono ?_
  rintro x x3 ⟨rfl, kb⟩
  have HBb := Lib.hid (bnext HBa.out kb)
  clear kb HC2 HBa
  go_wp2
  go_ret
  exact ⟨rfl, HBb.out⟩
end Go.Proofs.YtmiennkldkcnfaaDoor
