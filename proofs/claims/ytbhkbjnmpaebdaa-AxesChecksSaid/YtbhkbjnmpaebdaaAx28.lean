/- The examples of the chapter hold. No conditions. -/
import Derived.Test.YtbhkbjnmpaebdaaAx27
namespace Go.Proofs.Ytbhkbjnmpaebdaa
set_option maxRecDepth 100000
set_option linter.unusedVariables false
open Go.RowKit Go.Deep
theorem inat_new (w : World) (l : List Int) (T : TypeId) (n c : Nat) (hn : l.length = n) : InAt (w.alloc (.cells (l.map (Value.int .i64)).toArray T)) (.slice (some ⟨w.heap.size, 0, none⟩) n c) l := by
  subst hn
  refine ⟨_, c, rfl, .inr ⟨w.heap.size, 0, rfl, by simp, fun i x hx => ?_⟩⟩
  rw [Nat.zero_add]
  exact cell_of (heap_alloc_new w _) (by simp [hx])
theorem prat_new (w : World) (l : List AX.Pr) (T : TypeId) (n c : Nat) (hn : l.length = n) : PrAt (w.alloc (.cells (AX.prc l).toArray T)) (.slice (some ⟨w.heap.size, 0, none⟩) n c) l := by
  subst hn
  exact (srcN_new w (AX.prc l) T 2 l.length c (AX.prc_len l)).pr
theorem tnat_new (w : World) (l : List AX.Tn) (T : TypeId) (n c : Nat) (hn : l.length = n) : TnAt (w.alloc (.cells (AX.tnc l).toArray T)) (.slice (some ⟨w.heap.size, 0, none⟩) n c) l := by
  subst hn
  exact (srcN_new w (AX.tnc l) T 3 l.length c (AX.tnc_len l)).tn
theorem rgat_one (w : World) (r : List AX.Tn) (ra : Option Addr) (rn rc : Nat) (T : TypeId) (h : TnAt w (.slice ra rn rc) r) : RgAt (w.alloc (.cells #[.slice ra rn rc] T)) (.slice (some ⟨w.heap.size, 0, none⟩) 1 1) [r] := by
  have h' := h
  obtain ⟨a, c, e, -⟩ := h'
  injection e with e1 e2 e3
  subst e2
  refine ⟨_, 1, rfl, .inr ⟨w.heap.size, 0, rfl, by simp, fun i z hz => ?_⟩⟩
  cases i with
  | zero =>
    obtain rfl : r = z := by simpa using hz
    exact ⟨ra, rc, cell_of (heap_alloc_new w _) rfl, h.keep (balloc (Below.refl _ _) _)⟩
  | succ i => simp at hz
theorem inat_b {w : World} {b : Nat} (hb : w.heap.size = b) (l : List Int) (T : TypeId) (n c : Nat) (hn : l.length = n) : InAt (w.alloc (.cells (l.map (Value.int .i64)).toArray T)) (.slice (some ⟨b, 0, none⟩) n c) l := by subst hb; exact inat_new w l T n c hn
theorem prat_b {w : World} {b : Nat} (hb : w.heap.size = b) (l : List AX.Pr) (T : TypeId) (n c : Nat) (hn : l.length = n) : PrAt (w.alloc (.cells (AX.prc l).toArray T)) (.slice (some ⟨b, 0, none⟩) n c) l := by subst hb; exact prat_new w l T n c hn
theorem rgat_b {w : World} {b : Nat} (hb : w.heap.size = b) (r : List AX.Tn) (ra : Option Addr) (rn rc : Nat) (T : TypeId) (h : TnAt w (.slice ra rn rc) r) : RgAt (w.alloc (.cells #[.slice ra rn rc] T)) (.slice (some ⟨b, 0, none⟩) 1 1) [r] := by subst hb; exact rgat_one w r ra rn rc T h
theorem prat_nil (w : World) : PrAt w (.slice none 0 0) [] := ⟨none, 0, rfl, .inl rfl⟩
theorem sum_c {base : Int} {l : List (Int × Int)} {R : List (List AX.Tn)} {at' : List Int} {r : Int × Bool} (h : AX.sum base l R at' = r) (v vr va : Value) (w : World) (hl : l.length ≤ 1000000000000) (hR : R.length ≤ 1000000000000) (hRR : ∀ r ∈ R, r.length ≤ 1000000000000) (hal : at'.length ≤ 1000000000000) (hv : PrAt w v l) (hr : RgAt w vr R) (ha : InAt w va at') :
    Calls Try.prog 29 #[.int .i64 base, v, vr, va] w fun e w' => e = .returned (.tuple #[.int .i64 r.1, .bool r.2]) ∧ Below w.heap.size w w' := by
  have := sum_any base l R at' v vr va w hl hR hRR hal hv hr ha
  rwa [h] at this
theorem touches_c {r : List AX.Tn} {l : List AX.Pr} {b : Bool} (h : AX.touches r l = b) (va v : Value) (w : World) (hal : r.length ≤ 1000000000000) (hl : l.length ≤ 1000000000000) (ha : TnAt w va r) (hv : PrAt w v l) :
    Calls Try.prog 36 #[.agg #[va], v] w fun e w' => e = .returned (.bool b) ∧ Below w.heap.size w w' := by
  have := touches_any r l va v w hal hl ha hv
  rwa [h] at this
theorem within_c {at' : List Int} {l : List AX.Pr} {b : Bool} (h : AX.within at' l = b) (va v : Value) (w : World) (hal : at'.length ≤ 1000000000000) (hl : l.length ≤ 1000000000000) (ha : InAt w va at') (hv : PrAt w v l) :
    Calls Try.prog 34 #[va, v] w fun e w' => e = .returned (.bool b) ∧ Below w.heap.size w w' := by
  have := within_any at' l va v w hal hl ha hv
  rwa [h] at this
def exAx : AX.Ax := ⟨⟨#[119, 103, 104, 116]⟩, 100, 400, 900, [(100, -64), (400, 0), (700, 16), (900, 64)]⟩
theorem ex_n : ∀ p ∈ [((100 : Int), (-64 : Int)), (250, -32), (400, 0), (550, 8), (800, 40), (2000, 64), (101, -64)], AX.normal exAx p.1 = p.2 := by decide +kernel
theorem ex_ck : AX.check exAx = 0 := by decide +kernel
def exThree : List AX.Tn := [(0, 32, 64), (-64, 0, 9), (-30, -30, -10)]
theorem ex_s0 : AX.scalar [(0, 32, 64)] [16] = (1, 2) := by decide +kernel
theorem ex_s1 : AX.scalar [(0, 32, 64)] [32] = (1, 1) := by decide +kernel
theorem ex_s2 : AX.scalar [(0, 32, 64)] [48] = (1, 2) := by decide +kernel
theorem ex_s3 : AX.scalar [(0, 32, 64)] [64] = (0, 1) := by decide +kernel
theorem ex_s4 : AX.scalar [(0, 32, 64)] [0] = (0, 1) := by decide +kernel
theorem ex_s5 : AX.scalar [(0, 32, 64)] [20] = (5, 8) := by decide +kernel
theorem ex_s6 : AX.scalar exThree [8, 50, -20] = (1, 8) := by decide +kernel
theorem ex_sum : AX.sum 10 [(0, 4), (0, -3)] [[(0, 32, 64)]] [16] = (672, true) := by decide +kernel
theorem ex_t0 : AX.touches [(0, 32, 64)] [(-64, 0)] = false := by decide +kernel
theorem ex_t1 : AX.touches [(0, 32, 64)] [(0, 1)] = true := by decide +kernel
theorem ex_t2 : AX.touches [(0, 32, 64)] [(64, 64)] = false := by decide +kernel
theorem ex_r0 : AX.right [(-1, 1, 5)] 1 = false := by decide +kernel
theorem ex_r1 : AX.right [(5, 5, 5)] 1 = true := by decide +kernel
theorem ex_w : AX.within [3] [(3, 4)] = true := by decide +kernel
theorem ex_g : AX.ranges [] 0 = true := by decide +kernel
set_option maxHeartbeats 16000000 in
theorem sane_any (w : World) :
    Calls Try.prog 11 #[] w fun e w' => e = .returned (.bool true) ∧ Below w.heap.size w w' := by
  obtain ⟨B, hB⟩ : ∃ B, w.heap.size = B := ⟨_, rfl⟩
  obtain ⟨W1, hW1, b0, b1, bel1, hsz1⟩ := two_blocks w (.cells #[.int .i64 100, .int .i64 (-64), .int .i64 400, .int .i64 0, .int .i64 700, .int .i64 16, .int .i64 900, .int .i64 64] 30) (.cells #[.string ⟨#[119, 103, 104, 116]⟩, .int .i64 100, .int .i64 400, .int .i64 900, .slice (some ⟨B, 0, none⟩) 4 4] 24) B hB
  have HM : Hid (∀ V, Below W1.heap.size W1 V → PrAt V (.slice (some ⟨B, 0, none⟩) 4 4) exAx.map) := Lib.hid fun V hV => by
    refine PrAt.keep ?_ hV
    refine ⟨_, 4, rfl, .inr ⟨B, 0, rfl, (Array.getElem?_eq_some_iff.1 b0).1, fun i z hz => ?_⟩⟩
    have hi : i = 0 ∨ i = 1 ∨ i = 2 ∨ i = 3 := by have := (List.getElem?_eq_some_iff.1 hz).1; simp only [exAx, List.length_cons, List.length_nil] at this; omega
    rcases hi with h | h | h | h <;> subst h <;> (obtain rfl := Option.some.inj hz; exact ⟨cell_of b0 rfl, cell_of b0 rfl⟩)
  have HA : Hid (∀ V, Below W1.heap.size W1 V → V.heap[B + 1]? = some (.cells #[.string ⟨#[119, 103, 104, 116]⟩, .int .i64 100, .int .i64 400, .int .i64 900, .slice (some ⟨B, 0, none⟩) 4 4] 24 (0, 0))) := Lib.hid fun V hV => (hV.block (B + 1) (Array.getElem?_eq_some_iff.1 b1).1).trans b1
  have HBEL1 := Lib.hid bel1
  have HB := Lib.hid hB
  clear b0 b1 bel1 hsz1
  go_enter Try.func11, Try.ntmps11
  go_upto_region 2 with fail
  try rw [hW1]
  try rw [hB]
  clear hW1 hB
  go_wp2_with fail
  refine (one_any 0 32 64 _).mono ?_
  rintro e w2 ⟨ta, tc, rfl, ht, hb2⟩
  go_upto_region 3 with fail
  obtain ⟨W3, hW3⟩ : ∃ W3, w2.alloc (.cells #[.slice ta 1 tc] 42) = W3 := ⟨_, rfl⟩
  obtain ⟨T, hT⟩ : ∃ T, w2.heap.size = T := ⟨_, rfl⟩
  have hb23 : Below w2.heap.size w2 W3 := by rw [← hW3]; exact balloc (Below.refl _ _) _
  have ht3 := ht.keep hb23
  have htx : W3.heap[T]? = some (.cells #[.slice ta 1 tc] 42 (0, 0)) := by rw [← hW3, ← hT]; exact heap_alloc_new w2 _
  have hb3 : Below W1.heap.size W1 W3 := bnext hb2 hb23
  have HT : Hid (∀ V, Below W3.heap.size W3 V → V.cell? ⟨T, 0, none⟩ = some (.slice ta 1 tc) ∧ TnAt V (.slice ta 1 tc) [(0, 32, 64)]) := Lib.hid fun V hV => ⟨(hV.cell (p := ⟨T, 0, none⟩) (Array.getElem?_eq_some_iff.1 htx).1).trans (cell_of htx rfl), ht3.keep hV⟩
  have HB3 := Lib.hid hb3
  try rw [hW3]
  try rw [hT]
  have hax := HA.out W3 hb3
  have x0 := cell_of hax (i := 0) rfl
  have x1 := cell_of hax (i := 1) rfl
  have x2 := cell_of hax (i := 2) rfl
  have x3 := cell_of hax (i := 3) rfl
  have x4 := cell_of hax (i := 4) rfl
  clear hW3 hT hb23 ht3 htx hb3 ht hb2 hax
  go_wp2_with fail
  refine (normals_yes exAx (.slice (some ⟨B, 0, none⟩) 4 4) _ [((100 : Int), (-64 : Int)), (250, -32), (400, 0), (550, 8), (800, 40), (2000, 64), (101, -64)] _ (HM.out _ (balloc HB3.out _)) (prat_new W3 _ _ 7 7 rfl) (by decide) (by decide) (by decide) ex_n ex_ck).mono ?_
  rintro e w4 ⟨rfl, hb4⟩
  have HB4 : Hid (Below W3.heap.size W3 w4) := Lib.hid (bnext (balloc (Below.refl _ W3) _) hb4)
  clear x0 x1 x2 x3 x4 hb4
  go_upto_region 5 with fail
  obtain ⟨C, hC⟩ : ∃ C, w4.heap.size = C := ⟨_, rfl⟩
  obtain ⟨W5, hW5, d0, d1, bel5, hsz5⟩ := two_blocks w4 (.cells #[.int .i64 0, .int .i64 32, .int .i64 64, .int .i64 (-64), .int .i64 0, .int .i64 9, .int .i64 (-30), .int .i64 (-30), .int .i64 (-10)] 71) (.cells #[.slice (some ⟨C, 0, none⟩) 3 3] 42) C hC
  try rw [hC]
  try rw [hW5]
  have HTH : Hid (∀ V, Below W5.heap.size W5 V → V.cell? ⟨C + 1, 0, none⟩ = some (.slice (some ⟨C, 0, none⟩) 3 3) ∧ TnAt V (.slice (some ⟨C, 0, none⟩) 3 3) exThree) := Lib.hid fun V hV => by
    refine ⟨(hV.cell (p := ⟨C + 1, 0, none⟩) (Array.getElem?_eq_some_iff.1 d1).1).trans (cell_of d1 rfl), TnAt.keep ?_ hV⟩
    refine ⟨_, 3, rfl, .inr ⟨C, 0, rfl, (Array.getElem?_eq_some_iff.1 d0).1, fun i z hz => ?_⟩⟩
    have hi : i = 0 ∨ i = 1 ∨ i = 2 := by have := (List.getElem?_eq_some_iff.1 hz).1; simp only [exThree, List.length_cons, List.length_nil] at this; omega
    rcases hi with h | h | h <;> subst h <;> (obtain rfl := Option.some.inj hz; exact ⟨cell_of d0 rfl, cell_of d0 rfl, cell_of d0 rfl⟩)
  have HB5 : Hid (Below W3.heap.size W3 W5) := Lib.hid (bnext HB4.out bel5)
  have HC5 : Hid (Below W5.heap.size W5 W5) := Lib.hid (Below.refl _ _)
  clear hC hW5 d0 d1 bel5 hsz5
  obtain ⟨y0, y1⟩ := HT.out W5 HB5.out
  have Y1 := Lib.hid y1
  clear y1
  go_wp2_with fail
  refine (scalar_yes [(0, 32, 64)] [16] 1 2 _ _ _ (by decide) (by decide) (HT.out _ (balloc HB5.out _)).2 (inat_new W5 [16] _ 1 1 rfl) ex_s0).mono ?_
  rintro e w6 ⟨rfl, hb6⟩
  have HB6 := Lib.hid (bnext (balloc HB5.out _) hb6)
  have HC6 := Lib.hid (bnext (balloc HC5.out _) hb6)
  clear hb6 y0
  obtain ⟨y0, y1⟩ := HT.out w6 HB6.out
  have Y1 := Lib.hid y1
  clear y1
  go_wp2_with fail
  refine (scalar_yes [(0, 32, 64)] [32] 1 1 _ _ _ (by decide) (by decide) (HT.out _ (balloc HB6.out _)).2 (inat_new w6 [32] _ 1 1 rfl) ex_s1).mono ?_
  rintro e w7 ⟨rfl, hb7⟩
  have HB7 := Lib.hid (bnext (balloc HB6.out _) hb7)
  have HC7 := Lib.hid (bnext (balloc HC6.out _) hb7)
  clear hb7 y0
  obtain ⟨y0, y1⟩ := HT.out w7 HB7.out
  have Y1 := Lib.hid y1
  clear y1
  go_wp2_with fail
  refine (scalar_yes [(0, 32, 64)] [48] 1 2 _ _ _ (by decide) (by decide) (HT.out _ (balloc HB7.out _)).2 (inat_new w7 [48] _ 1 1 rfl) ex_s2).mono ?_
  rintro e w8 ⟨rfl, hb8⟩
  have HB8 := Lib.hid (bnext (balloc HB7.out _) hb8)
  have HC8 := Lib.hid (bnext (balloc HC7.out _) hb8)
  clear hb8 y0
  obtain ⟨y0, y1⟩ := HT.out w8 HB8.out
  have Y1 := Lib.hid y1
  clear y1
  go_wp2_with fail
  refine (scalar_yes [(0, 32, 64)] [64] 0 1 _ _ _ (by decide) (by decide) (HT.out _ (balloc HB8.out _)).2 (inat_new w8 [64] _ 1 1 rfl) ex_s3).mono ?_
  rintro e w9 ⟨rfl, hb9⟩
  have HB9 := Lib.hid (bnext (balloc HB8.out _) hb9)
  have HC9 := Lib.hid (bnext (balloc HC8.out _) hb9)
  clear hb9 y0
  obtain ⟨y0, y1⟩ := HT.out w9 HB9.out
  have Y1 := Lib.hid y1
  clear y1
  go_wp2_with fail
  refine (scalar_yes [(0, 32, 64)] [0] 0 1 _ _ _ (by decide) (by decide) (HT.out _ (balloc HB9.out _)).2 (inat_new w9 [0] _ 1 1 rfl) ex_s4).mono ?_
  rintro e w10 ⟨rfl, hb10⟩
  have HB10 := Lib.hid (bnext (balloc HB9.out _) hb10)
  have HC10 := Lib.hid (bnext (balloc HC9.out _) hb10)
  clear hb10 y0
  obtain ⟨y0, y1⟩ := HT.out w10 HB10.out
  have Y1 := Lib.hid y1
  clear y1
  go_wp2_with fail
  refine (scalar_yes [(0, 32, 64)] [20] 5 8 _ _ _ (by decide) (by decide) (HT.out _ (balloc HB10.out _)).2 (inat_new w10 [20] _ 1 1 rfl) ex_s5).mono ?_
  rintro e w11 ⟨rfl, hb11⟩
  have HB11 := Lib.hid (bnext (balloc HB10.out _) hb11)
  have HC11 := Lib.hid (bnext (balloc HC10.out _) hb11)
  clear hb11 y0
  obtain ⟨y0, y1⟩ := HTH.out w11 HC11.out
  have Y1 := Lib.hid y1
  clear y1
  go_wp2_with fail
  refine (scalar_yes exThree [8, 50, -20] 1 8 _ _ _ (by decide) (by decide) (HTH.out _ (balloc HC11.out _)).2 (inat_new w11 [8, 50, -20] _ 3 3 rfl) ex_s6).mono ?_
  rintro e w12 ⟨rfl, hb12⟩
  have HB12 := Lib.hid (bnext (balloc HB11.out _) hb12)
  have HC12 := Lib.hid (bnext (balloc HC11.out _) hb12)
  clear hb12 y0
  obtain ⟨y0, y1⟩ := HT.out w12 HB12.out
  have y2 : T < w12.heap.size := World.block_lt_of_cell? w12 _ y0
  have Y1 := Lib.hid y1
  clear y1
  go_wp2_with fail
  refine (sum_c ex_sum _ _ _ _ (by decide) (by decide) (by decide) (by decide) ((prat_new w12 [(0, 4), (0, -3)] _ 2 2 rfl).keep (balloc (balloc (Below.refl _ _) _) _)) ((rgat_b (b := w12.heap.size + 1) (by simp) _ _ _ _ _ (HT.out _ (balloc HB12.out _)).2).keep (balloc (Below.refl _ _) _)) (inat_b (b := w12.heap.size + 1 + 1) (by simp) [16] _ 1 1 rfl)).mono ?_
  rintro e w13 ⟨rfl, hb13⟩
  have HB13 := Lib.hid (bnext (balloc (balloc (balloc HB12.out _) _) _) hb13)
  clear hb13 y0
  obtain ⟨y0, y1⟩ := HT.out w13 HB13.out
  have Y1 := Lib.hid y1
  clear y1
  go_wp2_with fail
  refine (touches_c ex_t0 _ _ _ (by decide) (by decide) (HT.out _ (balloc HB13.out _)).2 (prat_new w13 [(-64, 0)] _ 1 1 rfl)).mono ?_
  rintro e w14 ⟨rfl, hb14⟩
  have HB14 := Lib.hid (bnext (balloc HB13.out _) hb14)
  clear hb14 y0
  obtain ⟨y0, y1⟩ := HT.out w14 HB14.out
  have Y1 := Lib.hid y1
  clear y1
  go_wp2_with fail
  refine (touches_c ex_t1 _ _ _ (by decide) (by decide) (HT.out _ (balloc HB14.out _)).2 (prat_new w14 [(0, 1)] _ 1 1 rfl)).mono ?_
  rintro e w15 ⟨rfl, hb15⟩
  have HB15 := Lib.hid (bnext (balloc HB14.out _) hb15)
  clear hb15 y0
  obtain ⟨y0, y1⟩ := HT.out w15 HB15.out
  have Y1 := Lib.hid y1
  clear y1
  go_wp2_with fail
  refine (touches_c ex_t2 _ _ _ (by decide) (by decide) (HT.out _ (balloc HB15.out _)).2 (prat_new w15 [(64, 64)] _ 1 1 rfl)).mono ?_
  rintro e w16 ⟨rfl, hb16⟩
  have HB16 := Lib.hid (bnext (balloc HB15.out _) hb16)
  clear hb16 y0
  go_wp2_with fail
  refine (one_any (-1) 1 5 _).mono ?_
  rintro e w17 ⟨oa0, oc0, rfl, hot0, hb17⟩
  have HB17 := Lib.hid (bnext HB16.out hb17)
  clear hb17
  go_wp2_with fail
  refine (right_c ex_r0 _ _ (by decide) hot0).mono ?_
  rintro e w18 ⟨rfl, hb18⟩
  have HB18 := Lib.hid (bnext HB17.out hb18)
  clear hb18
  go_wp2_with fail
  refine (one_any 5 5 5 _).mono ?_
  rintro e w19 ⟨oa1, oc1, rfl, hot1, hb19⟩
  have HB19 := Lib.hid (bnext HB18.out hb19)
  clear hb19
  go_wp2_with fail
  refine (right_c ex_r1 _ _ (by decide) hot1).mono ?_
  rintro e w20 ⟨rfl, hb20⟩
  have HB20 := Lib.hid (bnext HB19.out hb20)
  clear hb20
  go_wp2_with fail
  refine (within_c ex_w _ _ _ (by decide) (by decide) ((inat_new w20 [3] _ 1 1 rfl).keep (balloc (Below.refl _ _) _)) (prat_b (b := w20.heap.size + 1) (by simp) [(3, 4)] _ 1 1 rfl)).mono ?_
  rintro e w21 ⟨rfl, hb21⟩
  have HB21 := Lib.hid (bnext (balloc (balloc HB20.out _) _) hb21)
  clear hb21
  go_wp2_with fail
  refine (ranges_c ex_g _ _ (by decide) (prat_nil _)).mono ?_
  rintro e w22 ⟨rfl, hb22⟩
  have HB22 := Lib.hid (bnext HB21.out hb22)
  clear hb22
  go_wp2
  go_ret
  exact ⟨by rfl, bnext (bnext HBEL1.out HB3.out) HB22.out⟩
end Go.Proofs.Ytbhkbjnmpaebdaa
