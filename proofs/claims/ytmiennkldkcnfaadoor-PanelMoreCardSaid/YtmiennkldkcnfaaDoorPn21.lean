/- Of the laws: the first rows, a rectangle that numbers make. No conditions. -/
import Derived.Test.YtmiennkldkcnfaaDoorPn20
namespace Go.Proofs.YtmiennkldkcnfaaDoor
set_option maxRecDepth 100000
set_option linter.unusedVariables false
open Go.ChangeShapes Go.WideShapes Go.ChangeAt Go.RowKit Go.Joins Go.Deep
theorem own_cap {w : World} {B e size n c : Nat} {a : Option Addr} {xs : List Value} (h : w.ownsRow B e size (.slice a n c) n xs) : n ≤ c := by
  rcases h.2 with ⟨hv, hn⟩ | ⟨g, cap, cur, hv, _, _, hle, _⟩
  · omega
  · injection hv with h1 h2 h3; omega
theorem cutL_len (R : List Nat) (c : Rc) : (cutL R c).length ≤ R.length := by
  unfold cutL
  split
  · rename_i h
    obtain ⟨h1, h2, h3, h4, h5, h6, h7, h8⟩ := h
    rw [cutR_len]
    omega
  · simp
theorem few_any (w : World) (v : Value) (L : List Nat) (hv : UA w v L) (hc : Cap v) :
    Calls Tryd.prog 20 #[v] w fun e w' => ∃ v', e = .returned v' ∧ w'.ownsRow w.heap.size 63 1 v' (L.take 66).length ((L.take 66).map U6) ∧ Below w.heap.size w w' := by
  obtain ⟨i0, hi0, hz0, hz1, hz2⟩ := info_parts info_u64
  obtain ⟨va, vc, rfl⟩ := hv.shape
  obtain ⟨n, hn⟩ : ∃ n, L.length = n := ⟨_, rfl⟩
  obtain ⟨hc1, hc2⟩ := hc va L.length vc rfl
  unfold UA at hv
  rw [hn] at hv hc1
  obtain ⟨m, hm⟩ : ∃ m : Nat, min (n : Int) 66 = (m : Int) := ⟨min n 66, by omega⟩
  have hm5 : m ≤ 66 ∧ m ≤ n := by omega
  have hmc : m ≤ vc := by omega
  have hml : (L.take 66).length = m := by
    rw [List.length_take, hn]
    omega
  have htk : L.take m = L.take 66 := by
    rw [← hml, List.length_take, ← List.take_take, List.take_length]
  have hs := SrcN.take hv hm5.2
  rw [Nat.mul_one, ← List.map_take, htk] at hs
  have HS : Hid (∀ V, Below w.heap.size w V → SrcN 1 V (.slice va m vc) m ((L.take 66).map U6)) := Lib.hid fun V hV => SrcN.keep hs hV
  rw [hn, hml]
  obtain ⟨T, hT⟩ : ∃ T, L.take 66 = T := ⟨_, rfl⟩
  rw [hT] at HS ⊢
  clear hv hn hc hs htk hml hT
  have hm0 : (0 : Int) ≤ (m : Int) := by omega
  have hmvc : ¬ (vc : Int) < (m : Int) := by omega
  go_enter Tryd.func20, Tryd.ntmps20
  go_wp2_with (at_builtin; refine wpList_appN _ rfl _ _ 32 rfl w.heap.size 63 i0 _ 1 8 Tryd.underlying32 hi0 hz0 hz1 hz2 rfl (by decide) _ 0 [] rfl (own_empty w 63 1 w.heap.size (Nat.le_refl _)) _ m (T.map U6) (by rfl) (HS.out _ (balloc (Below.refl _ _) _)) (u64_cells T) (by unfold maxLen; omega) (by omega) (by simp) ?_; intro v' w1 hown hgrow _; obtain ⟨va, vc, rfl⟩ := own_shape hown)
  have hb : Below w.heap.size w w1 := (balloc (Below.refl _ w) (.cells #[] 63)).grown hgrow (by simp) (fun k e => by have : w.heap.size = k := Option.some.inj e; omega)
  rw [Nat.zero_add, List.nil_append] at hown
  go_wp2
  go_ret
  exact ⟨_, rfl, hown, hb⟩
theorem two_blocks (w : World) (o0 o1 : Obj) (B : Nat) (hB : w.heap.size = B) : ∃ W0, (w.alloc o0).alloc o1 = W0 ∧ W0.heap[B]? = some o0 ∧ W0.heap[B + 1]? = some o1 ∧ Below w.heap.size w W0 ∧ W0.heap.size = B + 2 := by
  subst hB
  refine ⟨_, rfl, (Below.block (balloc (Below.refl _ (w.alloc o0)) o1) _ (by simp)).trans (heap_alloc_new w o0), ?_, balloc (balloc (Below.refl _ _) _) _, by simp⟩
  rw [show w.heap.size + 1 = (w.alloc o0).heap.size by simp]
  exact heap_alloc_new _ _
def mkR (a b c d w h : Int) : Rc := ⟨a % w, b % h, 1 + c % (w - a % w), 1 + d % (h - b % h)⟩
theorem mkR_in {a b c d w h : Int} (hq : q4Ok a b c d) (hw : 1 ≤ w) (hh : 1 ≤ h) : wiP (mkR a b c d w h) w h := by
  obtain ⟨⟨a0, a1⟩, ⟨b0, b1⟩, ⟨c0, c1⟩, d0, d1⟩ := hq
  have x0 := Int.emod_nonneg a (show w ≠ 0 by omega)
  have x1 := Int.emod_lt_of_pos a (show 0 < w by omega)
  have y0 := Int.emod_nonneg b (show h ≠ 0 by omega)
  have y1 := Int.emod_lt_of_pos b (show 0 < h by omega)
  unfold mkR wiP
  dsimp only
  have z0 := Int.emod_nonneg c (show w - a % w ≠ 0 by omega)
  have z1 := Int.emod_lt_of_pos c (show 0 < w - a % w by omega)
  have t0 := Int.emod_nonneg d (show h - b % h ≠ 0 by omega)
  have t1 := Int.emod_lt_of_pos d (show 0 < h - b % h by omega)
  omega
theorem wi_ok {c : Rc} {w h : Int} (hc : wiP c w h) (hw : w ≤ 1000000) (hh : h ≤ 1000000) : rcOk c := by
  obtain ⟨h1, h2, h3, h4, h5, h6, h7, h8⟩ := hc
  unfold rcOk
  omega
set_option maxHeartbeats 2000000 in
theorem mrect_any (W : World) (a b c d w h : Int) (hq : q4Ok a b c d) (hw : 1 ≤ w) (hw2 : w ≤ 1000000) (hh : 1 ≤ h) (hh2 : h ≤ 1000000) :
    Calls Tryd.prog 24 #[q4V a b c d, .int .i64 w, .int .i64 h] W fun e w' => e = .returned (rcV (mkR a b c d w h)) ∧ Below W.heap.size W w' := by
  have hin := mkR_in hq hw hh
  have hok := wi_ok hin hw2 hh2
  obtain ⟨⟨a0, a1⟩, ⟨b0, b1⟩, ⟨c0, c1⟩, d0, d1⟩ := hq
  have x0 := Int.emod_nonneg a (show w ≠ 0 by omega)
  have x1 := Int.emod_lt_of_pos a (show 0 < w by omega)
  have y0 := Int.emod_nonneg b (show h ≠ 0 by omega)
  have y1 := Int.emod_lt_of_pos b (show 0 < h by omega)
  have z0 := Int.emod_nonneg c (show w - a % w ≠ 0 by omega)
  have z1 := Int.emod_lt_of_pos c (show 0 < w - a % w by omega)
  have t0 := Int.emod_nonneg d (show h - b % h ≠ 0 by omega)
  have t1 := Int.emod_lt_of_pos d (show 0 < h - b % h by omega)
  have e1 : a.tmod w = a % w := Int.tmod_eq_emod_of_nonneg a0
  have e2 : b.tmod h = b % h := Int.tmod_eq_emod_of_nonneg b0
  have e3 : c.tmod (w - a % w) = c % (w - a % w) := Int.tmod_eq_emod_of_nonneg c0
  have e4 : d.tmod (h - b % h) = d % (h - b % h) := Int.tmod_eq_emod_of_nonneg d0
  have HR : Hid (mkR a b c d w h = ⟨a % w, b % h, 1 + c % (w - a % w), 1 + d % (h - b % h)⟩) := Lib.hid rfl
  clear hin hok
  have v1 : IntKind.i64.wrap a = a := IntWalk.i64_in _ (by omega)
  have v2 : IntKind.i64.wrap b = b := IntWalk.i64_in _ (by omega)
  have v3 : IntKind.i64.wrap c = c := IntWalk.i64_in _ (by omega)
  have v4 : IntKind.i64.wrap d = d := IntWalk.i64_in _ (by omega)
  obtain ⟨B, hB⟩ : ∃ B, W.heap.size = B := ⟨_, rfl⟩
  obtain ⟨W2, hW2, b0, b1, bel, hsz⟩ := two_blocks W (.cells #[.int .u8 a, .int .u8 b, .int .u8 c, .int .u8 d] 29) (.cells #[.int .i64 0, .int .i64 0, .int .i64 0, .int .i64 0] 31) B hB
  obtain ⟨wd, hwd⟩ : ∃ wd, W2.drew = wd := ⟨_, rfl⟩
  have HWD := Lib.hid hwd
  have HBW : Hid (Below W.heap.size W wd) := Lib.hid (by rw [← hwd]; exact Below.drew bel)
  have HSZ : Hid (wd.heap.size = B + 2) := Lib.hid (by rw [← hwd]; exact hsz)
  have HB0 : Hid (wd.heap[B]? = some (.cells #[.int .u8 a, .int .u8 b, .int .u8 c, .int .u8 d] 29)) := Lib.hid (by rw [← hwd]; exact b0)
  have HB1 : Hid (wd.heap[B + 1]? = some (.cells #[.int .i64 0, .int .i64 0, .int .i64 0, .int .i64 0] 31)) := Lib.hid (by rw [← hwd]; exact b1)
  have HKS : Hid (∀ U, Below wd.heap.size wd U → U.cell? ⟨B, 0, none⟩ = some (.int .u8 a) ∧ U.cell? ⟨B, 1, none⟩ = some (.int .u8 b) ∧ U.cell? ⟨B, 2, none⟩ = some (.int .u8 c) ∧ U.cell? ⟨B, 3, none⟩ = some (.int .u8 d)) := Lib.hid fun U hU => by
    have h2 := (hU.block B (by rw [HSZ.out]; omega)).trans HB0.out
    exact ⟨nd_cell h2 rfl, nd_cell h2 rfl, nd_cell h2 rfl, nd_cell h2 rfl⟩
  have HB := Lib.hid hB
  clear bel hsz b0 b1 hwd
  go_enter Tryd.func24, Tryd.ntmps24
  go_upto_region 1 with fail
  try rw [hW2]
  try rw [hB]
  clear hW2 hB
  refine wp_region_held_drew (S := (fun w' => w'.cell? ⟨B, 0, none⟩ = some (.int .u8 a) ∧ w'.cell? ⟨B, 1, none⟩ = some (.int .u8 b) ∧ w'.cell? ⟨B, 2, none⟩ = some (.int .u8 c) ∧ w'.cell? ⟨B, 3, none⟩ = some (.int .u8 d))) (by kernel_rfl) ?_ (fun hHeld => ?_)
  · (rw [HWD.out]; exact HKS.out _ (Below.refl _ _))
  rw [HWD.out] at hHeld ⊢
  refine wpAnyH_take (i := 0) (oi := { dst := some 8, op := Op.indexAddr 29 (Operand.tmp 3) (Operand.const (Value.int IntKind.i64 0)), type := 0, pos := "ref.go:223", after := #[], guard := none }) (v := ?_) rfl (by kernel_rfl) (by kernel_rfl) (by kernel_rfl) (fun _ _ _ h => h) (Or.inl ⟨by rfl, ?_⟩) (by assumption) ?_
  rotate_left
  · ((intro w hSw; (try dsimp only at hSw); go_simp; (try rw [if_neg (by omega)])); try with_reducible rfl)
  (try simp only [Act.put, List.setIfInBounds_toArray, List.set_cons_zero, List.set_cons_succ])
  refine wpAnyH_take (i := 1) (oi := { dst := some 9, op := Op.load 5 (Operand.tmp 8), type := 5, pos := "ref.go:223", after := #[{ on := 0, ground := Ground.data }], guard := none }) (v := ?_) rfl (by kernel_rfl) (by kernel_rfl) (by kernel_rfl) (fun _ _ _ h => h) (Or.inl ⟨by rfl, ?_⟩) (by assumption) ?_
  rotate_left
  · ((intro w hSw; (try dsimp only at hSw); go_simp; (try rw [if_neg (by omega)])); try with_reducible rfl)
  (try simp only [Act.put, List.setIfInBounds_toArray, List.set_cons_zero, List.set_cons_succ])
  refine wpAnyH_take (i := 2) (oi := { dst := some 10, op := Op.convert 5 3 (Operand.tmp 9), type := 3, pos := "ref.go:223", after := #[{ on := 1, ground := Ground.data }], guard := none }) (v := ?_) rfl (by kernel_rfl) (by kernel_rfl) (by kernel_rfl) (fun _ _ _ h => h) (Or.inl ⟨by rfl, ?_⟩) (by assumption) ?_
  rotate_left
  · ((intro w hSw; (try dsimp only at hSw); go_simp; (try rw [if_neg (by omega)])); try with_reducible rfl)
  (try simp only [Act.put, List.setIfInBounds_toArray, List.set_cons_zero, List.set_cons_succ])
  refine wpAnyH_take (i := 3) (oi := { dst := some 11, op := Op.move (Operand.tmp 1), type := 3, pos := "ref.go:223", after := #[], guard := none }) (v := ?_) rfl (by kernel_rfl) (by kernel_rfl) (by kernel_rfl) (fun _ _ _ h => h) (Or.inl ⟨by rfl, ?_⟩) (by assumption) ?_
  rotate_left
  · ((intro w hSw; (try dsimp only at hSw); go_simp; (try rw [if_neg (by omega)])); try with_reducible rfl)
  (try simp only [Act.put, List.setIfInBounds_toArray, List.set_cons_zero, List.set_cons_succ])
  refine wpAnyH_take (i := 4) (oi := { dst := some 12, op := Op.binOp BinOp.rem 3 (Operand.tmp 10) (Operand.tmp 11) 3, type := 3, pos := "ref.go:223", after := #[{ on := 2, ground := Ground.data }, { on := 3, ground := Ground.data }], guard := none }) (v := ?_) rfl (by kernel_rfl) (by kernel_rfl) (by kernel_rfl) (fun _ _ _ h => h) (Or.inl ⟨by rfl, ?_⟩) (by assumption) ?_
  rotate_left
  · ((intro w hSw; (try dsimp only at hSw); go_simp; (try rw [if_neg (by omega)])); try with_reducible rfl)
  (try simp only [Act.put, List.setIfInBounds_toArray, List.set_cons_zero, List.set_cons_succ])
  refine wpAnyH_take (i := 5) (oi := { dst := some 13, op := Op.indexAddr 29 (Operand.tmp 3) (Operand.const (Value.int IntKind.i64 1)), type := 0, pos := "ref.go:223", after := #[], guard := none }) (v := ?_) rfl (by kernel_rfl) (by kernel_rfl) (by kernel_rfl) (fun _ _ _ h => h) (Or.inl ⟨by rfl, ?_⟩) (by assumption) ?_
  rotate_left
  · ((intro w hSw; (try dsimp only at hSw); go_simp; (try rw [if_neg (by omega)])); try with_reducible rfl)
  (try simp only [Act.put, List.setIfInBounds_toArray, List.set_cons_zero, List.set_cons_succ])
  refine wpAnyH_take (i := 6) (oi := { dst := some 14, op := Op.load 5 (Operand.tmp 13), type := 5, pos := "ref.go:223", after := #[{ on := 5, ground := Ground.data }], guard := none }) (v := ?_) rfl (by kernel_rfl) (by kernel_rfl) (by kernel_rfl) (fun _ _ _ h => h) (Or.inl ⟨by rfl, ?_⟩) (by assumption) ?_
  rotate_left
  · ((intro w hSw; (try dsimp only at hSw); go_simp; (try rw [if_neg (by omega)])); try with_reducible rfl)
  (try simp only [Act.put, List.setIfInBounds_toArray, List.set_cons_zero, List.set_cons_succ])
  refine wpAnyH_take (i := 7) (oi := { dst := some 15, op := Op.convert 5 3 (Operand.tmp 14), type := 3, pos := "ref.go:223", after := #[{ on := 6, ground := Ground.data }], guard := none }) (v := ?_) rfl (by kernel_rfl) (by kernel_rfl) (by kernel_rfl) (fun _ _ _ h => h) (Or.inl ⟨by rfl, ?_⟩) (by assumption) ?_
  rotate_left
  · ((intro w hSw; (try dsimp only at hSw); go_simp; (try rw [if_neg (by omega)])); try with_reducible rfl)
  (try simp only [Act.put, List.setIfInBounds_toArray, List.set_cons_zero, List.set_cons_succ])
  refine wpAnyH_take (i := 8) (oi := { dst := some 16, op := Op.move (Operand.tmp 2), type := 3, pos := "ref.go:223", after := #[], guard := none }) (v := ?_) rfl (by kernel_rfl) (by kernel_rfl) (by kernel_rfl) (fun _ _ _ h => h) (Or.inl ⟨by rfl, ?_⟩) (by assumption) ?_
  rotate_left
  · ((intro w hSw; (try dsimp only at hSw); go_simp; (try rw [if_neg (by omega)])); try with_reducible rfl)
  (try simp only [Act.put, List.setIfInBounds_toArray, List.set_cons_zero, List.set_cons_succ])
  refine wpAnyH_take (i := 9) (oi := { dst := some 17, op := Op.binOp BinOp.rem 3 (Operand.tmp 15) (Operand.tmp 16) 3, type := 3, pos := "ref.go:223", after := #[{ on := 7, ground := Ground.data }, { on := 8, ground := Ground.data }], guard := none }) (v := ?_) rfl (by kernel_rfl) (by kernel_rfl) (by kernel_rfl) (fun _ _ _ h => h) (Or.inl ⟨by rfl, ?_⟩) (by assumption) ?_
  rotate_left
  · ((intro w hSw; (try dsimp only at hSw); go_simp; (try rw [if_neg (by omega)])); try with_reducible rfl)
  (try simp only [Act.put, List.setIfInBounds_toArray, List.set_cons_zero, List.set_cons_succ])
  refine wpAnyH_take (i := 10) (oi := { dst := some 18, op := Op.build 31 #[(0, Operand.tmp 12), (1, Operand.tmp 17)], type := 31, pos := "ref.go:223", after := #[{ on := 4, ground := Ground.data }, { on := 9, ground := Ground.data }], guard := none }) (v := ?_) rfl (by kernel_rfl) (by kernel_rfl) (by kernel_rfl) (fun _ _ _ h => h) (Or.inl ⟨by rfl, ?_⟩) (by assumption) ?_
  rotate_left
  · ((intro w hSw; (try dsimp only at hSw); go_simp; (try rw [if_neg (by omega)])); try with_reducible rfl)
  (try simp only [Act.put, List.setIfInBounds_toArray, List.set_cons_zero, List.set_cons_succ])
  refine wpAnyH_ready (rs := [11]) (by kernel_rfl) (by simp) ?_
  refine AllReadyH.cons (o := { dst := some 7, op := Op.alloc 31, type := 0, pos := "ref.go:223", after := #[], guard := none }) rfl (fun K hK => ?_) ?_
  · (go_simp; have hxn := heap_alloc_new wd (.cells #[.int .i64 0, .int .i64 0, .int .i64 0, .int .i64 0] 31); have bzA := balloc (Below.refl _ wd) (.cells #[.int .i64 0, .int .i64 0, .int .i64 0, .int .i64 0] 31); obtain ⟨X, hX⟩ : ∃ X, wd.heap.size = X := ⟨_, rfl⟩; obtain ⟨wa, hwa⟩ : ∃ wa, wd.alloc (.cells #[.int .i64 0, .int .i64 0, .int .i64 0, .int .i64 0] 31) = wa := ⟨_, rfl⟩; have HXo : Hid (X = wd.heap.size) := Lib.hid hX.symm; rw [hX] at hxn; rw [hwa] at hxn bzA; (try rw [hX]); (try rw [hwa]); clear hX hwa)
    refine hK.out _ _ ?_ (fun hHeld => ?_)
    · exact HKS.out _ bzA
    clear hK K
    (try simp only [Act.put, List.setIfInBounds_toArray, List.set_cons_zero, List.set_cons_succ])
    refine wpAnyH_ready (rs := [12]) (by kernel_rfl) (by simp) ?_
    refine AllReadyH.cons (o := { dst := none, op := Op.store 31 (Operand.tmp 7) (Operand.tmp 18), type := 0, pos := "ref.go:223", after := #[{ on := 11, ground := Ground.data }, { on := 10, ground := Ground.data }, { on := 0, ground := Ground.phase }, { on := 1, ground := Ground.phase }, { on := 2, ground := Ground.phase }, { on := 3, ground := Ground.phase }, { on := 4, ground := Ground.phase }, { on := 5, ground := Ground.phase }, { on := 6, ground := Ground.phase }, { on := 7, ground := Ground.phase }, { on := 8, ground := Ground.phase }, { on := 9, ground := Ground.phase }, { on := 10, ground := Ground.phase }, { on := 11, ground := Ground.phase }], guard := none }) rfl (fun K hK => ?_) ?_
    · (have y0 : wa.cell? ⟨X, 0, none⟩ = some (.int .i64 0) := nd_cell hxn rfl; have y1 : wa.cell? ⟨X, 1, none⟩ = some (.int .i64 0) := nd_cell hxn rfl; have y2 : wa.cell? ⟨X, 2, none⟩ = some (.int .i64 0) := nd_cell hxn rfl; have y3 : wa.cell? ⟨X, 3, none⟩ = some (.int .i64 0) := nd_cell hxn rfl; have z0 := nd_froz hxn 0; have z1 := nd_froz hxn 1; have z2 := nd_froz hxn 2; have z3 := nd_froz hxn 3; obtain ⟨wx, hwx, hxx, hfx⟩ := set4 hxn (.int .i64 (a % w)) (.int .i64 (b % h)) (.int .i64 0) (.int .i64 0); have bzx : Below wd.heap.size wd wx := hfx.below wd bzA (fun b hb => (by rw [hb, HXo.out]; exact Nat.le_refl _)); go_simp; (try rw [hwx]); clear y0 y1 y2 y3 z0 z1 z2 z3 hfx hwx)
      refine hK.out _ _ ?_ (fun hHeld => ?_)
      · exact HKS.out _ bzx
      clear hK K
      (try simp only [Act.put, List.setIfInBounds_toArray, List.set_cons_zero, List.set_cons_succ])
      refine wpAnyH_done (by kernel_rfl) ?_ _
      clear hHeld
      try clear hxn
      obtain ⟨c0, c1, c2, c3⟩ := HKS.out _ bzx
      have hk1 := (bzx.block (B + 1) (by rw [HSZ.out]; omega)).trans HB1.out
      have HXX := Lib.hid hxx
      have HBX := Lib.hid bzx
      have HK1 := Lib.hid hk1
      have x0 : wx.cell? ⟨X, 0, none⟩ = some (.int .i64 (a % w)) := nd_cell hxx rfl
      have x1 : wx.cell? ⟨X, 1, none⟩ = some (.int .i64 (b % h)) := nd_cell hxx rfl
      have x2 : wx.cell? ⟨X, 2, none⟩ = some (.int .i64 0) := nd_cell hxx rfl
      have x3 : wx.cell? ⟨X, 3, none⟩ = some (.int .i64 0) := nd_cell hxx rfl
      have f2 := nd_froz hxx 2
      have f3 := nd_froz hxx 3
      have hXB : X ≠ B := by rw [HXo.out, HSZ.out]; omega
      have hXB1 : X ≠ B + 1 := by rw [HXo.out, HSZ.out]; omega
      clear hxx bzx bzA hk1
      go_simp
      go_upto_region 2 with fail
      go_upto_region 3 with fail
      have hyy := heap_setCell_same _ X 2 _ _ (.int .i64 (1 + c % (w - a % w))) HXX.out
      have HF1 := Lib.hid (FrS.set (S := fun q => q = X) wx (b := X) (i := 2) rfl (.int .i64 (1 + c % (w - a % w))))
      obtain ⟨wy, hwy⟩ : ∃ wy, wx.setCell ⟨X, 2, none⟩ (.int .i64 (1 + c % (w - a % w))) = wy := ⟨_, rfl⟩
      rw [hwy] at hyy HF1
      rw [hwy]
      clear x0 x1 x2 x3 f2 f3 c0 c1 c2 c3 hwy
      have HB3 : Hid (Below wd.heap.size wd wy) := Lib.hid (HF1.out.below wd HBX.out (fun q hq => by rw [hq, HXo.out]; exact Nat.le_refl _))
      obtain ⟨c0, c1, c2, c3⟩ := HKS.out _ HB3.out
      have x0 : wy.cell? ⟨X, 0, none⟩ = some (.int .i64 (a % w)) := nd_cell hyy rfl
      have x1 : wy.cell? ⟨X, 1, none⟩ = some (.int .i64 (b % h)) := nd_cell hyy rfl
      have x2 : wy.cell? ⟨X, 2, none⟩ = some (.int .i64 (1 + c % (w - a % w))) := nd_cell hyy rfl
      have x3 : wy.cell? ⟨X, 3, none⟩ = some (.int .i64 0) := nd_cell hyy rfl
      have f3 := nd_froz hyy 3
      have HYY := Lib.hid hyy
      clear hyy
      go_upto_region 4 with fail
      have hyy := heap_setCell_same _ X 3 _ _ (.int .i64 (1 + d % (h - b % h))) HYY.out
      have HF2 := Lib.hid (FrS.set (S := fun q => q = X) wy (b := X) (i := 3) rfl (.int .i64 (1 + d % (h - b % h))))
      obtain ⟨wz, hwz⟩ : ∃ wz, wy.setCell ⟨X, 3, none⟩ (.int .i64 (1 + d % (h - b % h))) = wz := ⟨_, rfl⟩
      rw [hwz] at hyy HF2
      rw [hwz]
      clear x0 x1 x2 x3 f3 c0 c1 c2 c3 hwz
      have HB4 : Hid (Below wd.heap.size wd wz) := Lib.hid (HF2.out.below wd HB3.out (fun q hq => by rw [hq, HXo.out]; exact Nat.le_refl _))
      have hk1 := (HB4.out.block (B + 1) (by rw [HSZ.out]; omega)).trans HB1.out
      have x0 : wz.cell? ⟨X, 0, none⟩ = some (.int .i64 (a % w)) := nd_cell hyy rfl
      have x1 : wz.cell? ⟨X, 1, none⟩ = some (.int .i64 (b % h)) := nd_cell hyy rfl
      have x2 : wz.cell? ⟨X, 2, none⟩ = some (.int .i64 (1 + c % (w - a % w))) := nd_cell hyy rfl
      have x3 : wz.cell? ⟨X, 3, none⟩ = some (.int .i64 (1 + d % (h - b % h))) := nd_cell hyy rfl
      have y0 : wz.cell? ⟨B + 1, 0, none⟩ = some (.int .i64 0) := nd_cell hk1 rfl
      have y1 : wz.cell? ⟨B + 1, 1, none⟩ = some (.int .i64 0) := nd_cell hk1 rfl
      have y2 : wz.cell? ⟨B + 1, 2, none⟩ = some (.int .i64 0) := nd_cell hk1 rfl
      have y3 : wz.cell? ⟨B + 1, 3, none⟩ = some (.int .i64 0) := nd_cell hk1 rfl
      have z0 := nd_froz hk1 0
      have z1 := nd_froz hk1 1
      have z2 := nd_froz hk1 2
      have z3 := nd_froz hk1 3
      obtain ⟨w9, hw9, h99, hf9⟩ := set4 hk1 (.int .i64 (a % w)) (.int .i64 (b % h)) (.int .i64 (1 + c % (w - a % w))) (.int .i64 (1 + d % (h - b % h)))
      have H99 := Lib.hid h99
      have HB9 : Hid (Below W.heap.size W w9) := Lib.hid (hf9.below W (bnext HBW.out HB4.out) (fun q hq => by rw [hq]; have := HB.out; omega))
      clear hyy hk1 hf9 h99
      go_wp2
      try rw [hw9]
      refine bodyPost_ret (v := rcV ⟨a % w, b % h, 1 + c % (w - a % w), 1 + d % (h - b % h)⟩) (results_cell_row Tryd.results24 _ _ (B + 1) 31 _ (0, 0) _ rfl H99.out Tryd.underlying31 rfl (by kernel_rfl)) rfl ?_
      exact ⟨by rw [HR.out], HB9.out⟩
    exact AllReadyH.nil
  exact AllReadyH.nil
end Go.Proofs.YtmiennkldkcnfaaDoor
