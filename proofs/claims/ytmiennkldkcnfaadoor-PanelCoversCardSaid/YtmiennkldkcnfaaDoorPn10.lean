/- Rectangles around rectangles; their areas. No conditions. -/
import Derived.Test.YtmiennkldkcnfaaDoorPn9
namespace Go.Proofs.YtmiennkldkcnfaaDoor
set_option maxRecDepth 100000
set_option linter.unusedVariables false
open Go.RowKit Go.Deep
theorem set4 {w : World} {X : Nat} {u0 u1 u2 u3 : Value} {T : TypeId} (h : w.heap[X]? = some (.cells #[u0, u1, u2, u3] T (0, 0))) (a b c d : Value) :
    ∃ V, (((w.setCell ⟨X, 0, none⟩ a).setCell ⟨X, 1, none⟩ b).setCell ⟨X, 2, none⟩ c).setCell ⟨X, 3, none⟩ d = V ∧ V.heap[X]? = some (.cells #[a, b, c, d] T (0, 0)) ∧ FrS (fun y => y = X) w V := by
  have s := fun (V : World) (i : Nat) (u : Value) => FrS.set (S := fun b => b = X) V (b := X) (i := i) rfl u
  refine ⟨_, rfl, ?_, (((s _ _ _).trans (s _ _ _)).trans (s _ _ _)).trans (s _ _ _)⟩
  exact heap_setCell_same _ X 3 _ T d (heap_setCell_same _ X 2 _ T c (heap_setCell_same _ X 1 _ T b (heap_setCell_same w X 0 _ T a h)))
theorem rcs_get (A : List Rc) (i j : Nat) (hj : j < 4) (r : Rc) (hk : A[i]? = some r) : (rcs A)[i * 4 + j]? = (rcL r)[j]? := by
  induction A generalizing i with
  | nil => simp at hk
  | cons a A ih =>
    cases i with
    | zero =>
      simp at hk
      subst hk
      show (rcL a ++ rcs A)[0 * 4 + j]? = _
      rw [List.getElem?_append_left (by rw [rcL_len]; omega)]
      simp
    | succ i =>
      show (rcL a ++ rcs A)[(i + 1) * 4 + j]? = _
      rw [List.getElem?_append_right (by rw [rcL_len]; omega), rcL_len, show (i + 1) * 4 + j - 4 = i * 4 + j by omega]
      exact ih i (by simpa using hk)
theorem rc_at {W : World} {n c : Nat} {a : Option Addr} {A : List Rc} (h : SrcN 4 W (.slice a n c) n (rcs A)) {i : Nat} {r : Rc} (hk : A[i]? = some r) :
    ∃ g o, a = some ⟨g, o, none⟩ ∧ g < W.heap.size ∧ W.cell? ⟨g, o + i * 4, none⟩ = some (.int .i64 r.x) ∧ W.cell? ⟨g, o + i * 4 + 1, none⟩ = some (.int .i64 r.y) ∧ W.cell? ⟨g, o + i * 4 + 2, none⟩ = some (.int .i64 r.w) ∧ W.cell? ⟨g, o + i * 4 + 3, none⟩ = some (.int .i64 r.h) := by
  obtain ⟨ao, c', e1, hl, h1⟩ := h
  injection e1 with e1 _ _
  subst e1
  rcases h1 with ⟨h1, _⟩ | ⟨g, o, rfl, hgl, hc⟩
  · have := (List.getElem?_eq_some_iff.1 hk).1
    rw [rcs_len] at hl
    omega
  · refine ⟨g, o, rfl, hgl, ?_, ?_, ?_, ?_⟩
    · exact hc (i * 4 + 0) _ (rcs_get A i 0 (by decide) r hk)
    · exact hc (i * 4 + 1) _ (rcs_get A i 1 (by decide) r hk)
    · exact hc (i * 4 + 2) _ (rcs_get A i 2 (by decide) r hk)
    · exact hc (i * 4 + 3) _ (rcs_get A i 3 (by decide) r hk)
theorem area_any (W : World) (r : Rc) (hr : rb r) : Calls Tryd.prog 61 #[rcV r] W fun e w' => e = .returned (.int .i64 (PN.area r)) ∧ Below W.heap.size W w' := by
  have ha := PN.area_le hr
  obtain ⟨x, y, cw, ch⟩ := r
  unfold PN.area at *
  dsimp only at ha ⊢
  obtain ⟨q, hq⟩ : ∃ q, cw * ch = q := ⟨_, rfl⟩
  rw [hq] at ha ⊢
  have hw : IntKind.i64.wrap q = q := by rw [IntKind.wrap_i64]; omega
  go_enter Tryd.func61, Tryd.ntmps61
  go_wp2
  go_ret
  exact ⟨ret1 (by first | rfl | omega | simp_all), balloc (Below.refl _ _) _⟩
theorem rarea_any (W : World) (r : Rc) (hr : rb r) : Calls Tryd.prog 46 #[rcV r] W fun e w' => e = .returned (.int .i64 (PN.area r)) ∧ Below W.heap.size W w' := by
  have ha := PN.area_le hr
  obtain ⟨x, y, cw, ch⟩ := r
  unfold PN.area at *
  dsimp only at ha ⊢
  obtain ⟨q, hq⟩ : ∃ q, cw * ch = q := ⟨_, rfl⟩
  rw [hq] at ha ⊢
  have hw : IntKind.i64.wrap q = q := by rw [IntKind.wrap_i64]; omega
  go_enter Tryd.func46, Tryd.ntmps46
  go_wp2
  go_ret
  exact ⟨ret1 (by first | rfl | omega | simp_all), balloc (Below.refl _ _) _⟩
set_option maxHeartbeats 1000000 in
theorem rboth_any (W : World) (a b : Rc) (ha : rb a) (hb : rb b) : Calls Tryd.prog 45 #[rcV a, rcV b] W fun e w' => e = .returned (rcV (PN.both a b)) ∧ Below W.heap.size W w' := by
  obtain ⟨x, y, cw, ch⟩ := a
  obtain ⟨x2, y2, cw2, ch2⟩ := b
  unfold PN.both rb at *
  dsimp only at ha hb ⊢
  obtain ⟨m1, h1⟩ : ∃ m, min x x2 = m := ⟨_, rfl⟩
  obtain ⟨m2, h2⟩ : ∃ m, min y y2 = m := ⟨_, rfl⟩
  obtain ⟨m3, h3⟩ : ∃ m, max (x + cw) (x2 + cw2) = m := ⟨_, rfl⟩
  obtain ⟨m4, h4⟩ : ∃ m, max (y + ch) (y2 + ch2) = m := ⟨_, rfl⟩
  have i1 : 0 ≤ m1 ∧ m1 ≤ 64 := by omega
  have i2 : 0 ≤ m2 ∧ m2 ≤ 64 := by omega
  have i3 : 0 ≤ m3 ∧ m3 ≤ 64 := by omega
  have i4 : 0 ≤ m4 ∧ m4 ≤ 64 := by omega
  rw [h1, h2, h3, h4]
  have g1 : (if x2 < x then x2 else x) = m1 := by split <;> omega
  have g2 : (if y2 < y then y2 else y) = m2 := by split <;> omega
  have g3 : (if x + cw < x2 + cw2 then x2 + cw2 else x + cw) = m3 := by split <;> omega
  have g4 : (if y + ch < y2 + ch2 then y2 + ch2 else y + ch) = m4 := by split <;> omega
  go_enter Tryd.func45, Tryd.ntmps45
  have hx := heap_alloc_new ((W.alloc (.cells #[.int .i64 x, .int .i64 y, .int .i64 cw, .int .i64 ch] 31)).alloc (.cells #[.int .i64 x2, .int .i64 y2, .int .i64 cw2, .int .i64 ch2] 31)) (.cells #[.int .i64 m1, .int .i64 m2, .int .i64 (m3 - m1), .int .i64 (m4 - m2)] 31)
  have hsz : ((W.alloc (.cells #[.int .i64 x, .int .i64 y, .int .i64 cw, .int .i64 ch] 31)).alloc (.cells #[.int .i64 x2, .int .i64 y2, .int .i64 cw2, .int .i64 ch2] 31)).heap.size = W.heap.size + 1 + 1 := by simp
  rw [hsz] at hx
  have HX := Lib.hid hx
  clear hx hsz
  go_wp2
  refine bodyPost_ret (v := rcV ⟨m1, m2, m3 - m1, m4 - m2⟩) (results_cell_row Tryd.results45 _ _ (W.heap.size + 1 + 1) 31 _ (0, 0) _ rfl HX.out Tryd.underlying31 rfl (by kernel_rfl)) rfl ?_
  exact ⟨rfl, balloc (balloc (balloc (Below.refl _ W) _) _) _⟩
set_option maxHeartbeats 2000000 in
theorem around_any (W : World) (a : Rc) (L : List Rc) (v : Value) (n : Nat) (hn : L.length = n) (hv : SrcN 4 W v n (rcs L)) (ha : rb a) (hl : ∀ r ∈ L, rb r) (hn1 : n ≤ 1000) : Calls Tryd.prog 59 #[rcV a, v] W fun e w' => e = .returned (rcV (L.foldl PN.both a)) ∧ Below W.heap.size W w' := by
  obtain ⟨va, vc, rfl, -, -⟩ := id hv
  have HL := Lib.hid hl
  have HN := Lib.hid hn
  have HA := Lib.hid ha
  have HV : Hid (∀ U, Below W.heap.size W U → SrcN 4 U (.slice va n vc) n (rcs L)) := Lib.hid fun U hU => hv.keep hU
  clear hn hv hl ha
  obtain ⟨ax, ay, aw, ah⟩ := a
  have hb1 := balloc (balloc (balloc (Below.refl _ W) (.cells #[.int .i64 ax, .int .i64 ay, .int .i64 aw, .int .i64 ah] 31)) (.cells #[.int .i64 0, .int .i64 0, .int .i64 0, .int .i64 0] 31)) (.cells #[.int .i64 ax, .int .i64 ay, .int .i64 aw, .int .i64 ah] 31)
  have hx3 := heap_alloc_new ((W.alloc (.cells #[.int .i64 ax, .int .i64 ay, .int .i64 aw, .int .i64 ah] 31)).alloc (.cells #[.int .i64 0, .int .i64 0, .int .i64 0, .int .i64 0] 31)) (.cells #[.int .i64 ax, .int .i64 ay, .int .i64 aw, .int .i64 ah] 31)
  have hx2 := heap_alloc_new (W.alloc (.cells #[.int .i64 ax, .int .i64 ay, .int .i64 aw, .int .i64 ah] 31)) (.cells #[.int .i64 0, .int .i64 0, .int .i64 0, .int .i64 0] 31)
  have hs2 : (W.alloc (.cells #[.int .i64 ax, .int .i64 ay, .int .i64 aw, .int .i64 ah] 31)).heap.size = W.heap.size + 1 := by simp
  have hs3 : ((W.alloc (.cells #[.int .i64 ax, .int .i64 ay, .int .i64 aw, .int .i64 ah] 31)).alloc (.cells #[.int .i64 0, .int .i64 0, .int .i64 0, .int .i64 0] 31)).heap.size = W.heap.size + 1 + 1 := by simp
  rw [hs2] at hx2
  rw [hs3] at hx3
  obtain ⟨V1, hV1⟩ : ∃ V1, ((W.alloc (.cells #[.int .i64 ax, .int .i64 ay, .int .i64 aw, .int .i64 ah] 31)).alloc (.cells #[.int .i64 0, .int .i64 0, .int .i64 0, .int .i64 0] 31)).alloc (.cells #[.int .i64 ax, .int .i64 ay, .int .i64 aw, .int .i64 ah] 31) = V1 := ⟨_, rfl⟩
  have HX2 : Hid (V1.heap[W.heap.size + 1]? = some (.cells #[.int .i64 0, .int .i64 0, .int .i64 0, .int .i64 0] 31 (0, 0))) := Lib.hid (by
    rw [← hV1]
    exact ((balloc (Below.refl _ _) _).block (W.heap.size + 1) (by rw [hs3]; omega)).trans hx2)
  rw [hV1] at hb1 hx3
  have HX3 : Hid (V1.heap[W.heap.size + 1 + 1]? = some (.cells #[.int .i64 ax, .int .i64 ay, .int .i64 aw, .int .i64 ah] 31 (0, 0))) := Lib.hid hx3
  have HB1 := Lib.hid hb1
  have HV1 := Lib.hid hV1
  obtain ⟨B, hB⟩ : ∃ B, W.heap.size = B := ⟨_, rfl⟩
  rw [hB] at HX2 HX3
  have HB := Lib.hid hB
  clear hb1 hx2 hx3 hs2 hs3 hV1
  go_enter Tryd.func59, Tryd.ntmps59
  go_upto_region 3 with fail
  rw [HV1.out]
  clear hB
  go_loopw [13] (fun v13 wr => ∃ k : Nat, v13 = .int .i64 (k : Int) ∧ k ≤ n ∧ Hid (wr.heap[B + 1 + 1]? = some (.cells (rcL ((L.take k).foldl PN.both ⟨ax, ay, aw, ah⟩)).toArray 31 (0, 0))) ∧ Hid (wr.heap[B + 1]? = some (.cells #[.int .i64 0, .int .i64 0, .int .i64 0, .int .i64 0] 31 (0, 0))) ∧ Hid (Below W.heap.size W wr)) (fun v _ => n - (intOf v).toNat)
  case atStart => exact ⟨0, rfl, by omega, HX3, HX2, HB1⟩
  case round =>
    clear HX2 HX3 HB1 HV1
    obtain ⟨k, rfl, hk, HX3, HX2, HBW⟩ := hrel
    have hrp := PN.foldl_rb HA.out (L := L.take k) (fun r hr => HL.out r (List.mem_of_mem_take hr))
    obtain ⟨⟨px, py, pw, ph⟩, hP⟩ : ∃ P, (L.take k).foldl PN.both ⟨ax, ay, aw, ah⟩ = P := ⟨_, rfl⟩
    rw [hP] at HX3 hrp
    have HP := Lib.hid hP
    unfold rb at hrp
    dsimp only at hrp
    have hlt3 := (Array.getElem?_eq_some_iff.1 HX3.out).1
    clear hP
    by_cases hkn : k < n
    · have hkz : (k : Int) < (n : Int) := by omega
      have hk0 : (0 : Int) ≤ (k : Int) := by omega
      obtain ⟨r, hr⟩ : ∃ r, L[k]? = some r := ⟨_, List.getElem?_eq_getElem (by rw [HN.out]; exact hkn)⟩
      have hrr := HL.out r (List.mem_of_getElem? hr)
      obtain ⟨g, o, rfl, hg, k0, k1, k2, k3⟩ := rc_at (HV.out _ HBW.out) hr
      have HTK : Hid ((L.take (k + 1)).foldl PN.both ⟨ax, ay, aw, ah⟩ = PN.both ⟨px, py, pw, ph⟩ r) := Lib.hid (by
        rw [List.take_add_one, hr, List.foldl_append, HP.out]
        rfl)
      obtain ⟨x2, y2, w2, h2⟩ := r
      unfold rb at hrr
      dsimp only at hrr k0 k1 k2 k3
      obtain ⟨m1, h1⟩ : ∃ m, min px x2 = m := ⟨_, rfl⟩
      obtain ⟨m2, h2'⟩ : ∃ m, min py y2 = m := ⟨_, rfl⟩
      obtain ⟨m3, h3⟩ : ∃ m, max (px + pw) (x2 + w2) = m := ⟨_, rfl⟩
      obtain ⟨m4, h4⟩ : ∃ m, max (py + ph) (y2 + h2) = m := ⟨_, rfl⟩
      have i1 : 0 ≤ m1 ∧ m1 ≤ 64 := by omega
      have i2 : 0 ≤ m2 ∧ m2 ≤ 64 := by omega
      have i3 : 0 ≤ m3 ∧ m3 ≤ 64 := by omega
      have i4 : 0 ≤ m4 ∧ m4 ≤ 64 := by omega
      rw [show PN.both ⟨px, py, pw, ph⟩ ⟨x2, y2, w2, h2⟩ = ⟨m1, m2, m3 - m1, m4 - m2⟩ by unfold PN.both; dsimp only; rw [h1, h2', h3, h4]] at HTK
      have g1 : (if x2 < px then x2 else px) = m1 := by split <;> omega
      have g2 : (if y2 < py then y2 else py) = m2 := by split <;> omega
      have g3 : (if px + pw < x2 + w2 then x2 + w2 else px + pw) = m3 := by split <;> omega
      have g4 : (if py + ph < y2 + h2 then y2 + h2 else py + ph) = m4 := by split <;> omega
      have hbx := balloc (Below.refl _ wr) (.cells #[.int .i64 x2, .int .i64 y2, .int .i64 w2, .int .i64 h2] 31)
      have hxx := heap_alloc_new wr (.cells #[.int .i64 x2, .int .i64 y2, .int .i64 w2, .int .i64 h2] 31)
      clear hr
      go_upto_region 5 with fail
      obtain ⟨C, hC⟩ : ∃ C, wr.heap.size = C := ⟨_, rfl⟩
      obtain ⟨wz, hwz⟩ : ∃ wz, wr.alloc (.cells #[.int .i64 x2, .int .i64 y2, .int .i64 w2, .int .i64 h2] 31) = wz := ⟨_, rfl⟩
      rw [hwz] at hbx hxx ⊢
      have hx3 := (hbx.block (B + 1 + 1) hlt3).trans HX3.out
      have HX2Z : Hid (wz.heap[B + 1]? = some (.cells #[.int .i64 0, .int .i64 0, .int .i64 0, .int .i64 0] 31 (0, 0))) := Lib.hid ((hbx.block (B + 1) (Array.getElem?_eq_some_iff.1 HX2.out).1).trans HX2.out)
      have HBZ : Hid (Below W.heap.size W wz) := Lib.hid (bnext HBW.out hbx)
      rw [hC] at hxx
      rw [hC]
      have c0 : wz.cell? ⟨B + 1 + 1, 0, none⟩ = some (.int .i64 px) := nd_cell hx3 rfl
      have c1 : wz.cell? ⟨B + 1 + 1, 1, none⟩ = some (.int .i64 py) := nd_cell hx3 rfl
      have c2 : wz.cell? ⟨B + 1 + 1, 2, none⟩ = some (.int .i64 pw) := nd_cell hx3 rfl
      have c3 : wz.cell? ⟨B + 1 + 1, 3, none⟩ = some (.int .i64 ph) := nd_cell hx3 rfl
      have d0 : wz.cell? ⟨C, 0, none⟩ = some (.int .i64 x2) := nd_cell hxx rfl
      have d1 : wz.cell? ⟨C, 1, none⟩ = some (.int .i64 y2) := nd_cell hxx rfl
      have d2 : wz.cell? ⟨C, 2, none⟩ = some (.int .i64 w2) := nd_cell hxx rfl
      have d3 : wz.cell? ⟨C, 3, none⟩ = some (.int .i64 h2) := nd_cell hxx rfl
      have HX3Z := Lib.hid hx3
      have HXXZ := Lib.hid hxx
      clear k0 k1 k2 k3 hwz hC hbx hx3 hxx
      go_quiet (fail)
      have hdr := below_drewN (Below.refl wz.heap.size wz) nq
      obtain ⟨wy, hwy⟩ : ∃ wy, wz.drewN nq = wy := ⟨_, rfl⟩
      rw [hwy] at hdr ⊢
      have hx3 := (hdr.block (B + 1 + 1) (Array.getElem?_eq_some_iff.1 HX3Z.out).1).trans HX3Z.out
      have hxx := (hdr.block C (Array.getElem?_eq_some_iff.1 HXXZ.out).1).trans HXXZ.out
      have HX2Y : Hid (wy.heap[B + 1]? = some (.cells #[.int .i64 0, .int .i64 0, .int .i64 0, .int .i64 0] 31 (0, 0))) := Lib.hid ((hdr.block (B + 1) (Array.getElem?_eq_some_iff.1 HX2Z.out).1).trans HX2Z.out)
      have HBY : Hid (Below W.heap.size W wy) := Lib.hid (bnext HBZ.out hdr)
      have c0 : wy.cell? ⟨B + 1 + 1, 0, none⟩ = some (.int .i64 px) := nd_cell hx3 rfl
      have c1 : wy.cell? ⟨B + 1 + 1, 1, none⟩ = some (.int .i64 py) := nd_cell hx3 rfl
      have c2 : wy.cell? ⟨B + 1 + 1, 2, none⟩ = some (.int .i64 pw) := nd_cell hx3 rfl
      have c3 : wy.cell? ⟨B + 1 + 1, 3, none⟩ = some (.int .i64 ph) := nd_cell hx3 rfl
      have d0 : wy.cell? ⟨C, 0, none⟩ = some (.int .i64 x2) := nd_cell hxx rfl
      have d1 : wy.cell? ⟨C, 1, none⟩ = some (.int .i64 y2) := nd_cell hxx rfl
      have d2 : wy.cell? ⟨C, 2, none⟩ = some (.int .i64 w2) := nd_cell hxx rfl
      have d3 : wy.cell? ⟨C, 3, none⟩ = some (.int .i64 h2) := nd_cell hxx rfl
      have f0 := nd_froz hx3 0
      have f1 := nd_froz hx3 1
      have f2 := nd_froz hx3 2
      have f3 := nd_froz hx3 3
      obtain ⟨w5, hw5, hx5, hf5⟩ := set4 hx3 (.int .i64 m1) (.int .i64 m2) (.int .i64 (m3 - m1)) (.int .i64 (m4 - m2))
      have HX5 : Hid (w5.heap[B + 1 + 1]? = some (.cells (rcL ((L.take (k + 1)).foldl PN.both ⟨ax, ay, aw, ah⟩)).toArray 31 (0, 0))) := Lib.hid (by rw [HTK.out]; exact hx5)
      have HX25 : Hid (w5.heap[B + 1]? = some (.cells #[.int .i64 0, .int .i64 0, .int .i64 0, .int .i64 0] 31 (0, 0))) := Lib.hid (hf5.nd HX2Y.out (by omega))
      have HB5 : Hid (Below W.heap.size W w5) := Lib.hid (hf5.below W HBY.out (fun b hb => by rw [hb, HB.out]; omega))
      have HW5 := Lib.hid hw5
      clear hx3 hxx hdr hw5 hx5 hf5 hwy
      go_upto_region 7 with fail
      rw [HW5.out]
      go_wp2
      go_roundw
      case rel => exact ⟨k + 1, by go_num, hkn, HX5, HX25, HB5⟩
      case measure => simp [intOf]; omega
    · obtain rfl : k = n := by omega
      have hkz : ¬ (k : Int) < (k : Int) := by omega
      have HTK : Hid (L.foldl PN.both ⟨ax, ay, aw, ah⟩ = ⟨px, py, pw, ph⟩) := Lib.hid (by
        have h1 := HP.out
        rw [List.take_of_length_le (by rw [HN.out]; exact Nat.le_refl _)] at h1
        exact h1)
      have c0 : wr.cell? ⟨B + 1 + 1, 0, none⟩ = some (.int .i64 px) := nd_cell HX3.out rfl
      have c1 : wr.cell? ⟨B + 1 + 1, 1, none⟩ = some (.int .i64 py) := nd_cell HX3.out rfl
      have c2 : wr.cell? ⟨B + 1 + 1, 2, none⟩ = some (.int .i64 pw) := nd_cell HX3.out rfl
      have c3 : wr.cell? ⟨B + 1 + 1, 3, none⟩ = some (.int .i64 ph) := nd_cell HX3.out rfl
      have f0 := nd_froz HX2.out 0
      have f1 := nd_froz HX2.out 1
      have f2 := nd_froz HX2.out 2
      have f3 := nd_froz HX2.out 3
      have e0 : wr.cell? ⟨B + 1, 0, none⟩ = some (.int .i64 0) := nd_cell HX2.out rfl
      have e1 : wr.cell? ⟨B + 1, 1, none⟩ = some (.int .i64 0) := nd_cell HX2.out rfl
      have e2 : wr.cell? ⟨B + 1, 2, none⟩ = some (.int .i64 0) := nd_cell HX2.out rfl
      have e3 : wr.cell? ⟨B + 1, 3, none⟩ = some (.int .i64 0) := nd_cell HX2.out rfl
      obtain ⟨w5, hw5, hx5, hf5⟩ := set4 HX2.out (.int .i64 px) (.int .i64 py) (.int .i64 pw) (.int .i64 ph)
      have HX5 := Lib.hid hx5
      have HB5 : Hid (Below W.heap.size W w5) := Lib.hid (hf5.below W HBW.out (fun b hb => by rw [hb, HB.out]; omega))
      have HW5 := Lib.hid hw5
      clear hw5 hx5 hf5 hkn
      go_wp2
      try rw [HW5.out]
      refine bodyPost_ret (v := rcV ⟨px, py, pw, ph⟩) (results_cell_row Tryd.results59 _ _ (B + 1) 31 _ (0, 0) _ rfl HX5.out Tryd.underlying31 rfl (by kernel_rfl)) rfl ?_
      exact ⟨by rw [HTK.out], HB5.out⟩
end Go.Proofs.YtmiennkldkcnfaaDoor
