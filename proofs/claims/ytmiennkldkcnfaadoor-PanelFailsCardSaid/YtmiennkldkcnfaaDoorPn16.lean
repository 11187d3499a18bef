/- The reference's Plan. No conditions. -/
import Derived.Test.YtmiennkldkcnfaaDoorPn15
namespace Go.Proofs.YtmiennkldkcnfaaDoor
set_option maxRecDepth 100000
set_option linter.unusedVariables false
open Go.RowKit Go.Deep
theorem rplan_none (W : World) (va vb : Value) (A B : List Nat) (w most : Int) (ha : UA W va A) (hb : UA W vb B) (hA : A.length ≤ 1000000) (hB : B.length ≤ 1000000) (hn : ¬ planOk A B w most) :
    Calls Tryd.prog 23 #[va, vb, .int .i64 w, .int .i64 most] W fun e w' => e = .returned (.slice none 0 0) ∧ w' = W := by
  obtain ⟨aa, ac, rfl⟩ := ha.shape
  obtain ⟨ba, bc, rfl⟩ := hb.shape
  have HN := Lib.hid hn
  unfold planOk at HN
  obtain ⟨n, hn1⟩ : ∃ n, A.length = n := ⟨_, rfl⟩
  obtain ⟨m, hm1⟩ : ∃ n, B.length = n := ⟨_, rfl⟩
  rw [hn1] at HN hA ⊢
  rw [hm1] at HN hB ⊢
  clear ha hb hn hn1 hm1
  by_cases h1 : w < 1
  · go_enter Tryd.func23, Tryd.ntmps23
    go_wp2
    go_ret
    exact ⟨rfl, rfl⟩
  · by_cases h2 : w > 64
    · go_enter Tryd.func23, Tryd.ntmps23
      go_wp2
      go_ret
      exact ⟨rfl, rfl⟩
    · by_cases h3 : n = m
      · subst h3
        have hq : ((n : Int) != (n : Int)) = false := by simp
        by_cases h4 : (n : Int) > 64
        · go_enter Tryd.func23, Tryd.ntmps23
          go_wp2
          go_ret
          exact ⟨rfl, rfl⟩
        · have h5 : most < 1 := by have := HN.out; omega
          go_enter Tryd.func23, Tryd.ntmps23
          go_wp2
          go_ret
          exact ⟨rfl, rfl⟩
      · have hq : ((n : Int) != (m : Int)) = true := by simp; omega
        go_enter Tryd.func23, Tryd.ntmps23
        go_wp2
        go_ret
        exact ⟨rfl, rfl⟩
/-- A rectangle stored into a row. -/
theorem rc_set {W : World} {B e n c g : Nat} {A : List Rc} (h : W.ownsRow B e 4 (.slice (some ⟨g, 0, none⟩) n c) n (rcs A)) (i : Nat) (hi : i < A.length) (p : Rc) :
    ∃ V, (((W.setCell ⟨g, i * 4, none⟩ (.int .i64 p.x)).setCell ⟨g, i * 4 + 1, none⟩ (.int .i64 p.y)).setCell ⟨g, i * 4 + 2, none⟩ (.int .i64 p.w)).setCell ⟨g, i * 4 + 3, none⟩ (.int .i64 p.h) = V ∧
      V.ownsRow B e 4 (.slice (some ⟨g, 0, none⟩) n c) n (rcs (A.set i p)) ∧ FrS (fun b => b = g) W V := by
  refine ⟨_, rfl, ?_, ?_⟩
  · have h0 := (h.stored (i * 4) (.int .i64 p.x)).1
    have h1 := (h0.stored (i * 4 + 1) (.int .i64 p.y)).1
    have h2 := (h1.stored (i * 4 + 2) (.int .i64 p.w)).1
    have h3 := (h2.stored (i * 4 + 3) (.int .i64 p.h)).1
    have hset : (((((rcs A).set (i * 4) (.int .i64 p.x)).set (i * 4 + 1) (.int .i64 p.y)).set (i * 4 + 2) (.int .i64 p.w)).set (i * 4 + 3) (.int .i64 p.h)) = rcs (A.set i p) := by
      clear h h0 h1 h2 h3
      induction A generalizing i with
      | nil => simp at hi
      | cons x A ih =>
        cases i with
        | zero => simp [rcs, rcL]
        | succ i =>
          have hi' : i < A.length := by simpa using hi
          have := ih i hi'
          have e : (i + 1) * 4 = i * 4 + 4 := by omega
          simp only [rcs, List.flatMap_cons, rcL, List.cons_append, List.nil_append, e, List.set_cons_succ] at this ⊢
          rw [this]
    rw [hset] at h3
    exact h3
  · have s := fun (V : World) (i : Nat) (u : Value) => FrS.set (S := fun b => b = g) V (b := g) (i := i) rfl u
    exact (((s _ _ _).trans (s _ _ _)).trans (s _ _ _)).trans (s _ _ _)
theorem rc_own {W : World} {B e n : Nat} {v : Value} {A : List Rc} (h : W.ownsRow B e 4 v n (rcs A)) (hn : 0 < n) : ∃ g c, v = .slice (some ⟨g, 0, none⟩) n c ∧ B ≤ g ∧ g < W.heap.size ∧ n ≤ c ∧ c ≤ maxLen := by
  rcases h.2 with ⟨h1, h2⟩ | ⟨g, cap, cur, h1, hb, h2, h3, h4, _⟩
  · omega
  · exact ⟨g, cap, h1, hb, (Array.getElem?_eq_some_iff.1 h2).1, h3, h4⟩
theorem rc_cells {W : World} {B e n c g : Nat} {A : List Rc} (h : W.ownsRow B e 4 (.slice (some ⟨g, 0, none⟩) n c) n (rcs A)) {i : Nat} {r : Rc} (hk : A[i]? = some r) :
    W.cell? ⟨g, i * 4, none⟩ = some (.int .i64 r.x) ∧ W.cell? ⟨g, i * 4 + 1, none⟩ = some (.int .i64 r.y) ∧ W.cell? ⟨g, i * 4 + 2, none⟩ = some (.int .i64 r.w) ∧ W.cell? ⟨g, i * 4 + 3, none⟩ = some (.int .i64 r.h) := by
  obtain ⟨g1, o1, e, -, k0, k1, k2, k3⟩ := rc_at (own_srcN h) hk
  injection e with e
  injection e with e1 e2
  subst e1 e2
  simp only [Nat.zero_add] at k0 k1 k2 k3
  exact ⟨k0, k1, k2, k3⟩
theorem last_set {L : List Rc} (x : Rc) (h : 1 ≤ L.length) : L.set (L.length - 1) x = L.dropLast ++ [x] := by
  have e := List.dropLast_concat_getLast (l := L) (by intro e; rw [e] at h; simp at h)
  obtain ⟨A, hA⟩ : ∃ A, L.dropLast = A := ⟨_, rfl⟩
  rw [hA] at e
  rw [hA, ← e]
  simp
theorem lastD_get {L : List Rc} (h : 1 ≤ L.length) : L[L.length - 1]? = some (L.getLastD zr) := by
  rw [List.getLastD_eq_getLast?, List.getLast?_eq_getElem?, List.getElem?_eq_getElem (by omega)]
  rfl
theorem own_take {W : World} {B e k n m c g : Nat} {U : List Value} (h : W.ownsRow B e k (.slice (some ⟨g, 0, none⟩) n c) n U) (hm : m ≤ n) : W.ownsRow B e k (.slice (some ⟨g, 0, none⟩) m c) m (U.take (m * k)) := by
  have hmk : m * k ≤ n * k := Nat.mul_le_mul_right k hm
  refine ⟨by rw [List.length_take, h.1, Nat.min_eq_left hmk], ?_⟩
  rcases h.2 with ⟨h1, -⟩ | ⟨g', cap, cur, h1, h2, h3, h4, h5, h6, h7⟩
  · cases h1
  · injection h1 with h1 _ h1'
    injection h1 with h1
    injection h1 with h1
    subst h1 h1'
    exact .inr ⟨g, c, cur, rfl, h2, h3, Nat.le_trans hm h4, h5, h6, by rw [← h7, List.take_take, Nat.min_eq_left hmk]⟩
/-- The best of the first k neighbours, and what it loses. -/
def bk (L : List Rc) : Nat → Nat
  | 0 => 0
  | k + 1 => PN.bst L k
def lk (L : List Rc) : Nat → Int
  | 0 => 1048576
  | k + 1 => PN.loss L (PN.bst L k)
theorem bk_step (L : List Rc) (h0 : PN.loss L 0 < 1048576) (k : Nat) : (PN.loss L k < lk L k → bk L (k + 1) = k ∧ lk L (k + 1) = PN.loss L k) ∧ (¬ PN.loss L k < lk L k → bk L (k + 1) = bk L k ∧ lk L (k + 1) = lk L k) := by
  cases k with
  | zero => exact ⟨fun _ => ⟨rfl, rfl⟩, fun h => absurd h0 h⟩
  | succ j =>
    have e : PN.bst L (j + 1) = if PN.loss L (j + 1) < PN.loss L (PN.bst L j) then j + 1 else PN.bst L j := rfl
    refine ⟨fun h => ?_, fun h => ?_⟩
    · have h' : PN.loss L (j + 1) < PN.loss L (PN.bst L j) := h
      rw [if_pos h'] at e
      exact ⟨e, by show PN.loss L (PN.bst L (j + 1)) = _; rw [e]⟩
    · have h' : ¬ PN.loss L (j + 1) < PN.loss L (PN.bst L j) := h
      rw [if_neg h'] at e
      exact ⟨e, by show PN.loss L (PN.bst L (j + 1)) = _; rw [e]; rfl⟩
theorem jn_set (L : List Rc) (b : Nat) (h : b + 1 < L.length) (x : Rc) (hx : x = PN.both (PN.at' L b) (PN.at' L (b + 1))) : PN.jn L b = (L.set b x).take (b + 1) ++ L.drop (b + 2) := by
  unfold PN.jn
  rw [List.take_add_one, List.getElem?_set, if_pos rfl, if_pos (by omega), List.take_set_of_le (Nat.le_refl b), ← hx]
  simp
set_option maxHeartbeats 16000000 in
theorem rplan_good (W : World) (va vb : Value) (A B : List Nat) (pw most : Nat) (ha : UA W va A) (hb : UA W vb B) (hw1 : 1 ≤ pw) (hw2 : pw ≤ 64) (hAB : A.length = B.length) (hA : A.length ≤ 64) (hm1 : 1 ≤ most) (hm2 : most ≤ 9223372036854775807) (hal : ∀ x ∈ A, x < 18446744073709551616) (hbl : ∀ x ∈ B, x < 18446744073709551616) :
    Calls Tryd.prog 23 #[va, vb, .int .i64 (pw : Int), .int .i64 (most : Int)] W fun e W' => ∃ v', e = .returned v' ∧ W'.ownsRow W.heap.size 31 4 v' (PN.plan A B pw most).length (rcs (PN.plan A B pw most)) ∧ Below W.heap.size W W' := by
  obtain ⟨i0, hi0, hz0, hz1, hz2⟩ := info_parts info_rect
  obtain ⟨aa, ac, rfl⟩ := ha.shape
  obtain ⟨ba, bc, rfl⟩ := hb.shape
  obtain ⟨n, hn⟩ : ∃ n, A.length = n := ⟨_, rfl⟩
  have hbn : B.length = n := by omega
  rw [hn] at ha hA ⊢
  rw [hbn] at hb ⊢
  have HA := Lib.hid hn
  have HB := Lib.hid hbn
  have HAU : Hid (∀ U, Below W.heap.size W U → UA U (.slice aa n ac) A) := Lib.hid fun U hU => ha.keep hU
  have HBU : Hid (∀ U, Below W.heap.size W U → UA U (.slice ba n bc) B) := Lib.hid fun U hU => hb.keep hU
  have HAL := Lib.hid hal
  have HBL := Lib.hid hbl
  obtain ⟨D, hD⟩ : ∃ D, PN.df A B pw = D := ⟨_, rfl⟩
  have HDN : Hid (D.length = n) := Lib.hid (by rw [← hD, PN.df_len pw hAB, hn])
  have HDA : Hid (∀ k a b, A[k]? = some a → B[k]? = some b → D.getD k 0 = (a ^^^ b) &&& (2 ^ pw - 1)) := Lib.hid fun k a b h1 h2 => by
    rw [List.getD_eq_getElem?_getD, ← hD, PN.df_at pw h1 h2]
    rfl
  have HDL : Hid (∀ k, D.getD k 0 < 2 ^ 64) := Lib.hid fun k => by
    rw [List.getD_eq_getElem?_getD]
    cases h : D[k]? with
    | none => simp
    | some d =>
      have h2 := List.mem_of_getElem? h
      rw [← hD] at h2
      exact Nat.lt_of_lt_of_le (PN.df_lt h2) (Nat.pow_le_pow_right (n := 2) (by decide) hw2)
  have HPL : Hid (PN.plan A B pw most = PN.red most (PN.pl D n).1) := Lib.hid (by unfold PN.plan; rw [hD, hn])
  obtain ⟨PL, hPL⟩ : ∃ L, PN.plan A B pw most = L := ⟨_, rfl⟩
  rw [hPL] at HPL ⊢
  have hg1 : ¬ (pw : Int) < 1 := by omega
  have hg2 : ¬ (pw : Int) > 64 := by omega
  have hg3 : ((n : Int) != (n : Int)) = false := by simp
  have hg4 : ¬ (n : Int) > 64 := by omega
  have hg5 : ¬ (most : Int) < 1 := by omega
  clear ha hb hal hbl hD hPL hAB hn hbn
  go_enter Tryd.func23, Tryd.ntmps23
  go_upto_region 6 with fail
  go_loopw [9, 10, 11] (fun v9 v10 v11 wr => ∃ (k m : Nat) (L : List Rc) (j : Bool), v11 = .int .i64 (k : Int) ∧ v10 = .bool j ∧ k ≤ n ∧ m ≤ k ∧ Hid (L.length = m) ∧ Hid (PN.pl D k = (L, j)) ∧ Hid (j = true → 1 ≤ m) ∧ Hid (wr.ownsRow W.heap.size 31 4 v9 m (rcs L)) ∧ Hid (∀ r ∈ L, rb r) ∧ Hid (Below W.heap.size W wr)) (fun _ _ v _ => n - (intOf v).toNat)
  case atStart => exact ⟨0, 0, [], false, rfl, rfl, by omega, by omega, Lib.hid rfl, Lib.hid rfl, Lib.hid (fun h => nomatch h), Lib.hid (World.ownsRow_nil _ _ _ _), Lib.hid (fun r h => nomatch h), Lib.hid (Below.refl _ _)⟩
  case round =>
    obtain ⟨k, m, L, j, rfl, rfl, hk, hmk, HLM, HPK, HJ1, HOW, HRB, HBW⟩ := hrel
    obtain ⟨va, vc, rfl⟩ := own_shape HOW.out
    obtain ⟨wo, hwo⟩ : ∃ wo, wo = wr := ⟨_, rfl⟩
    subst hwo
    by_cases hkn : k < n
    · have hkz : (k : Int) < (n : Int) := by omega
      have hk0 : (0 : Int) ≤ (k : Int) := by omega
      obtain ⟨x, hx⟩ : ∃ x, A[k]? = some x := ⟨_, List.getElem?_eq_getElem (by rw [HA.out]; exact hkn)⟩
      obtain ⟨y, hy⟩ : ∃ y, B[k]? = some y := ⟨_, List.getElem?_eq_getElem (by rw [HB.out]; exact hkn)⟩
      have hxl := HAL.out x (List.mem_of_getElem? hx)
      have hyl := HBL.out y (List.mem_of_getElem? hy)
      have hdk := HDA.out k x y hx hy
      have hdl := HDL.out k
      have hdr := Below.drew (Below.refl wo.heap.size wo)
      obtain ⟨W0, hW0⟩ : ∃ W0, wo.drew = W0 := ⟨_, rfl⟩
      rw [hW0] at hdr
      obtain ⟨g1, o1, rfl, hg1', hc1⟩ := (HAU.out _ (bnext HBW.out hdr)).cell hx
      obtain ⟨g2, o2, rfl, hg2', hc2⟩ := (HBU.out _ (bnext HBW.out hdr)).cell hy
      have HKS : Hid (∀ U, Below wo.heap.size wo U → U.cell? ⟨g1, o1 + k, none⟩ = some (U6 x) ∧ U.cell? ⟨g2, o2 + k, none⟩ = some (U6 y)) := Lib.hid fun U hU => by
        obtain ⟨g3, o3, e3, -, q3⟩ := (HAU.out _ (bnext HBW.out hU)).cell hx
        obtain ⟨g4, o4, e4, -, q4⟩ := (HBU.out _ (bnext HBW.out hU)).cell hy
        injection e3 with e3
        injection e3 with e3 e3'
        subst e3 e3'
        injection e4 with e4
        injection e4 with e4 e4'
        subst e4 e4'
        exact ⟨q3, q4⟩
      have HRW := Lib.hid fun U => rrow_any U x y pw k hxl hyl hw2 (by omega)
      rw [← hdk] at HRW
      obtain ⟨d, hd⟩ : ∃ d, D.getD k 0 = d := ⟨_, rfl⟩
      rw [hd] at HRW hdl
      have HDK := Lib.hid hd
      have HDL1 := Lib.hid hdl
      obtain ⟨⟨rx, ry, rw', rh⟩, hR⟩ : ∃ R, PN.rowQ k d = R := ⟨_, rfl⟩
      rw [hR] at HRW
      have HR := Lib.hid hR
      have HXN : Hid (∀ X, wo.heap.size ≤ X → (Value.slice va m vc).ownBlock ≠ some X) := Lib.hid fun X hX e => by
        have := (HOW.out.lt X e).2
        omega
      have HW0 := Lib.hid hW0
      have HD0 := Lib.hid hdr
      clear hx hy hxl hyl hdk hdl hdr hW0 hd hR hg1' hg2' hc1 hc2
      go_upto_region 8 with fail
      refine wp_region_held_drew (S := (fun w' => w'.cell? ⟨g1, o1 + k, none⟩ = some (U6 x) ∧ w'.cell? ⟨g2, o2 + k, none⟩ = some (U6 y))) (by kernel_rfl) ?_ (fun hHeld => ?_)
      · (rw [HW0.out]; exact HKS.out _ HD0.out)
      rw [HW0.out] at hHeld ⊢
      refine wpAnyH_take (i := 0) (oi := { dst := some 45, op := Op.move (Operand.tmp 0), type := 32, pos := "ref.go:148", after := #[], guard := none }) (v := ?_) rfl (by kernel_rfl) (by kernel_rfl) (by kernel_rfl) (fun _ _ _ h => h) (Or.inl ⟨by rfl, ?_⟩) (by assumption) ?_
      rotate_left
      · ((intro w hSw; (try dsimp only at hSw); go_simp; (try rw [if_neg (by omega)])); try with_reducible rfl)
      (try simp only [Act.put, List.setIfInBounds_toArray, List.set_cons_zero, List.set_cons_succ])
      refine wpAnyH_take (i := 1) (oi := { dst := some 46, op := Op.move (Operand.tmp 11), type := 3, pos := "ref.go:148", after := #[], guard := none }) (v := ?_) rfl (by kernel_rfl) (by kernel_rfl) (by kernel_rfl) (fun _ _ _ h => h) (Or.inl ⟨by rfl, ?_⟩) (by assumption) ?_
      rotate_left
      · ((intro w hSw; (try dsimp only at hSw); go_simp; (try rw [if_neg (by omega)])); try with_reducible rfl)
      (try simp only [Act.put, List.setIfInBounds_toArray, List.set_cons_zero, List.set_cons_succ])
      refine wpAnyH_take (i := 2) (oi := { dst := some 47, op := Op.indexAddr 32 (Operand.tmp 45) (Operand.tmp 46), type := 0, pos := "ref.go:148", after := #[{ on := 0, ground := Ground.data }, { on := 1, ground := Ground.data }], guard := none }) (v := ?_) rfl (by kernel_rfl) (by kernel_rfl) (by kernel_rfl) (fun _ _ _ h => h) (Or.inl ⟨by rfl, ?_⟩) (by assumption) ?_
      rotate_left
      · ((intro w hSw; (try dsimp only at hSw); go_simp; (try rw [if_neg (by omega)])); try with_reducible rfl)
      (try simp only [Act.put, List.setIfInBounds_toArray, List.set_cons_zero, List.set_cons_succ])
      refine wpAnyH_take (i := 3) (oi := { dst := some 48, op := Op.load 63 (Operand.tmp 47), type := 63, pos := "ref.go:148", after := #[{ on := 2, ground := Ground.data }], guard := none }) (v := ?_) rfl (by kernel_rfl) (by kernel_rfl) (by kernel_rfl) (fun _ _ _ h => h) (Or.inl ⟨by rfl, ?_⟩) (by assumption) ?_
      rotate_left
      · ((intro w hSw; (try dsimp only at hSw); go_simp; (try rw [if_neg (by omega)])); try with_reducible rfl)
      (try simp only [Act.put, List.setIfInBounds_toArray, List.set_cons_zero, List.set_cons_succ])
      refine wpAnyH_take (i := 4) (oi := { dst := some 49, op := Op.move (Operand.tmp 1), type := 32, pos := "ref.go:148", after := #[], guard := none }) (v := ?_) rfl (by kernel_rfl) (by kernel_rfl) (by kernel_rfl) (fun _ _ _ h => h) (Or.inl ⟨by rfl, ?_⟩) (by assumption) ?_
      rotate_left
      · ((intro w hSw; (try dsimp only at hSw); go_simp; (try rw [if_neg (by omega)])); try with_reducible rfl)
      (try simp only [Act.put, List.setIfInBounds_toArray, List.set_cons_zero, List.set_cons_succ])
      refine wpAnyH_take (i := 5) (oi := { dst := some 50, op := Op.move (Operand.tmp 11), type := 3, pos := "ref.go:148", after := #[], guard := none }) (v := ?_) rfl (by kernel_rfl) (by kernel_rfl) (by kernel_rfl) (fun _ _ _ h => h) (Or.inl ⟨by rfl, ?_⟩) (by assumption) ?_
      rotate_left
      · ((intro w hSw; (try dsimp only at hSw); go_simp; (try rw [if_neg (by omega)])); try with_reducible rfl)
      (try simp only [Act.put, List.setIfInBounds_toArray, List.set_cons_zero, List.set_cons_succ])
      refine wpAnyH_take (i := 6) (oi := { dst := some 51, op := Op.indexAddr 32 (Operand.tmp 49) (Operand.tmp 50), type := 0, pos := "ref.go:148", after := #[{ on := 4, ground := Ground.data }, { on := 5, ground := Ground.data }], guard := none }) (v := ?_) rfl (by kernel_rfl) (by kernel_rfl) (by kernel_rfl) (fun _ _ _ h => h) (Or.inl ⟨by rfl, ?_⟩) (by assumption) ?_
      rotate_left
      · ((intro w hSw; (try dsimp only at hSw); go_simp; (try rw [if_neg (by omega)])); try with_reducible rfl)
      (try simp only [Act.put, List.setIfInBounds_toArray, List.set_cons_zero, List.set_cons_succ])
      refine wpAnyH_take (i := 7) (oi := { dst := some 52, op := Op.load 63 (Operand.tmp 51), type := 63, pos := "ref.go:148", after := #[{ on := 6, ground := Ground.data }], guard := none }) (v := ?_) rfl (by kernel_rfl) (by kernel_rfl) (by kernel_rfl) (fun _ _ _ h => h) (Or.inl ⟨by rfl, ?_⟩) (by assumption) ?_
      rotate_left
      · ((intro w hSw; (try dsimp only at hSw); go_simp; (try rw [if_neg (by omega)])); try with_reducible rfl)
      (try simp only [Act.put, List.setIfInBounds_toArray, List.set_cons_zero, List.set_cons_succ])
      refine wpAnyH_take (i := 8) (oi := { dst := some 53, op := Op.move (Operand.tmp 2), type := 3, pos := "ref.go:148", after := #[], guard := none }) (v := ?_) rfl (by kernel_rfl) (by kernel_rfl) (by kernel_rfl) (fun _ _ _ h => h) (Or.inl ⟨by rfl, ?_⟩) (by assumption) ?_
      rotate_left
      · ((intro w hSw; (try dsimp only at hSw); go_simp; (try rw [if_neg (by omega)])); try with_reducible rfl)
      (try simp only [Act.put, List.setIfInBounds_toArray, List.set_cons_zero, List.set_cons_succ])
      refine wpAnyH_take (i := 9) (oi := { dst := some 54, op := Op.move (Operand.tmp 11), type := 3, pos := "ref.go:148", after := #[], guard := none }) (v := ?_) rfl (by kernel_rfl) (by kernel_rfl) (by kernel_rfl) (fun _ _ _ h => h) (Or.inl ⟨by rfl, ?_⟩) (by assumption) ?_
      rotate_left
      · ((intro w hSw; (try dsimp only at hSw); go_simp; (try rw [if_neg (by omega)])); try with_reducible rfl)
      (try simp only [Act.put, List.setIfInBounds_toArray, List.set_cons_zero, List.set_cons_succ])
      refine wpAnyH_ready (rs := [10, 11]) (by kernel_rfl) (by simp) ?_
      refine AllReadyH.cons (o := { dst := some 55, op := Op.call { callee := Callee.value (Operand.func 44), args := #[Operand.tmp 48, Operand.tmp 52, Operand.tmp 53, Operand.tmp 54], argTypes := #[63, 63, 3, 3] }, type := 31, pos := "ref.go:148", after := #[{ on := 3, ground := Ground.data }, { on := 7, ground := Ground.data }, { on := 8, ground := Ground.data }, { on := 9, ground := Ground.data }], guard := none }) rfl (fun K hK => ?_) ?_
      · (go_simp; go_at_call 44; refine (HRW.out _).mono ?_; rintro u wz1 ⟨rfl, dz⟩; have bz1 := bnext HD0.out dz; dsimp only)
        refine hK.out _ _ ?_ (fun hHeld => ?_)
        · exact HKS.out _ bz1
        clear hK K
        (try simp only [Act.put, List.setIfInBounds_toArray, List.set_cons_zero, List.set_cons_succ])
        refine wpAnyH_ready (rs := [11]) (by kernel_rfl) (by simp) ?_
        refine AllReadyH.cons (o := { dst := some 12, op := Op.alloc 31, type := 0, pos := "ref.go:148", after := #[], guard := none }) rfl (fun K hK => ?_) ?_
        · (go_simp; have hxn := heap_alloc_new wz1 (.cells #[.int .i64 0, .int .i64 0, .int .i64 0, .int .i64 0] 31); have bzA := balloc bz1 (.cells #[.int .i64 0, .int .i64 0, .int .i64 0, .int .i64 0] 31); obtain ⟨X, hX⟩ : ∃ X, wz1.heap.size = X := ⟨_, rfl⟩; obtain ⟨wa, hwa⟩ : ∃ wa, wz1.alloc (.cells #[.int .i64 0, .int .i64 0, .int .i64 0, .int .i64 0] 31) = wa := ⟨_, rfl⟩; have hXo : wo.heap.size ≤ X := (by rw [← hX]; exact (bz1).size); rw [hX] at hxn; rw [hwa] at hxn bzA; (try rw [hX]); (try rw [hwa]); clear hX hwa)
          refine hK.out _ _ ?_ (fun hHeld => ?_)
          · exact HKS.out _ bzA
          clear hK K
          (try simp only [Act.put, List.setIfInBounds_toArray, List.set_cons_zero, List.set_cons_succ])
          refine wpAnyH_ready (rs := [12]) (by kernel_rfl) (by simp) ?_
          refine AllReadyH.cons (o := { dst := none, op := Op.store 31 (Operand.tmp 12) (Operand.tmp 55), type := 0, pos := "ref.go:148", after := #[{ on := 11, ground := Ground.data }, { on := 10, ground := Ground.data }, { on := 10, ground := Ground.chain }, { on := 0, ground := Ground.phase }, { on := 1, ground := Ground.phase }, { on := 2, ground := Ground.phase }, { on := 3, ground := Ground.phase }, { on := 4, ground := Ground.phase }, { on := 5, ground := Ground.phase }, { on := 6, ground := Ground.phase }, { on := 7, ground := Ground.phase }, { on := 8, ground := Ground.phase }, { on := 9, ground := Ground.phase }, { on := 10, ground := Ground.phase }, { on := 11, ground := Ground.phase }], guard := none }) rfl (fun K hK => ?_) ?_
          · (have y0 : wa.cell? ⟨X, 0, none⟩ = some (.int .i64 0) := nd_cell hxn rfl; have y1 : wa.cell? ⟨X, 1, none⟩ = some (.int .i64 0) := nd_cell hxn rfl; have y2 : wa.cell? ⟨X, 2, none⟩ = some (.int .i64 0) := nd_cell hxn rfl; have y3 : wa.cell? ⟨X, 3, none⟩ = some (.int .i64 0) := nd_cell hxn rfl; have z0 := nd_froz hxn 0; have z1 := nd_froz hxn 1; have z2 := nd_froz hxn 2; have z3 := nd_froz hxn 3; obtain ⟨wx, hwx, hxx, hfx⟩ := set4 hxn (.int .i64 rx) (.int .i64 ry) (.int .i64 rw') (.int .i64 rh); have bzx : Below wo.heap.size wo wx := hfx.below wo bzA (fun b hb => (by rw [hb]; exact hXo)); go_simp; (try rw [hwx]); clear y0 y1 y2 y3 z0 z1 z2 z3 hfx hwx)
            refine hK.out _ _ ?_ (fun hHeld => ?_)
            · exact HKS.out _ bzx
            clear hK K
            (try simp only [Act.put, List.setIfInBounds_toArray, List.set_cons_zero, List.set_cons_succ])
            refine wpAnyH_done (by kernel_rfl) ?_ _
            clear hHeld
            try clear hxn
            have HXX := Lib.hid hxx
            have HBX := Lib.hid bzx
            have HOX := Lib.hid (own_below HOW.out bzx)
            have HBWX := Lib.hid (bnext HBW.out bzx)
            have c3 : wx.cell? ⟨X, 3, none⟩ = some (.int .i64 rh) := nd_cell hxx rfl
            clear hxx bzx
            by_cases hd0 : d = 0
            · have hrh : rh = 0 := by have := HR.out; unfold PN.rowQ at this; rw [if_pos hd0] at this; injection this with _ _ _ h; exact h.symm
              subst hrh
              have HPK2 : Hid (PN.pl D (k + 1) = (L, false)) := Lib.hid (by rw [PN.pl_zero D k (by rw [HDK.out, hd0]), HPK.out])
              clear hd0
              go_wp2
              go_roundw
              case rel => exact ⟨k + 1, m, L, false, by go_num, rfl, hkn, by omega, HLM, HPK2, Lib.hid (fun h => nomatch h), HOX, HRB, HBWX⟩
              case measure => simp [intOf]; omega
            · have hRR : PN.rowR k d = ⟨rx, ry, rw', rh⟩ := by have := HR.out; unfold PN.rowQ at this; rw [if_neg hd0] at this; exact this
              have hrh : rh = 1 := by unfold PN.rowR at hRR; injection hRR with _ _ _ h; exact h.symm
              subst hrh
              have HRRB : Hid (rb ⟨rx, ry, rw', 1⟩) := Lib.hid (by rw [← hRR]; exact PN.row_rb (by omega) hd0 HDL1.out)
              have c0 : wx.cell? ⟨X, 0, none⟩ = some (.int .i64 rx) := nd_cell HXX.out rfl
              have c1 : wx.cell? ⟨X, 1, none⟩ = some (.int .i64 ry) := nd_cell HXX.out rfl
              have c2 : wx.cell? ⟨X, 2, none⟩ = some (.int .i64 rw') := nd_cell HXX.out rfl
              cases j with
              | false =>
                have HPK2 : Hid (PN.pl D (k + 1) = (L ++ [⟨rx, ry, rw', 1⟩], true)) := Lib.hid (by
                  show PN.stp (PN.pl D k) k (D.getD k 0) = _
                  rw [HPK.out, HDK.out]
                  unfold PN.stp
                  rw [if_neg hd0, if_neg Bool.false_ne_true, hRR])
                have hbx := balloc (Below.refl _ wx) (.cells #[.int .i64 rx, .int .i64 ry, .int .i64 rw', .int .i64 1] 31)
                have hbs := HBWX.out.size
                clear hd0 hRR
                go_upto_region 13 with (at_builtin; refine wpList_appN _ rfl _ _ 46 rfl W.heap.size 31 i0 _ 4 32 Tryd.underlying46 hi0 hz0 hz1 hz2 rfl (by decide) (.slice va m vc) m (rcs L) rfl (own_below HOX.out hbx) _ 1 [.int .i64 rx, .int .i64 ry, .int .i64 rw', .int .i64 1] rfl (srcN_new wx [.int .i64 rx, .int .i64 ry, .int .i64 rw', .int .i64 1] 31 4 1 1 rfl) (by simp [Value.oneCell']) (by unfold maxLen; omega) (by omega) (by have h1 := hbx.size; omega) ?_; intro v' w7 hown7 hgrow hat)
                have hXl := (Array.getElem?_eq_some_iff.1 HXX.out).1
                have hX7 := (hgrow.block X (Nat.lt_of_lt_of_le hXl hbx.size) (fun e => HXN.out X hXo e.symm)).trans ((hbx.block X hXl).trans HXX.out)
                have c3 : w7.cell? ⟨X, 3, none⟩ = some (.int .i64 1) := nd_cell hX7 rfl
                have HB7 : Hid (Below W.heap.size W w7) := Lib.hid ((bnext HBWX.out hbx).grown hgrow (bnext HBWX.out hbx).size (fun q e => (HOX.out.lt q e).1))
                have HO7 : Hid (w7.ownsRow W.heap.size 31 4 v' (m + 1) (rcs (L ++ [⟨rx, ry, rw', 1⟩]))) := Lib.hid (by rw [rcs_app]; exact hown7)
                have HRB7 : Hid (∀ r ∈ L ++ [⟨rx, ry, rw', 1⟩], rb r) := Lib.hid fun r hr => by
                  rcases List.mem_append.1 hr with hr | hr
                  · exact HRB.out r hr
                  · rw [List.mem_singleton.1 hr]
                    exact HRRB.out
                have HLM7 : Hid ((L ++ [(⟨rx, ry, rw', 1⟩ : Rc)]).length = m + 1) := Lib.hid (by rw [List.length_append, HLM.out]; rfl)
                obtain ⟨pa, pc, rfl⟩ := own_shape hown7
                clear hown7 hgrow hat hX7 hbx hXl c0 c1 c2
                go_wp2
                go_roundw
                case rel => exact ⟨k + 1, m + 1, _, true, by go_num, rfl, hkn, by omega, HLM7, HPK2, Lib.hid (fun _ => by omega), HO7, HRB7, HB7⟩
                case measure => simp [intOf]; omega
              | true =>
                have hm1' : 1 ≤ m := HJ1.out rfl
                have hlast := lastD_get (L := L) (by rw [HLM.out]; exact hm1')
                rw [HLM.out] at hlast
                have HLR := Lib.hid (HRB.out _ (List.mem_of_getElem? hlast))
                obtain ⟨⟨lx, ly, lw, lh⟩, hLL⟩ : ∃ R, L.getLastD zr = R := ⟨_, rfl⟩
                rw [hLL] at HLR hlast
                have HRO := Lib.hid fun U => rboth_any U _ _ HLR.out HRRB.out
                have HBR := Lib.hid (PN.both_rb HLR.out HRRB.out)
                have HPK2 : Hid (PN.pl D (k + 1) = (L.set (m - 1) (PN.both ⟨lx, ly, lw, lh⟩ ⟨rx, ry, rw', 1⟩), true)) := Lib.hid (by
                  show PN.stp (PN.pl D k) k (D.getD k 0) = _
                  rw [HPK.out, HDK.out]
                  unfold PN.stp
                  rw [if_neg hd0, if_pos rfl, hRR, hLL, ← HLM.out, last_set _ (by rw [HLM.out]; exact hm1')])
                obtain ⟨⟨bx, by', bw, bh⟩, hBB⟩ : ∃ R, PN.both ⟨lx, ly, lw, lh⟩ ⟨rx, ry, rw', 1⟩ = R := ⟨_, rfl⟩
                rw [hBB] at HRO HBR HPK2
                obtain ⟨gl, cl, hsl, hgl1, hgl2, hcl1, hcl2⟩ := rc_own HOX.out (by omega)
                injection hsl with hsl _ hcl
                subst hsl hcl
                have hdr2 := Below.drew (Below.refl wx.heap.size wx)
                obtain ⟨W2, hW2⟩ : ∃ W2, wx.drew = W2 := ⟨_, rfl⟩
                rw [hW2] at hdr2
                have HW2 := Lib.hid hW2
                have HD2 := Lib.hid hdr2
                have HL1 := Lib.hid hlast
                have hmm : ((m : Int) - 1) = ((m - 1 : Nat) : Int) := by omega
                obtain ⟨q, hq⟩ : ∃ q, m - 1 = q := ⟨_, rfl⟩
                rw [hq] at hmm HL1 HPK2
                have HQ := Lib.hid hq
                have hmw : IntKind.i64.wrap ((m : Int) - 1) = (q : Int) := by rw [IntKind.wrap_i64]; omega
                have hqw : IntKind.i64.wrap (q : Int) = (q : Int) := by rw [IntKind.wrap_i64]; omega
                have hq0 : (0 : Int) ≤ (q : Int) := by omega
                have hqm : (q : Int) < (m : Int) := by omega
                have HKL : Hid (∀ U, Below wx.heap.size wx U → (U.cell? ⟨gl, q * 4, none⟩ = some (.int .i64 lx) ∧ U.cell? ⟨gl, q * 4 + 1, none⟩ = some (.int .i64 ly) ∧ U.cell? ⟨gl, q * 4 + 2, none⟩ = some (.int .i64 lw) ∧ U.cell? ⟨gl, q * 4 + 3, none⟩ = some (.int .i64 lh)) ∧ U.cell? ⟨X, 0, none⟩ = some (.int .i64 rx) ∧ U.cell? ⟨X, 1, none⟩ = some (.int .i64 ry) ∧ U.cell? ⟨X, 2, none⟩ = some (.int .i64 rw') ∧ U.cell? ⟨X, 3, none⟩ = some (.int .i64 1)) := Lib.hid fun U hU => by
                  have h2 := (hU.block X (Array.getElem?_eq_some_iff.1 HXX.out).1).trans HXX.out
                  exact ⟨rc_cells (own_below HOX.out hU) HL1.out, nd_cell h2 rfl, nd_cell h2 rfl, nd_cell h2 rfl, nd_cell h2 rfl⟩
                have HXG : Hid (X ≠ gl) := Lib.hid fun e => HXN.out X hXo (by rw [e]; rfl)
                clear hd0 hRR hlast hLL hBB hdr2 hW2 hq hgl1 hgl2
                go_upto_region 10 with fail
                refine wp_region_last #[{ dst := some 62, op := Op.move (Operand.tmp 9), type := 46, pos := "ref.go:150", after := #[], guard := none }, { dst := some 63, op := Op.move (Operand.tmp 9), type := 46, pos := "ref.go:150", after := #[], guard := none }, { dst := some 64, op := Op.call { callee := Callee.builtin Builtin.len, args := #[Operand.tmp 63], argTypes := #[46] }, type := 3, pos := "ref.go:150", after := #[{ on := 1, ground := Ground.data }], guard := none }, { dst := some 65, op := Op.binOp BinOp.sub 3 (Operand.tmp 64) (Operand.const (Value.int IntKind.i64 1)) 3, type := 3, pos := "ref.go:150", after := #[{ on := 2, ground := Ground.data }], guard := none }, { dst := some 66, op := Op.move (Operand.tmp 9), type := 46, pos := "ref.go:150", after := #[], guard := none }, { dst := some 67, op := Op.move (Operand.tmp 9), type := 46, pos := "ref.go:150", after := #[], guard := none }, { dst := some 68, op := Op.call { callee := Callee.builtin Builtin.len, args := #[Operand.tmp 67], argTypes := #[46] }, type := 3, pos := "ref.go:150", after := #[{ on := 5, ground := Ground.data }], guard := none }, { dst := some 69, op := Op.binOp BinOp.sub 3 (Operand.tmp 68) (Operand.const (Value.int IntKind.i64 1)) 3, type := 3, pos := "ref.go:150", after := #[{ on := 6, ground := Ground.data }], guard := none }, { dst := some 70, op := Op.indexAddr 46 (Operand.tmp 66) (Operand.tmp 69), type := 0, pos := "ref.go:150", after := #[{ on := 4, ground := Ground.data }, { on := 7, ground := Ground.data }], guard := none }, { dst := some 71, op := Op.load 31 (Operand.tmp 70), type := 31, pos := "ref.go:150", after := #[{ on := 8, ground := Ground.data }], guard := none }, { dst := some 72, op := Op.load 31 (Operand.tmp 12), type := 31, pos := "ref.go:150", after := #[], guard := none }, { dst := some 73, op := Op.call { callee := Callee.value (Operand.func 45), args := #[Operand.tmp 71, Operand.tmp 72], argTypes := #[31, 31] }, type := 31, pos := "ref.go:150", after := #[{ on := 9, ground := Ground.data }, { on := 10, ground := Ground.data }], guard := none }, { dst := some 74, op := Op.indexAddr 46 (Operand.tmp 62) (Operand.tmp 65), type := 0, pos := "ref.go:150", after := #[{ on := 0, ground := Ground.data }, { on := 3, ground := Ground.data }, { on := 0, ground := Ground.phase }, { on := 1, ground := Ground.phase }, { on := 2, ground := Ground.phase }, { on := 3, ground := Ground.phase }, { on := 4, ground := Ground.phase }, { on := 5, ground := Ground.phase }, { on := 6, ground := Ground.phase }, { on := 7, ground := Ground.phase }, { on := 8, ground := Ground.phase }, { on := 9, ground := Ground.phase }, { on := 10, ground := Ground.phase }, { on := 11, ground := Ground.phase }], guard := none }] { dst := none, op := Op.store 31 (Operand.tmp 74) (Operand.tmp 73), type := 0, pos := "ref.go:150", after := #[{ on := 12, ground := Ground.data }, { on := 11, ground := Ground.data }, { on := 11, ground := Ground.chain }, { on := 0, ground := Ground.phase }, { on := 1, ground := Ground.phase }, { on := 2, ground := Ground.phase }, { on := 3, ground := Ground.phase }, { on := 4, ground := Ground.phase }, { on := 5, ground := Ground.phase }, { on := 6, ground := Ground.phase }, { on := 7, ground := Ground.phase }, { on := 8, ground := Ground.phase }, { on := 9, ground := Ground.phase }, { on := 10, ground := Ground.phase }, { on := 11, ground := Ground.phase }], guard := none } rfl (by kernel_rfl) (by kernel_rfl) ((fun w' => (w'.cell? ⟨gl, q * 4, none⟩ = some (.int .i64 lx) ∧ w'.cell? ⟨gl, q * 4 + 1, none⟩ = some (.int .i64 ly) ∧ w'.cell? ⟨gl, q * 4 + 2, none⟩ = some (.int .i64 lw) ∧ w'.cell? ⟨gl, q * 4 + 3, none⟩ = some (.int .i64 lh)) ∧ w'.cell? ⟨X, 0, none⟩ = some (.int .i64 rx) ∧ w'.cell? ⟨X, 1, none⟩ = some (.int .i64 ry) ∧ w'.cell? ⟨X, 2, none⟩ = some (.int .i64 rw') ∧ w'.cell? ⟨X, 3, none⟩ = some (.int .i64 1))) ?_ (fun hHeld => ?_)
                · (rw [HW2.out]; exact HKL.out _ HD2.out)
                rw [HW2.out] at hHeld ⊢
                refine wpAnyH_take (i := 0) (oi := { dst := some 62, op := Op.move (Operand.tmp 9), type := 46, pos := "ref.go:150", after := #[], guard := none }) (v := ?_) rfl (by kernel_rfl) (by kernel_rfl) (by kernel_rfl) (fun _ _ _ h => h) (Or.inl ⟨by rfl, ?_⟩) (by assumption) ?_
                rotate_left
                · ((intro w hSw; (try dsimp only at hSw); go_simp; (try rw [if_neg (by omega)])); try with_reducible rfl)
                (try simp only [Act.put, List.setIfInBounds_toArray, List.set_cons_zero, List.set_cons_succ])
                refine wpAnyH_take (i := 1) (oi := { dst := some 63, op := Op.move (Operand.tmp 9), type := 46, pos := "ref.go:150", after := #[], guard := none }) (v := ?_) rfl (by kernel_rfl) (by kernel_rfl) (by kernel_rfl) (fun _ _ _ h => h) (Or.inl ⟨by rfl, ?_⟩) (by assumption) ?_
                rotate_left
                · ((intro w hSw; (try dsimp only at hSw); go_simp; (try rw [if_neg (by omega)])); try with_reducible rfl)
                (try simp only [Act.put, List.setIfInBounds_toArray, List.set_cons_zero, List.set_cons_succ])
                refine wpAnyH_take (i := 2) (oi := { dst := some 64, op := Op.call { callee := Callee.builtin Builtin.len, args := #[Operand.tmp 63], argTypes := #[46] }, type := 3, pos := "ref.go:150", after := #[{ on := 1, ground := Ground.data }], guard := none }) (v := ?_) rfl (by kernel_rfl) (by kernel_rfl) (by kernel_rfl) (fun _ _ _ h => h) (Or.inl ⟨by rfl, ?_⟩) (by assumption) ?_
                rotate_left
                · ((intro w hSw; (try dsimp only at hSw); go_simp; (try rw [if_neg (by omega)])); try with_reducible rfl)
                (try simp only [Act.put, List.setIfInBounds_toArray, List.set_cons_zero, List.set_cons_succ])
                refine wpAnyH_take (i := 3) (oi := { dst := some 65, op := Op.binOp BinOp.sub 3 (Operand.tmp 64) (Operand.const (Value.int IntKind.i64 1)) 3, type := 3, pos := "ref.go:150", after := #[{ on := 2, ground := Ground.data }], guard := none }) (v := ?_) rfl (by kernel_rfl) (by kernel_rfl) (by kernel_rfl) (fun _ _ _ h => h) (Or.inl ⟨by rfl, ?_⟩) (by assumption) ?_
                rotate_left
                · ((intro w hSw; (try dsimp only at hSw); go_simp; (try rw [if_neg (by omega)])); try with_reducible rfl)
                (try simp only [Act.put, List.setIfInBounds_toArray, List.set_cons_zero, List.set_cons_succ])
                refine wpAnyH_take (i := 4) (oi := { dst := some 66, op := Op.move (Operand.tmp 9), type := 46, pos := "ref.go:150", after := #[], guard := none }) (v := ?_) rfl (by kernel_rfl) (by kernel_rfl) (by kernel_rfl) (fun _ _ _ h => h) (Or.inl ⟨by rfl, ?_⟩) (by assumption) ?_
                rotate_left
                · ((intro w hSw; (try dsimp only at hSw); go_simp; (try rw [if_neg (by omega)])); try with_reducible rfl)
                (try simp only [Act.put, List.setIfInBounds_toArray, List.set_cons_zero, List.set_cons_succ])
                refine wpAnyH_take (i := 5) (oi := { dst := some 67, op := Op.move (Operand.tmp 9), type := 46, pos := "ref.go:150", after := #[], guard := none }) (v := ?_) rfl (by kernel_rfl) (by kernel_rfl) (by kernel_rfl) (fun _ _ _ h => h) (Or.inl ⟨by rfl, ?_⟩) (by assumption) ?_
                rotate_left
                · ((intro w hSw; (try dsimp only at hSw); go_simp; (try rw [if_neg (by omega)])); try with_reducible rfl)
                (try simp only [Act.put, List.setIfInBounds_toArray, List.set_cons_zero, List.set_cons_succ])
                refine wpAnyH_take (i := 6) (oi := { dst := some 68, op := Op.call { callee := Callee.builtin Builtin.len, args := #[Operand.tmp 67], argTypes := #[46] }, type := 3, pos := "ref.go:150", after := #[{ on := 5, ground := Ground.data }], guard := none }) (v := ?_) rfl (by kernel_rfl) (by kernel_rfl) (by kernel_rfl) (fun _ _ _ h => h) (Or.inl ⟨by rfl, ?_⟩) (by assumption) ?_
                rotate_left
                · ((intro w hSw; (try dsimp only at hSw); go_simp; (try rw [if_neg (by omega)])); try with_reducible rfl)
                (try simp only [Act.put, List.setIfInBounds_toArray, List.set_cons_zero, List.set_cons_succ])
                refine wpAnyH_take (i := 7) (oi := { dst := some 69, op := Op.binOp BinOp.sub 3 (Operand.tmp 68) (Operand.const (Value.int IntKind.i64 1)) 3, type := 3, pos := "ref.go:150", after := #[{ on := 6, ground := Ground.data }], guard := none }) (v := ?_) rfl (by kernel_rfl) (by kernel_rfl) (by kernel_rfl) (fun _ _ _ h => h) (Or.inl ⟨by rfl, ?_⟩) (by assumption) ?_
                rotate_left
                · ((intro w hSw; (try dsimp only at hSw); go_simp; (try rw [if_neg (by omega)])); try with_reducible rfl)
                (try simp only [Act.put, List.setIfInBounds_toArray, List.set_cons_zero, List.set_cons_succ])
                refine wpAnyH_take (i := 8) (oi := { dst := some 70, op := Op.indexAddr 46 (Operand.tmp 66) (Operand.tmp 69), type := 0, pos := "ref.go:150", after := #[{ on := 4, ground := Ground.data }, { on := 7, ground := Ground.data }], guard := none }) (v := ?_) rfl (by kernel_rfl) (by kernel_rfl) (by kernel_rfl) (fun _ _ _ h => h) (Or.inl ⟨by rfl, ?_⟩) (by assumption) ?_
                rotate_left
                · ((intro w hSw; (try dsimp only at hSw); go_simp; (try rw [if_neg (by omega)])); try with_reducible rfl)
                (try simp only [Act.put, List.setIfInBounds_toArray, List.set_cons_zero, List.set_cons_succ])
                refine wpAnyH_take (i := 9) (oi := { dst := some 71, op := Op.load 31 (Operand.tmp 70), type := 31, pos := "ref.go:150", after := #[{ on := 8, ground := Ground.data }], guard := none }) (v := ?_) rfl (by kernel_rfl) (by kernel_rfl) (by kernel_rfl) (fun _ _ _ h => h) (Or.inl ⟨by rfl, ?_⟩) (by assumption) ?_
                rotate_left
                · ((intro w hSw; (try dsimp only at hSw); go_simp; (try rw [if_neg (by omega)])); try with_reducible rfl)
                (try simp only [Act.put, List.setIfInBounds_toArray, List.set_cons_zero, List.set_cons_succ])
                refine wpAnyH_take (i := 10) (oi := { dst := some 72, op := Op.load 31 (Operand.tmp 12), type := 31, pos := "ref.go:150", after := #[], guard := none }) (v := ?_) rfl (by kernel_rfl) (by kernel_rfl) (by kernel_rfl) (fun _ _ _ h => h) (Or.inl ⟨by rfl, ?_⟩) (by assumption) ?_
                rotate_left
                · ((intro w hSw; (try dsimp only at hSw); go_simp; (try rw [if_neg (by omega)])); try with_reducible rfl)
                (try simp only [Act.put, List.setIfInBounds_toArray, List.set_cons_zero, List.set_cons_succ])
                refine wpAnyH_ready (rs := [11]) (by kernel_rfl) (by simp) ?_
                refine AllReadyH.cons (o := { dst := some 73, op := Op.call { callee := Callee.value (Operand.func 45), args := #[Operand.tmp 71, Operand.tmp 72], argTypes := #[31, 31] }, type := 31, pos := "ref.go:150", after := #[{ on := 9, ground := Ground.data }, { on := 10, ground := Ground.data }], guard := none }) rfl (fun K hK => ?_) AllReadyH.nil
                (go_simp; go_at_call 45; refine (HRO.out _).mono ?_; rintro u wz ⟨rfl, dz⟩; have hSk := HKL.out _ (bnext HD2.out dz); dsimp only)
                refine hK.out _ _ ?_ (fun hHeld => ?_)
                · exact hSk
                clear hK K
                (try simp only [Act.put, List.setIfInBounds_toArray, List.set_cons_zero, List.set_cons_succ])
                refine wpAnyH_take (i := 12) (oi := { dst := some 74, op := Op.indexAddr 46 (Operand.tmp 62) (Operand.tmp 65), type := 0, pos := "ref.go:150", after := #[{ on := 0, ground := Ground.data }, { on := 3, ground := Ground.data }, { on := 0, ground := Ground.phase }, { on := 1, ground := Ground.phase }, { on := 2, ground := Ground.phase }, { on := 3, ground := Ground.phase }, { on := 4, ground := Ground.phase }, { on := 5, ground := Ground.phase }, { on := 6, ground := Ground.phase }, { on := 7, ground := Ground.phase }, { on := 8, ground := Ground.phase }, { on := 9, ground := Ground.phase }, { on := 10, ground := Ground.phase }, { on := 11, ground := Ground.phase }], guard := none }) (v := ?_) rfl (by kernel_rfl) (by kernel_rfl) (by kernel_rfl) (fun _ _ _ h => h) (Or.inl ⟨by rfl, ?_⟩) (by assumption) ?_
                rotate_left
                · ((intro w hSw; (try dsimp only at hSw); go_simp; (try rw [if_neg (by omega)])); try with_reducible rfl)
                (try simp only [Act.put, List.setIfInBounds_toArray, List.set_cons_zero, List.set_cons_succ])
                refine wpAnyH_done (by kernel_rfl) ?_ _
                show Oper.wp _ _ _ _ _ _
                have hown := own_below HOX.out (bnext HD2.out dz)
                obtain ⟨w9, hw9, hown9, hf9⟩ := rc_set hown q (by rw [HLM.out]; have := HQ.out; omega) ⟨bx, by', bw, bh⟩
                dsimp only at hw9
                obtain ⟨y0, y1, y2, y3⟩ := (HKL.out _ (bnext HD2.out dz)).1
                have z0 := hown.frozenAt (q * 4)
                have z1 := hown.frozenAt (q * 4 + 1)
                have z2 := hown.frozenAt (q * 4 + 2)
                have z3 := hown.frozenAt (q * 4 + 3)
                have HW9 := Lib.hid hw9
                have HO9 := Lib.hid hown9
                have hX9 := hf9.nd (((bnext HD2.out dz).block X (Array.getElem?_eq_some_iff.1 HXX.out).1).trans HXX.out) HXG.out
                have hx3 : w9.cell? ⟨X, 3, none⟩ = some (.int .i64 1) := nd_cell hX9 rfl
                have HB9 : Hid (Below W.heap.size W w9) := Lib.hid (hf9.below W (bnext HBWX.out (bnext HD2.out dz)) (fun b hb => by rw [hb]; exact (HOX.out.lt gl rfl).1))
                have HRB9 : Hid (∀ r ∈ L.set q ⟨bx, by', bw, bh⟩, rb r) := Lib.hid fun r hr => by
                  rcases List.mem_or_eq_of_mem_set hr with h | h
                  · exact HRB.out r h
                  · rw [h]
                    exact HBR.out
                have HLM9 : Hid ((L.set q (⟨bx, by', bw, bh⟩ : Rc)).length = m) := Lib.hid (by rw [List.length_set, HLM.out])
                clear hHeld hown hw9 hown9 hf9 hX9
                go_simp
                go_upto_region 11 with fail
                rw [HW9.out]
                clear y0 y1 y2 y3 z0 z1 z2 z3
                go_wp2
                go_roundw
                case rel => exact ⟨k + 1, m, _, true, by go_num, rfl, hkn, by omega, HLM9, HPK2, Lib.hid (fun _ => by omega), HO9, HRB9, HB9⟩
                case measure => simp [intOf]; omega
          exact AllReadyH.nil
        exact AllReadyH.nil
      refine AllReadyH.cons (o := { dst := some 12, op := Op.alloc 31, type := 0, pos := "ref.go:148", after := #[], guard := none }) rfl (fun K hK => ?_) ?_
      · (go_simp; have hxn := heap_alloc_new W0 (.cells #[.int .i64 0, .int .i64 0, .int .i64 0, .int .i64 0] 31); have bzA := balloc HD0.out (.cells #[.int .i64 0, .int .i64 0, .int .i64 0, .int .i64 0] 31); obtain ⟨X, hX⟩ : ∃ X, W0.heap.size = X := ⟨_, rfl⟩; obtain ⟨wa, hwa⟩ : ∃ wa, W0.alloc (.cells #[.int .i64 0, .int .i64 0, .int .i64 0, .int .i64 0] 31) = wa := ⟨_, rfl⟩; have hXo : wo.heap.size ≤ X := (by rw [← hX]; exact (HD0.out).size); rw [hX] at hxn; rw [hwa] at hxn bzA; (try rw [hX]); (try rw [hwa]); clear hX hwa)
        refine hK.out _ _ ?_ (fun hHeld => ?_)
        · exact HKS.out _ bzA
        clear hK K
        (try simp only [Act.put, List.setIfInBounds_toArray, List.set_cons_zero, List.set_cons_succ])
        refine wpAnyH_ready (rs := [10]) (by kernel_rfl) (by simp) ?_
        refine AllReadyH.cons (o := { dst := some 55, op := Op.call { callee := Callee.value (Operand.func 44), args := #[Operand.tmp 48, Operand.tmp 52, Operand.tmp 53, Operand.tmp 54], argTypes := #[63, 63, 3, 3] }, type := 31, pos := "ref.go:148", after := #[{ on := 3, ground := Ground.data }, { on := 7, ground := Ground.data }, { on := 8, ground := Ground.data }, { on := 9, ground := Ground.data }], guard := none }) rfl (fun K hK => ?_) ?_
        · (go_simp; go_at_call 44; refine (HRW.out _).mono ?_; rintro u wz1 ⟨rfl, dz⟩; have bz1 := bnext bzA dz; have hxn := (dz.block X (Array.getElem?_eq_some_iff.1 hxn).1).trans hxn; dsimp only)
          refine hK.out _ _ ?_ (fun hHeld => ?_)
          · exact HKS.out _ bz1
          clear hK K
          (try simp only [Act.put, List.setIfInBounds_toArray, List.set_cons_zero, List.set_cons_succ])
          refine wpAnyH_ready (rs := [12]) (by kernel_rfl) (by simp) ?_
          refine AllReadyH.cons (o := { dst := none, op := Op.store 31 (Operand.tmp 12) (Operand.tmp 55), type := 0, pos := "ref.go:148", after := #[{ on := 11, ground := Ground.data }, { on := 10, ground := Ground.data }, { on := 10, ground := Ground.chain }, { on := 0, ground := Ground.phase }, { on := 1, ground := Ground.phase }, { on := 2, ground := Ground.phase }, { on := 3, ground := Ground.phase }, { on := 4, ground := Ground.phase }, { on := 5, ground := Ground.phase }, { on := 6, ground := Ground.phase }, { on := 7, ground := Ground.phase }, { on := 8, ground := Ground.phase }, { on := 9, ground := Ground.phase }, { on := 10, ground := Ground.phase }, { on := 11, ground := Ground.phase }], guard := none }) rfl (fun K hK => ?_) ?_
          · (have y0 : wz1.cell? ⟨X, 0, none⟩ = some (.int .i64 0) := nd_cell hxn rfl; have y1 : wz1.cell? ⟨X, 1, none⟩ = some (.int .i64 0) := nd_cell hxn rfl; have y2 : wz1.cell? ⟨X, 2, none⟩ = some (.int .i64 0) := nd_cell hxn rfl; have y3 : wz1.cell? ⟨X, 3, none⟩ = some (.int .i64 0) := nd_cell hxn rfl; have z0 := nd_froz hxn 0; have z1 := nd_froz hxn 1; have z2 := nd_froz hxn 2; have z3 := nd_froz hxn 3; obtain ⟨wx, hwx, hxx, hfx⟩ := set4 hxn (.int .i64 rx) (.int .i64 ry) (.int .i64 rw') (.int .i64 rh); have bzx : Below wo.heap.size wo wx := hfx.below wo bz1 (fun b hb => (by rw [hb]; exact hXo)); go_simp; (try rw [hwx]); clear y0 y1 y2 y3 z0 z1 z2 z3 hfx hwx)
            refine hK.out _ _ ?_ (fun hHeld => ?_)
            · exact HKS.out _ bzx
            clear hK K
            (try simp only [Act.put, List.setIfInBounds_toArray, List.set_cons_zero, List.set_cons_succ])
            refine wpAnyH_done (by kernel_rfl) ?_ _
            clear hHeld
            try clear hxn
            have HXX := Lib.hid hxx
            have HBX := Lib.hid bzx
            have HOX := Lib.hid (own_below HOW.out bzx)
            have HBWX := Lib.hid (bnext HBW.out bzx)
            have c3 : wx.cell? ⟨X, 3, none⟩ = some (.int .i64 rh) := nd_cell hxx rfl
            clear hxx bzx
            by_cases hd0 : d = 0
            · have hrh : rh = 0 := by have := HR.out; unfold PN.rowQ at this; rw [if_pos hd0] at this; injection this with _ _ _ h; exact h.symm
              subst hrh
              have HPK2 : Hid (PN.pl D (k + 1) = (L, false)) := Lib.hid (by rw [PN.pl_zero D k (by rw [HDK.out, hd0]), HPK.out])
              clear hd0
              go_wp2
              go_roundw
              case rel => exact ⟨k + 1, m, L, false, by go_num, rfl, hkn, by omega, HLM, HPK2, Lib.hid (fun h => nomatch h), HOX, HRB, HBWX⟩
              case measure => simp [intOf]; omega
            · have hRR : PN.rowR k d = ⟨rx, ry, rw', rh⟩ := by have := HR.out; unfold PN.rowQ at this; rw [if_neg hd0] at this; exact this
              have hrh : rh = 1 := by unfold PN.rowR at hRR; injection hRR with _ _ _ h; exact h.symm
              subst hrh
              have HRRB : Hid (rb ⟨rx, ry, rw', 1⟩) := Lib.hid (by rw [← hRR]; exact PN.row_rb (by omega) hd0 HDL1.out)
              have c0 : wx.cell? ⟨X, 0, none⟩ = some (.int .i64 rx) := nd_cell HXX.out rfl
              have c1 : wx.cell? ⟨X, 1, none⟩ = some (.int .i64 ry) := nd_cell HXX.out rfl
              have c2 : wx.cell? ⟨X, 2, none⟩ = some (.int .i64 rw') := nd_cell HXX.out rfl
              cases j with
              | false =>
                have HPK2 : Hid (PN.pl D (k + 1) = (L ++ [⟨rx, ry, rw', 1⟩], true)) := Lib.hid (by
                  show PN.stp (PN.pl D k) k (D.getD k 0) = _
                  rw [HPK.out, HDK.out]
                  unfold PN.stp
                  rw [if_neg hd0, if_neg Bool.false_ne_true, hRR])
                have hbx := balloc (Below.refl _ wx) (.cells #[.int .i64 rx, .int .i64 ry, .int .i64 rw', .int .i64 1] 31)
                have hbs := HBWX.out.size
                clear hd0 hRR
                go_upto_region 13 with (at_builtin; refine wpList_appN _ rfl _ _ 46 rfl W.heap.size 31 i0 _ 4 32 Tryd.underlying46 hi0 hz0 hz1 hz2 rfl (by decide) (.slice va m vc) m (rcs L) rfl (own_below HOX.out hbx) _ 1 [.int .i64 rx, .int .i64 ry, .int .i64 rw', .int .i64 1] rfl (srcN_new wx [.int .i64 rx, .int .i64 ry, .int .i64 rw', .int .i64 1] 31 4 1 1 rfl) (by simp [Value.oneCell']) (by unfold maxLen; omega) (by omega) (by have h1 := hbx.size; omega) ?_; intro v' w7 hown7 hgrow hat)
                have hXl := (Array.getElem?_eq_some_iff.1 HXX.out).1
                have hX7 := (hgrow.block X (Nat.lt_of_lt_of_le hXl hbx.size) (fun e => HXN.out X hXo e.symm)).trans ((hbx.block X hXl).trans HXX.out)
                have c3 : w7.cell? ⟨X, 3, none⟩ = some (.int .i64 1) := nd_cell hX7 rfl
                have HB7 : Hid (Below W.heap.size W w7) := Lib.hid ((bnext HBWX.out hbx).grown hgrow (bnext HBWX.out hbx).size (fun q e => (HOX.out.lt q e).1))
                have HO7 : Hid (w7.ownsRow W.heap.size 31 4 v' (m + 1) (rcs (L ++ [⟨rx, ry, rw', 1⟩]))) := Lib.hid (by rw [rcs_app]; exact hown7)
                have HRB7 : Hid (∀ r ∈ L ++ [⟨rx, ry, rw', 1⟩], rb r) := Lib.hid fun r hr => by
                  rcases List.mem_append.1 hr with hr | hr
                  · exact HRB.out r hr
                  · rw [List.mem_singleton.1 hr]
                    exact HRRB.out
                have HLM7 : Hid ((L ++ [(⟨rx, ry, rw', 1⟩ : Rc)]).length = m + 1) := Lib.hid (by rw [List.length_append, HLM.out]; rfl)
                obtain ⟨pa, pc, rfl⟩ := own_shape hown7
                clear hown7 hgrow hat hX7 hbx hXl c0 c1 c2
                go_wp2
                go_roundw
                case rel => exact ⟨k + 1, m + 1, _, true, by go_num, rfl, hkn, by omega, HLM7, HPK2, Lib.hid (fun _ => by omega), HO7, HRB7, HB7⟩
                case measure => simp [intOf]; omega
              | true =>
                have hm1' : 1 ≤ m := HJ1.out rfl
                have hlast := lastD_get (L := L) (by rw [HLM.out]; exact hm1')
                rw [HLM.out] at hlast
                have HLR := Lib.hid (HRB.out _ (List.mem_of_getElem? hlast))
                obtain ⟨⟨lx, ly, lw, lh⟩, hLL⟩ : ∃ R, L.getLastD zr = R := ⟨_, rfl⟩
                rw [hLL] at HLR hlast
                have HRO := Lib.hid fun U => rboth_any U _ _ HLR.out HRRB.out
                have HBR := Lib.hid (PN.both_rb HLR.out HRRB.out)
                have HPK2 : Hid (PN.pl D (k + 1) = (L.set (m - 1) (PN.both ⟨lx, ly, lw, lh⟩ ⟨rx, ry, rw', 1⟩), true)) := Lib.hid (by
                  show PN.stp (PN.pl D k) k (D.getD k 0) = _
                  rw [HPK.out, HDK.out]
                  unfold PN.stp
                  rw [if_neg hd0, if_pos rfl, hRR, hLL, ← HLM.out, last_set _ (by rw [HLM.out]; exact hm1')])
                obtain ⟨⟨bx, by', bw, bh⟩, hBB⟩ : ∃ R, PN.both ⟨lx, ly, lw, lh⟩ ⟨rx, ry, rw', 1⟩ = R := ⟨_, rfl⟩
                rw [hBB] at HRO HBR HPK2
                obtain ⟨gl, cl, hsl, hgl1, hgl2, hcl1, hcl2⟩ := rc_own HOX.out (by omega)
                injection hsl with hsl _ hcl
                subst hsl hcl
                have hdr2 := Below.drew (Below.refl wx.heap.size wx)
                obtain ⟨W2, hW2⟩ : ∃ W2, wx.drew = W2 := ⟨_, rfl⟩
                rw [hW2] at hdr2
                have HW2 := Lib.hid hW2
                have HD2 := Lib.hid hdr2
                have HL1 := Lib.hid hlast
                have hmm : ((m : Int) - 1) = ((m - 1 : Nat) : Int) := by omega
                obtain ⟨q, hq⟩ : ∃ q, m - 1 = q := ⟨_, rfl⟩
                rw [hq] at hmm HL1 HPK2
                have HQ := Lib.hid hq
                have hmw : IntKind.i64.wrap ((m : Int) - 1) = (q : Int) := by rw [IntKind.wrap_i64]; omega
                have hqw : IntKind.i64.wrap (q : Int) = (q : Int) := by rw [IntKind.wrap_i64]; omega
                have hq0 : (0 : Int) ≤ (q : Int) := by omega
                have hqm : (q : Int) < (m : Int) := by omega
                have HKL : Hid (∀ U, Below wx.heap.size wx U → (U.cell? ⟨gl, q * 4, none⟩ = some (.int .i64 lx) ∧ U.cell? ⟨gl, q * 4 + 1, none⟩ = some (.int .i64 ly) ∧ U.cell? ⟨gl, q * 4 + 2, none⟩ = some (.int .i64 lw) ∧ U.cell? ⟨gl, q * 4 + 3, none⟩ = some (.int .i64 lh)) ∧ U.cell? ⟨X, 0, none⟩ = some (.int .i64 rx) ∧ U.cell? ⟨X, 1, none⟩ = some (.int .i64 ry) ∧ U.cell? ⟨X, 2, none⟩ = some (.int .i64 rw') ∧ U.cell? ⟨X, 3, none⟩ = some (.int .i64 1)) := Lib.hid fun U hU => by
                  have h2 := (hU.block X (Array.getElem?_eq_some_iff.1 HXX.out).1).trans HXX.out
                  exact ⟨rc_cells (own_below HOX.out hU) HL1.out, nd_cell h2 rfl, nd_cell h2 rfl, nd_cell h2 rfl, nd_cell h2 rfl⟩
                have HXG : Hid (X ≠ gl) := Lib.hid fun e => HXN.out X hXo (by rw [e]; rfl)
                clear hd0 hRR hlast hLL hBB hdr2 hW2 hq hgl1 hgl2
                go_upto_region 10 with fail
                refine wp_region_last #[{ dst := some 62, op := Op.move (Operand.tmp 9), type := 46, pos := "ref.go:150", after := #[], guard := none }, { dst := some 63, op := Op.move (Operand.tmp 9), type := 46, pos := "ref.go:150", after := #[], guard := none }, { dst := some 64, op := Op.call { callee := Callee.builtin Builtin.len, args := #[Operand.tmp 63], argTypes := #[46] }, type := 3, pos := "ref.go:150", after := #[{ on := 1, ground := Ground.data }], guard := none }, { dst := some 65, op := Op.binOp BinOp.sub 3 (Operand.tmp 64) (Operand.const (Value.int IntKind.i64 1)) 3, type := 3, pos := "ref.go:150", after := #[{ on := 2, ground := Ground.data }], guard := none }, { dst := some 66, op := Op.move (Operand.tmp 9), type := 46, pos := "ref.go:150", after := #[], guard := none }, { dst := some 67, op := Op.move (Operand.tmp 9), type := 46, pos := "ref.go:150", after := #[], guard := none }, { dst := some 68, op := Op.call { callee := Callee.builtin Builtin.len, args := #[Operand.tmp 67], argTypes := #[46] }, type := 3, pos := "ref.go:150", after := #[{ on := 5, ground := Ground.data }], guard := none }, { dst := some 69, op := Op.binOp BinOp.sub 3 (Operand.tmp 68) (Operand.const (Value.int IntKind.i64 1)) 3, type := 3, pos := "ref.go:150", after := #[{ on := 6, ground := Ground.data }], guard := none }, { dst := some 70, op := Op.indexAddr 46 (Operand.tmp 66) (Operand.tmp 69), type := 0, pos := "ref.go:150", after := #[{ on := 4, ground := Ground.data }, { on := 7, ground := Ground.data }], guard := none }, { dst := some 71, op := Op.load 31 (Operand.tmp 70), type := 31, pos := "ref.go:150", after := #[{ on := 8, ground := Ground.data }], guard := none }, { dst := some 72, op := Op.load 31 (Operand.tmp 12), type := 31, pos := "ref.go:150", after := #[], guard := none }, { dst := some 73, op := Op.call { callee := Callee.value (Operand.func 45), args := #[Operand.tmp 71, Operand.tmp 72], argTypes := #[31, 31] }, type := 31, pos := "ref.go:150", after := #[{ on := 9, ground := Ground.data }, { on := 10, ground := Ground.data }], guard := none }, { dst := some 74, op := Op.indexAddr 46 (Operand.tmp 62) (Operand.tmp 65), type := 0, pos := "ref.go:150", after := #[{ on := 0, ground := Ground.data }, { on := 3, ground := Ground.data }, { on := 0, ground := Ground.phase }, { on := 1, ground := Ground.phase }, { on := 2, ground := Ground.phase }, { on := 3, ground := Ground.phase }, { on := 4, ground := Ground.phase }, { on := 5, ground := Ground.phase }, { on := 6, ground := Ground.phase }, { on := 7, ground := Ground.phase }, { on := 8, ground := Ground.phase }, { on := 9, ground := Ground.phase }, { on := 10, ground := Ground.phase }, { on := 11, ground := Ground.phase }], guard := none }] { dst := none, op := Op.store 31 (Operand.tmp 74) (Operand.tmp 73), type := 0, pos := "ref.go:150", after := #[{ on := 12, ground := Ground.data }, { on := 11, ground := Ground.data }, { on := 11, ground := Ground.chain }, { on := 0, ground := Ground.phase }, { on := 1, ground := Ground.phase }, { on := 2, ground := Ground.phase }, { on := 3, ground := Ground.phase }, { on := 4, ground := Ground.phase }, { on := 5, ground := Ground.phase }, { on := 6, ground := Ground.phase }, { on := 7, ground := Ground.phase }, { on := 8, ground := Ground.phase }, { on := 9, ground := Ground.phase }, { on := 10, ground := Ground.phase }, { on := 11, ground := Ground.phase }], guard := none } rfl (by kernel_rfl) (by kernel_rfl) ((fun w' => (w'.cell? ⟨gl, q * 4, none⟩ = some (.int .i64 lx) ∧ w'.cell? ⟨gl, q * 4 + 1, none⟩ = some (.int .i64 ly) ∧ w'.cell? ⟨gl, q * 4 + 2, none⟩ = some (.int .i64 lw) ∧ w'.cell? ⟨gl, q * 4 + 3, none⟩ = some (.int .i64 lh)) ∧ w'.cell? ⟨X, 0, none⟩ = some (.int .i64 rx) ∧ w'.cell? ⟨X, 1, none⟩ = some (.int .i64 ry) ∧ w'.cell? ⟨X, 2, none⟩ = some (.int .i64 rw') ∧ w'.cell? ⟨X, 3, none⟩ = some (.int .i64 1))) ?_ (fun hHeld => ?_)
                · (rw [HW2.out]; exact HKL.out _ HD2.out)
                rw [HW2.out] at hHeld ⊢
                refine wpAnyH_take (i := 0) (oi := { dst := some 62, op := Op.move (Operand.tmp 9), type := 46, pos := "ref.go:150", after := #[], guard := none }) (v := ?_) rfl (by kernel_rfl) (by kernel_rfl) (by kernel_rfl) (fun _ _ _ h => h) (Or.inl ⟨by rfl, ?_⟩) (by assumption) ?_
                rotate_left
                · ((intro w hSw; (try dsimp only at hSw); go_simp; (try rw [if_neg (by omega)])); try with_reducible rfl)
                (try simp only [Act.put, List.setIfInBounds_toArray, List.set_cons_zero, List.set_cons_succ])
                refine wpAnyH_take (i := 1) (oi := { dst := some 63, op := Op.move (Operand.tmp 9), type := 46, pos := "ref.go:150", after := #[], guard := none }) (v := ?_) rfl (by kernel_rfl) (by kernel_rfl) (by kernel_rfl) (fun _ _ _ h => h) (Or.inl ⟨by rfl, ?_⟩) (by assumption) ?_
                rotate_left
                · ((intro w hSw; (try dsimp only at hSw); go_simp; (try rw [if_neg (by omega)])); try with_reducible rfl)
                (try simp only [Act.put, List.setIfInBounds_toArray, List.set_cons_zero, List.set_cons_succ])
                refine wpAnyH_take (i := 2) (oi := { dst := some 64, op := Op.call { callee := Callee.builtin Builtin.len, args := #[Operand.tmp 63], argTypes := #[46] }, type := 3, pos := "ref.go:150", after := #[{ on := 1, ground := Ground.data }], guard := none }) (v := ?_) rfl (by kernel_rfl) (by kernel_rfl) (by kernel_rfl) (fun _ _ _ h => h) (Or.inl ⟨by rfl, ?_⟩) (by assumption) ?_
                rotate_left
                · ((intro w hSw; (try dsimp only at hSw); go_simp; (try rw [if_neg (by omega)])); try with_reducible rfl)
                (try simp only [Act.put, List.setIfInBounds_toArray, List.set_cons_zero, List.set_cons_succ])
                refine wpAnyH_take (i := 3) (oi := { dst := some 65, op := Op.binOp BinOp.sub 3 (Operand.tmp 64) (Operand.const (Value.int IntKind.i64 1)) 3, type := 3, pos := "ref.go:150", after := #[{ on := 2, ground := Ground.data }], guard := none }) (v := ?_) rfl (by kernel_rfl) (by kernel_rfl) (by kernel_rfl) (fun _ _ _ h => h) (Or.inl ⟨by rfl, ?_⟩) (by assumption) ?_
                rotate_left
                · ((intro w hSw; (try dsimp only at hSw); go_simp; (try rw [if_neg (by omega)])); try with_reducible rfl)
                (try simp only [Act.put, List.setIfInBounds_toArray, List.set_cons_zero, List.set_cons_succ])
                refine wpAnyH_take (i := 4) (oi := { dst := some 66, op := Op.move (Operand.tmp 9), type := 46, pos := "ref.go:150", after := #[], guard := none }) (v := ?_) rfl (by kernel_rfl) (by kernel_rfl) (by kernel_rfl) (fun _ _ _ h => h) (Or.inl ⟨by rfl, ?_⟩) (by assumption) ?_
                rotate_left
                · ((intro w hSw; (try dsimp only at hSw); go_simp; (try rw [if_neg (by omega)])); try with_reducible rfl)
                (try simp only [Act.put, List.setIfInBounds_toArray, List.set_cons_zero, List.set_cons_succ])
                refine wpAnyH_take (i := 5) (oi := { dst := some 67, op := Op.move (Operand.tmp 9), type := 46, pos := "ref.go:150", after := #[], guard := none }) (v := ?_) rfl (by kernel_rfl) (by kernel_rfl) (by kernel_rfl) (fun _ _ _ h => h) (Or.inl ⟨by rfl, ?_⟩) (by assumption) ?_
                rotate_left
                · ((intro w hSw; (try dsimp only at hSw); go_simp; (try rw [if_neg (by omega)])); try with_reducible rfl)
                (try simp only [Act.put, List.setIfInBounds_toArray, List.set_cons_zero, List.set_cons_succ])
                refine wpAnyH_take (i := 6) (oi := { dst := some 68, op := Op.call { callee := Callee.builtin Builtin.len, args := #[Operand.tmp 67], argTypes := #[46] }, type := 3, pos := "ref.go:150", after := #[{ on := 5, ground := Ground.data }], guard := none }) (v := ?_) rfl (by kernel_rfl) (by kernel_rfl) (by kernel_rfl) (fun _ _ _ h => h) (Or.inl ⟨by rfl, ?_⟩) (by assumption) ?_
                rotate_left
                · ((intro w hSw; (try dsimp only at hSw); go_simp; (try rw [if_neg (by omega)])); try with_reducible rfl)
                (try simp only [Act.put, List.setIfInBounds_toArray, List.set_cons_zero, List.set_cons_succ])
                refine wpAnyH_take (i := 7) (oi := { dst := some 69, op := Op.binOp BinOp.sub 3 (Operand.tmp 68) (Operand.const (Value.int IntKind.i64 1)) 3, type := 3, pos := "ref.go:150", after := #[{ on := 6, ground := Ground.data }], guard := none }) (v := ?_) rfl (by kernel_rfl) (by kernel_rfl) (by kernel_rfl) (fun _ _ _ h => h) (Or.inl ⟨by rfl, ?_⟩) (by assumption) ?_
                rotate_left
                · ((intro w hSw; (try dsimp only at hSw); go_simp; (try rw [if_neg (by omega)])); try with_reducible rfl)
                (try simp only [Act.put, List.setIfInBounds_toArray, List.set_cons_zero, List.set_cons_succ])
                refine wpAnyH_take (i := 8) (oi := { dst := some 70, op := Op.indexAddr 46 (Operand.tmp 66) (Operand.tmp 69), type := 0, pos := "ref.go:150", after := #[{ on := 4, ground := Ground.data }, { on := 7, ground := Ground.data }], guard := none }) (v := ?_) rfl (by kernel_rfl) (by kernel_rfl) (by kernel_rfl) (fun _ _ _ h => h) (Or.inl ⟨by rfl, ?_⟩) (by assumption) ?_
                rotate_left
                · ((intro w hSw; (try dsimp only at hSw); go_simp; (try rw [if_neg (by omega)])); try with_reducible rfl)
                (try simp only [Act.put, List.setIfInBounds_toArray, List.set_cons_zero, List.set_cons_succ])
                refine wpAnyH_take (i := 9) (oi := { dst := some 71, op := Op.load 31 (Operand.tmp 70), type := 31, pos := "ref.go:150", after := #[{ on := 8, ground := Ground.data }], guard := none }) (v := ?_) rfl (by kernel_rfl) (by kernel_rfl) (by kernel_rfl) (fun _ _ _ h => h) (Or.inl ⟨by rfl, ?_⟩) (by assumption) ?_
                rotate_left
                · ((intro w hSw; (try dsimp only at hSw); go_simp; (try rw [if_neg (by omega)])); try with_reducible rfl)
                (try simp only [Act.put, List.setIfInBounds_toArray, List.set_cons_zero, List.set_cons_succ])
                refine wpAnyH_take (i := 10) (oi := { dst := some 72, op := Op.load 31 (Operand.tmp 12), type := 31, pos := "ref.go:150", after := #[], guard := none }) (v := ?_) rfl (by kernel_rfl) (by kernel_rfl) (by kernel_rfl) (fun _ _ _ h => h) (Or.inl ⟨by rfl, ?_⟩) (by assumption) ?_
                rotate_left
                · ((intro w hSw; (try dsimp only at hSw); go_simp; (try rw [if_neg (by omega)])); try with_reducible rfl)
                (try simp only [Act.put, List.setIfInBounds_toArray, List.set_cons_zero, List.set_cons_succ])
                refine wpAnyH_ready (rs := [11]) (by kernel_rfl) (by simp) ?_
                refine AllReadyH.cons (o := { dst := some 73, op := Op.call { callee := Callee.value (Operand.func 45), args := #[Operand.tmp 71, Operand.tmp 72], argTypes := #[31, 31] }, type := 31, pos := "ref.go:150", after := #[{ on := 9, ground := Ground.data }, { on := 10, ground := Ground.data }], guard := none }) rfl (fun K hK => ?_) AllReadyH.nil
                (go_simp; go_at_call 45; refine (HRO.out _).mono ?_; rintro u wz ⟨rfl, dz⟩; have hSk := HKL.out _ (bnext HD2.out dz); dsimp only)
                refine hK.out _ _ ?_ (fun hHeld => ?_)
                · exact hSk
                clear hK K
                (try simp only [Act.put, List.setIfInBounds_toArray, List.set_cons_zero, List.set_cons_succ])
                refine wpAnyH_take (i := 12) (oi := { dst := some 74, op := Op.indexAddr 46 (Operand.tmp 62) (Operand.tmp 65), type := 0, pos := "ref.go:150", after := #[{ on := 0, ground := Ground.data }, { on := 3, ground := Ground.data }, { on := 0, ground := Ground.phase }, { on := 1, ground := Ground.phase }, { on := 2, ground := Ground.phase }, { on := 3, ground := Ground.phase }, { on := 4, ground := Ground.phase }, { on := 5, ground := Ground.phase }, { on := 6, ground := Ground.phase }, { on := 7, ground := Ground.phase }, { on := 8, ground := Ground.phase }, { on := 9, ground := Ground.phase }, { on := 10, ground := Ground.phase }, { on := 11, ground := Ground.phase }], guard := none }) (v := ?_) rfl (by kernel_rfl) (by kernel_rfl) (by kernel_rfl) (fun _ _ _ h => h) (Or.inl ⟨by rfl, ?_⟩) (by assumption) ?_
                rotate_left
                · ((intro w hSw; (try dsimp only at hSw); go_simp; (try rw [if_neg (by omega)])); try with_reducible rfl)
                (try simp only [Act.put, List.setIfInBounds_toArray, List.set_cons_zero, List.set_cons_succ])
                refine wpAnyH_done (by kernel_rfl) ?_ _
                show Oper.wp _ _ _ _ _ _
                have hown := own_below HOX.out (bnext HD2.out dz)
                obtain ⟨w9, hw9, hown9, hf9⟩ := rc_set hown q (by rw [HLM.out]; have := HQ.out; omega) ⟨bx, by', bw, bh⟩
                dsimp only at hw9
                obtain ⟨y0, y1, y2, y3⟩ := (HKL.out _ (bnext HD2.out dz)).1
                have z0 := hown.frozenAt (q * 4)
                have z1 := hown.frozenAt (q * 4 + 1)
                have z2 := hown.frozenAt (q * 4 + 2)
                have z3 := hown.frozenAt (q * 4 + 3)
                have HW9 := Lib.hid hw9
                have HO9 := Lib.hid hown9
                have hX9 := hf9.nd (((bnext HD2.out dz).block X (Array.getElem?_eq_some_iff.1 HXX.out).1).trans HXX.out) HXG.out
                have hx3 : w9.cell? ⟨X, 3, none⟩ = some (.int .i64 1) := nd_cell hX9 rfl
                have HB9 : Hid (Below W.heap.size W w9) := Lib.hid (hf9.below W (bnext HBWX.out (bnext HD2.out dz)) (fun b hb => by rw [hb]; exact (HOX.out.lt gl rfl).1))
                have HRB9 : Hid (∀ r ∈ L.set q ⟨bx, by', bw, bh⟩, rb r) := Lib.hid fun r hr => by
                  rcases List.mem_or_eq_of_mem_set hr with h | h
                  · exact HRB.out r h
                  · rw [h]
                    exact HBR.out
                have HLM9 : Hid ((L.set q (⟨bx, by', bw, bh⟩ : Rc)).length = m) := Lib.hid (by rw [List.length_set, HLM.out])
                clear hHeld hown hw9 hown9 hf9 hX9
                go_simp
                go_upto_region 11 with fail
                rw [HW9.out]
                clear y0 y1 y2 y3 z0 z1 z2 z3
                go_wp2
                go_roundw
                case rel => exact ⟨k + 1, m, _, true, by go_num, rfl, hkn, by omega, HLM9, HPK2, Lib.hid (fun _ => by omega), HO9, HRB9, HB9⟩
                case measure => simp [intOf]; omega
          exact AllReadyH.nil
        exact AllReadyH.nil
      exact AllReadyH.nil
    · obtain rfl : k = n := by omega
      have hkz : ¬ (k : Int) < (k : Int) := by omega
      clear hkn
      have HPL0 : Hid (PN.red most L = PL) := Lib.hid (by rw [HPL.out, HPK.out])
      go_upto_region 14 with fail
      go_loopw [9] (fun v9 wr => ∃ (m : Nat) (L : List Rc), m ≤ 64 ∧ Hid (L.length = m) ∧ Hid (PN.red most L = PL) ∧ Hid (wr.ownsRow W.heap.size 31 4 v9 m (rcs L)) ∧ Hid (∀ r ∈ L, rb r) ∧ Hid (Below W.heap.size W wr)) (fun v _ => slLen (some v))
      case atStart => exact ⟨m, L, by omega, HLM, HPL0, HOW, HRB, HBW⟩
      case round =>
        clear HPL0 HOW HRB HBW HLM HPK HJ1 hmk
        obtain ⟨m, L, hm64, HLM, HPL0, HOW, HRB, HBW⟩ := hrel
        obtain ⟨va, vc, rfl⟩ := own_shape HOW.out
        obtain ⟨wo, hwo⟩ : ∃ wo, wo = wr := ⟨_, rfl⟩
        subst hwo
        by_cases hmm : most < m
        · have hmz : (m : Int) > (most : Int) := by omega
          obtain ⟨gl, cl, hsl, hgl1, hgl2, hcl1, hcl2⟩ := rc_own HOW.out (by omega)
          injection hsl with hsl _ hcl
          subst hsl hcl
          unfold maxLen at hcl2
          have HLO : Hid (PN.loss L 0 < 1048576) := Lib.hid (by
            have a1 := PN.area_le (PN.at_rb HRB.out (i := 0) (by rw [HLM.out]; omega))
            have a2 := PN.area_le (PN.at_rb HRB.out (i := 1) (by rw [HLM.out]; omega))
            have a3 := PN.area_le (PN.both_rb (PN.at_rb HRB.out (i := 0) (by rw [HLM.out]; omega)) (PN.at_rb HRB.out (i := 1) (by rw [HLM.out]; omega)))
            rw [show PN.loss L 0 = PN.area (PN.both (PN.at' L 0) (PN.at' L 1)) - PN.area (PN.at' L 0) - PN.area (PN.at' L 1) from rfl]
            omega)
          have HGL := Lib.hid hgl1
          clear hgl1 hgl2
          go_upto_region 18 with fail
          go_loopw [13, 14, 15] (fun v13 v14 v15 wr => ∃ k : Nat, v15 = .int .i64 (k : Int) ∧ v13 = .int .i64 (bk L k : Int) ∧ v14 = .int .i64 (lk L k) ∧ k + 1 ≤ m ∧ Hid (Below wo.heap.size wo wr)) (fun _ _ v _ => m - (intOf v).toNat)
          case atStart => exact ⟨0, rfl, rfl, rfl, by omega, Lib.hid (Below.refl _ _)⟩
          case round =>
            obtain ⟨k, rfl, rfl, rfl, hkm, HBI⟩ := hrel
            by_cases hk1 : k + 1 < m
            · have hkz : (k : Int) + 1 < (m : Int) := by omega
              obtain ⟨⟨ax, ay, aw, ah⟩, h1⟩ : ∃ r, L[k]? = some r := ⟨_, List.getElem?_eq_getElem (by rw [HLM.out]; omega)⟩
              obtain ⟨⟨bx, by', bw, bh⟩, h2⟩ : ∃ r, L[k + 1]? = some r := ⟨_, List.getElem?_eq_getElem (by rw [HLM.out]; omega)⟩
              have hra := HRB.out _ (List.mem_of_getElem? h1)
              have hrb := HRB.out _ (List.mem_of_getElem? h2)
              have hrc := PN.both_rb hra hrb
              have HLS : Hid (PN.loss L k = PN.area (PN.both ⟨ax, ay, aw, ah⟩ ⟨bx, by', bw, bh⟩) - PN.area ⟨ax, ay, aw, ah⟩ - PN.area ⟨bx, by', bw, bh⟩) := Lib.hid (by unfold PN.loss; rw [at_get h1, at_get h2])
              have ha1 := PN.area_le hra
              have ha2 := PN.area_le hrb
              have ha3 := PN.area_le hrc
              have HKS : Hid (∀ U, Below wo.heap.size wo U → (U.cell? ⟨gl, k * 4, none⟩ = some (.int .i64 ax) ∧ U.cell? ⟨gl, k * 4 + 1, none⟩ = some (.int .i64 ay) ∧ U.cell? ⟨gl, k * 4 + 2, none⟩ = some (.int .i64 aw) ∧ U.cell? ⟨gl, k * 4 + 3, none⟩ = some (.int .i64 ah)) ∧ (U.cell? ⟨gl, (k + 1) * 4, none⟩ = some (.int .i64 bx) ∧ U.cell? ⟨gl, (k + 1) * 4 + 1, none⟩ = some (.int .i64 by') ∧ U.cell? ⟨gl, (k + 1) * 4 + 2, none⟩ = some (.int .i64 bw) ∧ U.cell? ⟨gl, (k + 1) * 4 + 3, none⟩ = some (.int .i64 bh))) := Lib.hid fun U hU => ⟨rc_cells (own_below HOW.out hU) h1, rc_cells (own_below HOW.out hU) h2⟩
              have HRO := Lib.hid fun U => rboth_any U _ _ hra hrb
              have HA1 := Lib.hid fun U => rarea_any U _ hra
              have HA2 := Lib.hid fun U => rarea_any U _ hrb
              have HA3 := Lib.hid fun U => rarea_any U _ hrc
              obtain ⟨q1, hq1⟩ : ∃ q, PN.area ⟨ax, ay, aw, ah⟩ = q := ⟨_, rfl⟩
              obtain ⟨q2, hq2⟩ : ∃ q, PN.area ⟨bx, by', bw, bh⟩ = q := ⟨_, rfl⟩
              obtain ⟨q3, hq3⟩ : ∃ q, PN.area (PN.both ⟨ax, ay, aw, ah⟩ ⟨bx, by', bw, bh⟩) = q := ⟨_, rfl⟩
              rw [hq1] at HA1 HLS ha1
              rw [hq2] at HA2 HLS ha2
              rw [hq3] at HA3 HLS ha3
              obtain ⟨⟨cx, cy, cw, ch⟩, hQ⟩ : ∃ R, PN.both ⟨ax, ay, aw, ah⟩ ⟨bx, by', bw, bh⟩ = R := ⟨_, rfl⟩
              rw [hQ] at HRO HA3
              have hst := bk_step L HLO.out k
              obtain ⟨b0, hb0⟩ : ∃ b, bk L k = b := ⟨_, rfl⟩
              obtain ⟨l0, hl0⟩ : ∃ l, lk L k = l := ⟨_, rfl⟩
              rw [HLS.out, hb0, hl0] at hst
              rw [hb0, hl0]
              have HST := Lib.hid hst
              have hdr3 := bnext HBI.out (Below.drew (Below.refl wr.heap.size wr))
              obtain ⟨W3, hW3⟩ : ∃ W3, wr.drew = W3 := ⟨_, rfl⟩
              rw [hW3] at hdr3
              have HD3 := Lib.hid hdr3
              have HW0 := Lib.hid hW3
              have hi0 : (0 : Int) ≤ (k : Int) := by omega
              have hin : (k : Int) < (m : Int) := by omega
              have hi2 : (0 : Int) ≤ (k : Int) + 1 := by omega
              have hw1 : IntKind.i64.wrap ((k : Int) + 1) = (k : Int) + 1 := by rw [IntKind.wrap_i64]; omega
              have hw2 : IntKind.i64.wrap (q3 - q1) = q3 - q1 := by rw [IntKind.wrap_i64]; omega
              have hw3 : IntKind.i64.wrap (q3 - q1 - q2) = q3 - q1 - q2 := by rw [IntKind.wrap_i64]; omega
              clear hra hrb hrc h1 h2 hq1 hq2 hq3 hQ ha1 ha2 ha3 hst hb0 hl0 hdr3 hW3
              go_upto_region 20 with fail
              refine wp_region_held_drew (S := (fun w' => (w'.cell? ⟨gl, k * 4, none⟩ = some (.int .i64 ax) ∧ w'.cell? ⟨gl, k * 4 + 1, none⟩ = some (.int .i64 ay) ∧ w'.cell? ⟨gl, k * 4 + 2, none⟩ = some (.int .i64 aw) ∧ w'.cell? ⟨gl, k * 4 + 3, none⟩ = some (.int .i64 ah)) ∧ (w'.cell? ⟨gl, (k + 1) * 4, none⟩ = some (.int .i64 bx) ∧ w'.cell? ⟨gl, (k + 1) * 4 + 1, none⟩ = some (.int .i64 by') ∧ w'.cell? ⟨gl, (k + 1) * 4 + 2, none⟩ = some (.int .i64 bw) ∧ w'.cell? ⟨gl, (k + 1) * 4 + 3, none⟩ = some (.int .i64 bh)))) (by kernel_rfl) ?_ (fun hHeld => ?_)
              · (rw [HW0.out]; exact HKS.out _ HD3.out)
              rw [HW0.out] at hHeld ⊢
              refine wpAnyH_take (i := 0) (oi := { dst := some 100, op := Op.move (Operand.tmp 9), type := 46, pos := "ref.go:161", after := #[], guard := none }) (v := ?_) rfl (by kernel_rfl) (by kernel_rfl) (by kernel_rfl) (fun _ _ _ h => h) (Or.inl ⟨by rfl, ?_⟩) (by assumption) ?_
              rotate_left
              · ((intro w hSw; (try dsimp only at hSw); go_simp; (try rw [if_neg (by omega)])); try with_reducible rfl)
              (try simp only [Act.put, List.setIfInBounds_toArray, List.set_cons_zero, List.set_cons_succ])
              refine wpAnyH_take (i := 1) (oi := { dst := some 101, op := Op.move (Operand.tmp 15), type := 3, pos := "ref.go:161", after := #[], guard := none }) (v := ?_) rfl (by kernel_rfl) (by kernel_rfl) (by kernel_rfl) (fun _ _ _ h => h) (Or.inl ⟨by rfl, ?_⟩) (by assumption) ?_
              rotate_left
              · ((intro w hSw; (try dsimp only at hSw); go_simp; (try rw [if_neg (by omega)])); try with_reducible rfl)
              (try simp only [Act.put, List.setIfInBounds_toArray, List.set_cons_zero, List.set_cons_succ])
              refine wpAnyH_take (i := 2) (oi := { dst := some 102, op := Op.indexAddr 46 (Operand.tmp 100) (Operand.tmp 101), type := 0, pos := "ref.go:161", after := #[{ on := 0, ground := Ground.data }, { on := 1, ground := Ground.data }], guard := none }) (v := ?_) rfl (by kernel_rfl) (by kernel_rfl) (by kernel_rfl) (fun _ _ _ h => h) (Or.inl ⟨by rfl, ?_⟩) (by assumption) ?_
              rotate_left
              · ((intro w hSw; (try dsimp only at hSw); go_simp; (try rw [if_neg (by omega)])); try with_reducible rfl)
              (try simp only [Act.put, List.setIfInBounds_toArray, List.set_cons_zero, List.set_cons_succ])
              refine wpAnyH_take (i := 3) (oi := { dst := some 103, op := Op.load 31 (Operand.tmp 102), type := 31, pos := "ref.go:161", after := #[{ on := 2, ground := Ground.data }], guard := none }) (v := ?_) rfl (by kernel_rfl) (by kernel_rfl) (by kernel_rfl) (fun _ _ _ h => h) (Or.inl ⟨by rfl, ?_⟩) (by assumption) ?_
              rotate_left
              · ((intro w hSw; (try dsimp only at hSw); go_simp; (try rw [if_neg (by omega)])); try with_reducible rfl)
              (try simp only [Act.put, List.setIfInBounds_toArray, List.set_cons_zero, List.set_cons_succ])
              refine wpAnyH_take (i := 4) (oi := { dst := some 104, op := Op.move (Operand.tmp 9), type := 46, pos := "ref.go:161", after := #[], guard := none }) (v := ?_) rfl (by kernel_rfl) (by kernel_rfl) (by kernel_rfl) (fun _ _ _ h => h) (Or.inl ⟨by rfl, ?_⟩) (by assumption) ?_
              rotate_left
              · ((intro w hSw; (try dsimp only at hSw); go_simp; (try rw [if_neg (by omega)])); try with_reducible rfl)
              (try simp only [Act.put, List.setIfInBounds_toArray, List.set_cons_zero, List.set_cons_succ])
              refine wpAnyH_take (i := 5) (oi := { dst := some 105, op := Op.move (Operand.tmp 15), type := 3, pos := "ref.go:161", after := #[], guard := none }) (v := ?_) rfl (by kernel_rfl) (by kernel_rfl) (by kernel_rfl) (fun _ _ _ h => h) (Or.inl ⟨by rfl, ?_⟩) (by assumption) ?_
              rotate_left
              · ((intro w hSw; (try dsimp only at hSw); go_simp; (try rw [if_neg (by omega)])); try with_reducible rfl)
              (try simp only [Act.put, List.setIfInBounds_toArray, List.set_cons_zero, List.set_cons_succ])
              refine wpAnyH_take (i := 6) (oi := { dst := some 106, op := Op.binOp BinOp.add 3 (Operand.tmp 105) (Operand.const (Value.int IntKind.i64 1)) 3, type := 3, pos := "ref.go:161", after := #[{ on := 5, ground := Ground.data }], guard := none }) (v := ?_) rfl (by kernel_rfl) (by kernel_rfl) (by kernel_rfl) (fun _ _ _ h => h) (Or.inl ⟨by rfl, ?_⟩) (by assumption) ?_
              rotate_left
              · ((intro w hSw; (try dsimp only at hSw); go_simp; (try rw [if_neg (by omega)])); try with_reducible rfl)
              (try simp only [Act.put, List.setIfInBounds_toArray, List.set_cons_zero, List.set_cons_succ])
              refine wpAnyH_take (i := 7) (oi := { dst := some 107, op := Op.indexAddr 46 (Operand.tmp 104) (Operand.tmp 106), type := 0, pos := "ref.go:161", after := #[{ on := 4, ground := Ground.data }, { on := 6, ground := Ground.data }], guard := none }) (v := ?_) rfl (by kernel_rfl) (by kernel_rfl) (by kernel_rfl) (fun _ _ _ h => h) (Or.inl ⟨by rfl, ?_⟩) (by assumption) ?_
              rotate_left
              · ((intro w hSw; (try dsimp only at hSw); go_simp; (try rw [if_neg (by omega)])); try with_reducible rfl)
              (try simp only [Act.put, List.setIfInBounds_toArray, List.set_cons_zero, List.set_cons_succ])
              refine wpAnyH_take (i := 8) (oi := { dst := some 108, op := Op.load 31 (Operand.tmp 107), type := 31, pos := "ref.go:161", after := #[{ on := 7, ground := Ground.data }], guard := none }) (v := ?_) rfl (by kernel_rfl) (by kernel_rfl) (by kernel_rfl) (fun _ _ _ h => h) (Or.inl ⟨by rfl, ?_⟩) (by assumption) ?_
              rotate_left
              · ((intro w hSw; (try dsimp only at hSw); go_simp; (try rw [if_neg (by omega)])); try with_reducible rfl)
              (try simp only [Act.put, List.setIfInBounds_toArray, List.set_cons_zero, List.set_cons_succ])
              refine wpAnyH_take (i := 11) (oi := { dst := some 111, op := Op.move (Operand.tmp 9), type := 46, pos := "ref.go:161", after := #[], guard := none }) (v := ?_) rfl (by kernel_rfl) (by kernel_rfl) (by kernel_rfl) (fun _ _ _ h => h) (Or.inl ⟨by rfl, ?_⟩) (by assumption) ?_
              rotate_left
              · ((intro w hSw; (try dsimp only at hSw); go_simp; (try rw [if_neg (by omega)])); try with_reducible rfl)
              (try simp only [Act.put, List.setIfInBounds_toArray, List.set_cons_zero, List.set_cons_succ])
              refine wpAnyH_take (i := 12) (oi := { dst := some 112, op := Op.move (Operand.tmp 15), type := 3, pos := "ref.go:161", after := #[], guard := none }) (v := ?_) rfl (by kernel_rfl) (by kernel_rfl) (by kernel_rfl) (fun _ _ _ h => h) (Or.inl ⟨by rfl, ?_⟩) (by assumption) ?_
              rotate_left
              · ((intro w hSw; (try dsimp only at hSw); go_simp; (try rw [if_neg (by omega)])); try with_reducible rfl)
              (try simp only [Act.put, List.setIfInBounds_toArray, List.set_cons_zero, List.set_cons_succ])
              refine wpAnyH_take (i := 13) (oi := { dst := some 113, op := Op.indexAddr 46 (Operand.tmp 111) (Operand.tmp 112), type := 0, pos := "ref.go:161", after := #[{ on := 11, ground := Ground.data }, { on := 12, ground := Ground.data }], guard := none }) (v := ?_) rfl (by kernel_rfl) (by kernel_rfl) (by kernel_rfl) (fun _ _ _ h => h) (Or.inl ⟨by rfl, ?_⟩) (by assumption) ?_
              rotate_left
              · ((intro w hSw; (try dsimp only at hSw); go_simp; (try rw [if_neg (by omega)])); try with_reducible rfl)
              (try simp only [Act.put, List.setIfInBounds_toArray, List.set_cons_zero, List.set_cons_succ])
              refine wpAnyH_take (i := 14) (oi := { dst := some 114, op := Op.load 31 (Operand.tmp 113), type := 31, pos := "ref.go:161", after := #[{ on := 13, ground := Ground.data }], guard := none }) (v := ?_) rfl (by kernel_rfl) (by kernel_rfl) (by kernel_rfl) (fun _ _ _ h => h) (Or.inl ⟨by rfl, ?_⟩) (by assumption) ?_
              rotate_left
              · ((intro w hSw; (try dsimp only at hSw); go_simp; (try rw [if_neg (by omega)])); try with_reducible rfl)
              (try simp only [Act.put, List.setIfInBounds_toArray, List.set_cons_zero, List.set_cons_succ])
              refine wpAnyH_take (i := 17) (oi := { dst := some 117, op := Op.move (Operand.tmp 9), type := 46, pos := "ref.go:161", after := #[], guard := none }) (v := ?_) rfl (by kernel_rfl) (by kernel_rfl) (by kernel_rfl) (fun _ _ _ h => h) (Or.inl ⟨by rfl, ?_⟩) (by assumption) ?_
              rotate_left
              · ((intro w hSw; (try dsimp only at hSw); go_simp; (try rw [if_neg (by omega)])); try with_reducible rfl)
              (try simp only [Act.put, List.setIfInBounds_toArray, List.set_cons_zero, List.set_cons_succ])
              refine wpAnyH_take (i := 18) (oi := { dst := some 118, op := Op.move (Operand.tmp 15), type := 3, pos := "ref.go:161", after := #[], guard := none }) (v := ?_) rfl (by kernel_rfl) (by kernel_rfl) (by kernel_rfl) (fun _ _ _ h => h) (Or.inl ⟨by rfl, ?_⟩) (by assumption) ?_
              rotate_left
              · ((intro w hSw; (try dsimp only at hSw); go_simp; (try rw [if_neg (by omega)])); try with_reducible rfl)
              (try simp only [Act.put, List.setIfInBounds_toArray, List.set_cons_zero, List.set_cons_succ])
              refine wpAnyH_take (i := 19) (oi := { dst := some 119, op := Op.binOp BinOp.add 3 (Operand.tmp 118) (Operand.const (Value.int IntKind.i64 1)) 3, type := 3, pos := "ref.go:161", after := #[{ on := 18, ground := Ground.data }], guard := none }) (v := ?_) rfl (by kernel_rfl) (by kernel_rfl) (by kernel_rfl) (fun _ _ _ h => h) (Or.inl ⟨by rfl, ?_⟩) (by assumption) ?_
              rotate_left
              · ((intro w hSw; (try dsimp only at hSw); go_simp; (try rw [if_neg (by omega)])); try with_reducible rfl)
              (try simp only [Act.put, List.setIfInBounds_toArray, List.set_cons_zero, List.set_cons_succ])
              refine wpAnyH_take (i := 20) (oi := { dst := some 120, op := Op.indexAddr 46 (Operand.tmp 117) (Operand.tmp 119), type := 0, pos := "ref.go:161", after := #[{ on := 17, ground := Ground.data }, { on := 19, ground := Ground.data }], guard := none }) (v := ?_) rfl (by kernel_rfl) (by kernel_rfl) (by kernel_rfl) (fun _ _ _ h => h) (Or.inl ⟨by rfl, ?_⟩) (by assumption) ?_
              rotate_left
              · ((intro w hSw; (try dsimp only at hSw); go_simp; (try rw [if_neg (by omega)])); try with_reducible rfl)
              (try simp only [Act.put, List.setIfInBounds_toArray, List.set_cons_zero, List.set_cons_succ])
              refine wpAnyH_take (i := 21) (oi := { dst := some 121, op := Op.load 31 (Operand.tmp 120), type := 31, pos := "ref.go:161", after := #[{ on := 20, ground := Ground.data }], guard := none }) (v := ?_) rfl (by kernel_rfl) (by kernel_rfl) (by kernel_rfl) (fun _ _ _ h => h) (Or.inl ⟨by rfl, ?_⟩) (by assumption) ?_
              rotate_left
              · ((intro w hSw; (try dsimp only at hSw); go_simp; (try rw [if_neg (by omega)])); try with_reducible rfl)
              (try simp only [Act.put, List.setIfInBounds_toArray, List.set_cons_zero, List.set_cons_succ])
              refine wpAnyH_ready (rs := [9]) (by kernel_rfl) (by simp) ?_
              refine AllReadyH.cons (o := { dst := some 109, op := Op.call { callee := Callee.value (Operand.func 45), args := #[Operand.tmp 103, Operand.tmp 108], argTypes := #[31, 31] }, type := 31, pos := "ref.go:161", after := #[{ on := 3, ground := Ground.data }, { on := 8, ground := Ground.data }], guard := none }) rfl (fun K hK => ?_) ?_
              · (go_simp; go_at_call 45; refine (HRO.out _).mono ?_; rintro u wz1 ⟨rfl, dz⟩; have bz1 := bnext HD3.out dz; dsimp only)
                refine hK.out _ _ ?_ (fun hHeld => ?_)
                · exact HKS.out _ bz1
                clear hK K
                (try simp only [Act.put, List.setIfInBounds_toArray, List.set_cons_zero, List.set_cons_succ])
                refine wpAnyH_ready (rs := [10]) (by kernel_rfl) (by simp) ?_
                refine AllReadyH.cons (o := { dst := some 110, op := Op.call { callee := Callee.value (Operand.func 46), args := #[Operand.tmp 109], argTypes := #[31] }, type := 3, pos := "ref.go:161", after := #[{ on := 9, ground := Ground.data }, { on := 9, ground := Ground.chain }], guard := none }) rfl (fun K hK => ?_) ?_
                · (go_simp; go_at_call 46; refine (HA3.out _).mono ?_; rintro u wz2 ⟨rfl, dz⟩; have bz2 := bnext bz1 dz; dsimp only)
                  refine hK.out _ _ ?_ (fun hHeld => ?_)
                  · exact HKS.out _ bz2
                  clear hK K
                  (try simp only [Act.put, List.setIfInBounds_toArray, List.set_cons_zero, List.set_cons_succ])
                  refine wpAnyH_ready (rs := [15]) (by kernel_rfl) (by simp) ?_
                  refine AllReadyH.cons (o := { dst := some 115, op := Op.call { callee := Callee.value (Operand.func 46), args := #[Operand.tmp 114], argTypes := #[31] }, type := 3, pos := "ref.go:161", after := #[{ on := 14, ground := Ground.data }, { on := 10, ground := Ground.chain }], guard := none }) rfl (fun K hK => ?_) ?_
                  · (go_simp; go_at_call 46; refine (HA1.out _).mono ?_; rintro u wz3 ⟨rfl, dz⟩; have bz3 := bnext bz2 dz; dsimp only)
                    refine hK.out _ _ ?_ (fun hHeld => ?_)
                    · exact HKS.out _ bz3
                    clear hK K
                    (try simp only [Act.put, List.setIfInBounds_toArray, List.set_cons_zero, List.set_cons_succ])
                    refine wpAnyH_take (i := 16) (oi := { dst := some 116, op := Op.binOp BinOp.sub 3 (Operand.tmp 110) (Operand.tmp 115) 3, type := 3, pos := "ref.go:161", after := #[{ on := 10, ground := Ground.data }, { on := 15, ground := Ground.data }], guard := none }) (v := ?_) rfl (by kernel_rfl) (by kernel_rfl) (by kernel_rfl) (fun _ _ _ h => h) (Or.inl ⟨by rfl, ?_⟩) (by assumption) ?_
                    rotate_left
                    · ((intro w hSw; (try dsimp only at hSw); go_simp; (try rw [if_neg (by omega)])); try with_reducible rfl)
                    (try simp only [Act.put, List.setIfInBounds_toArray, List.set_cons_zero, List.set_cons_succ])
                    refine wpAnyH_ready (rs := [22]) (by kernel_rfl) (by simp) ?_
                    refine AllReadyH.cons (o := { dst := some 122, op := Op.call { callee := Callee.value (Operand.func 46), args := #[Operand.tmp 121], argTypes := #[31] }, type := 3, pos := "ref.go:161", after := #[{ on := 21, ground := Ground.data }, { on := 15, ground := Ground.chain }], guard := none }) rfl (fun K hK => ?_) ?_
                    · (go_simp; go_at_call 46; refine (HA2.out _).mono ?_; rintro u wz4 ⟨rfl, dz⟩; have bz4 := bnext bz3 dz; dsimp only)
                      refine hK.out _ _ ?_ (fun hHeld => ?_)
                      · exact HKS.out _ bz4
                      clear hK K
                      (try simp only [Act.put, List.setIfInBounds_toArray, List.set_cons_zero, List.set_cons_succ])
                      refine wpAnyH_take (i := 23) (oi := { dst := some 123, op := Op.binOp BinOp.sub 3 (Operand.tmp 116) (Operand.tmp 122) 3, type := 3, pos := "ref.go:161", after := #[{ on := 16, ground := Ground.data }, { on := 22, ground := Ground.data }], guard := none }) (v := ?_) rfl (by kernel_rfl) (by kernel_rfl) (by kernel_rfl) (fun _ _ _ h => h) (Or.inl ⟨by rfl, ?_⟩) (by assumption) ?_
                      rotate_left
                      · ((intro w hSw; (try dsimp only at hSw); go_simp; (try rw [if_neg (by omega)])); try with_reducible rfl)
                      (try simp only [Act.put, List.setIfInBounds_toArray, List.set_cons_zero, List.set_cons_succ])
                      refine wpAnyH_take (i := 24) (oi := { dst := some 16, op := Op.assign (Operand.tmp 123), type := 3, pos := "ref.go:161", after := #[{ on := 23, ground := Ground.data }, { on := 22, ground := Ground.chain }, { on := 0, ground := Ground.phase }, { on := 1, ground := Ground.phase }, { on := 2, ground := Ground.phase }, { on := 3, ground := Ground.phase }, { on := 4, ground := Ground.phase }, { on := 5, ground := Ground.phase }, { on := 6, ground := Ground.phase }, { on := 7, ground := Ground.phase }, { on := 8, ground := Ground.phase }, { on := 9, ground := Ground.phase }, { on := 10, ground := Ground.phase }, { on := 11, ground := Ground.phase }, { on := 12, ground := Ground.phase }, { on := 13, ground := Ground.phase }, { on := 14, ground := Ground.phase }, { on := 15, ground := Ground.phase }, { on := 16, ground := Ground.phase }, { on := 17, ground := Ground.phase }, { on := 18, ground := Ground.phase }, { on := 19, ground := Ground.phase }, { on := 20, ground := Ground.phase }, { on := 21, ground := Ground.phase }, { on := 22, ground := Ground.phase }, { on := 23, ground := Ground.phase }], guard := none }) (v := ?_) rfl (by kernel_rfl) (by kernel_rfl) (by kernel_rfl) (fun _ _ _ h => h) (Or.inl ⟨by rfl, ?_⟩) (by assumption) ?_
                      rotate_left
                      · ((intro w hSw; (try dsimp only at hSw); go_simp; (try rw [if_neg (by omega)])); try with_reducible rfl)
                      (try simp only [Act.put, List.setIfInBounds_toArray, List.set_cons_zero, List.set_cons_succ])
                      refine wpAnyH_done (by kernel_rfl) ?_ _
                      have HB4 := Lib.hid bz4
                      clear hHeld bz1 bz2 bz3 bz4
                      by_cases hlt : q3 - q1 - q2 < l0
                      · obtain ⟨e1, e2⟩ := HST.out.1 hlt
                        have HE1 := Lib.hid e1
                        have HE2 := Lib.hid e2
                        clear e1 e2
                        go_wp2
                        go_roundw
                        case rel => exact ⟨k + 1, by go_num, by rw [HE1.out], by rw [HE2.out], hk1, HB4⟩
                        case measure => simp [intOf]; omega
                      · obtain ⟨e1, e2⟩ := HST.out.2 hlt
                        have HE1 := Lib.hid e1
                        have HE2 := Lib.hid e2
                        clear e1 e2
                        go_wp2
                        go_roundw
                        case rel => exact ⟨k + 1, by go_num, by rw [HE1.out], by rw [HE2.out], hk1, HB4⟩
                        case measure => simp [intOf]; omega
                    exact AllReadyH.nil
                  exact AllReadyH.nil
                exact AllReadyH.nil
              exact AllReadyH.nil
            · have hkz : ¬ (k : Int) + 1 < (m : Int) := by omega
              have HBK : Hid (bk L k = PN.bst L (L.length - 2)) := Lib.hid (by
                obtain ⟨j, rfl⟩ : ∃ j, k = j + 1 := ⟨k - 1, by omega⟩
                show PN.bst L j = _
                rw [HLM.out, show m - 2 = j by omega])
              have hbl : bk L k ≤ m - 2 := by rw [HBK.out]; have := PN.bst_le L (L.length - 2); rw [HLM.out] at this ⊢; exact this
              obtain ⟨b, hb⟩ : ∃ b, bk L k = b := ⟨_, rfl⟩
              obtain ⟨lz, hlz⟩ : ∃ z, lk L k = z := ⟨_, rfl⟩
              rw [hb] at HBK hbl ⊢
              rw [hlz]
              clear hb hlz
              obtain ⟨⟨ax, ay, aw, ah⟩, h1⟩ : ∃ r, L[b]? = some r := ⟨_, List.getElem?_eq_getElem (by rw [HLM.out]; omega)⟩
              obtain ⟨⟨bx, by', bw, bh⟩, h2⟩ : ∃ r, L[b + 1]? = some r := ⟨_, List.getElem?_eq_getElem (by rw [HLM.out]; omega)⟩
              have hra := HRB.out _ (List.mem_of_getElem? h1)
              have hrb := HRB.out _ (List.mem_of_getElem? h2)
              have HRO := Lib.hid fun U => rboth_any U _ _ hra hrb
              have HKS : Hid (∀ U, Below wo.heap.size wo U → (U.cell? ⟨gl, b * 4, none⟩ = some (.int .i64 ax) ∧ U.cell? ⟨gl, b * 4 + 1, none⟩ = some (.int .i64 ay) ∧ U.cell? ⟨gl, b * 4 + 2, none⟩ = some (.int .i64 aw) ∧ U.cell? ⟨gl, b * 4 + 3, none⟩ = some (.int .i64 ah)) ∧ (U.cell? ⟨gl, (b + 1) * 4, none⟩ = some (.int .i64 bx) ∧ U.cell? ⟨gl, (b + 1) * 4 + 1, none⟩ = some (.int .i64 by') ∧ U.cell? ⟨gl, (b + 1) * 4 + 2, none⟩ = some (.int .i64 bw) ∧ U.cell? ⟨gl, (b + 1) * 4 + 3, none⟩ = some (.int .i64 bh))) := Lib.hid fun U hU => ⟨rc_cells (own_below HOW.out hU) h1, rc_cells (own_below HOW.out hU) h2⟩
              obtain ⟨⟨cx, cy, cw, ch⟩, hQ⟩ : ∃ R, PN.both ⟨ax, ay, aw, ah⟩ ⟨bx, by', bw, bh⟩ = R := ⟨_, rfl⟩
              rw [hQ] at HRO
              have HJN : Hid (PN.jn1 L = (L.set b ⟨cx, cy, cw, ch⟩).take (b + 1) ++ L.drop (b + 2)) := Lib.hid (by
                unfold PN.jn1
                rw [← HBK.out]
                exact jn_set L b (by rw [HLM.out]; omega) _ (by rw [at_get h1, at_get h2, hQ]))
              have HJL : Hid ((PN.jn1 L).length = m - 1) := Lib.hid (by have := PN.jn1_len (l := L) (by rw [HLM.out]; omega); rw [HLM.out] at this; omega)
              have HJR : Hid (∀ r ∈ PN.jn1 L, rb r) := Lib.hid (PN.jn1_rb HRB.out (by rw [HLM.out]; omega))
              have HJP : Hid (PN.red most (PN.jn1 L) = PL) := Lib.hid (by rw [← PN.red_go (by rw [HLM.out]; exact hmm) hm1]; exact HPL0.out)
              have hdr3 := bnext HBI.out (Below.drew (Below.refl wr.heap.size wr))
              obtain ⟨W3, hW3⟩ : ∃ W3, wr.drew = W3 := ⟨_, rfl⟩
              rw [hW3] at hdr3
              have HD3 := Lib.hid hdr3
              have HW3 := Lib.hid hW3
              have hb00 : (0 : Int) ≤ (b : Int) := by omega
              have hin : (b : Int) < (m : Int) := by omega
              have hi2 : (0 : Int) ≤ (b : Int) + 1 := by omega
              have hin1 : (b : Int) + 1 < (m : Int) := by omega
              have hi3 : (0 : Int) ≤ (b : Int) + 2 := by omega
              have hin2 : (b : Int) + 2 ≤ (m : Int) := by omega
              have hin3 : (b : Int) + 1 ≤ (vc : Int) := by omega
              have hw1 : IntKind.i64.wrap ((b : Int) + 1) = (b : Int) + 1 := by rw [IntKind.wrap_i64]; omega
              have hw2 : IntKind.i64.wrap ((b : Int) + 2) = (b : Int) + 2 := by rw [IntKind.wrap_i64]; omega
              clear hra hrb h1 h2 hQ hdr3 hW3
              go_upto_region 24 with fail
              refine wp_region_last #[{ dst := some 129, op := Op.move (Operand.tmp 9), type := 46, pos := "ref.go:167", after := #[], guard := none }, { dst := some 130, op := Op.move (Operand.tmp 13), type := 3, pos := "ref.go:167", after := #[], guard := none }, { dst := some 131, op := Op.move (Operand.tmp 9), type := 46, pos := "ref.go:167", after := #[], guard := none }, { dst := some 132, op := Op.move (Operand.tmp 13), type := 3, pos := "ref.go:167", after := #[], guard := none }, { dst := some 133, op := Op.indexAddr 46 (Operand.tmp 131) (Operand.tmp 132), type := 0, pos := "ref.go:167", after := #[{ on := 2, ground := Ground.data }, { on := 3, ground := Ground.data }], guard := none }, { dst := some 134, op := Op.load 31 (Operand.tmp 133), type := 31, pos := "ref.go:167", after := #[{ on := 4, ground := Ground.data }], guard := none }, { dst := some 135, op := Op.move (Operand.tmp 9), type := 46, pos := "ref.go:167", after := #[], guard := none }, { dst := some 136, op := Op.move (Operand.tmp 13), type := 3, pos := "ref.go:167", after := #[], guard := none }, { dst := some 137, op := Op.binOp BinOp.add 3 (Operand.tmp 136) (Operand.const (Value.int IntKind.i64 1)) 3, type := 3, pos := "ref.go:167", after := #[{ on := 7, ground := Ground.data }], guard := none }, { dst := some 138, op := Op.indexAddr 46 (Operand.tmp 135) (Operand.tmp 137), type := 0, pos := "ref.go:167", after := #[{ on := 6, ground := Ground.data }, { on := 8, ground := Ground.data }], guard := none }, { dst := some 139, op := Op.load 31 (Operand.tmp 138), type := 31, pos := "ref.go:167", after := #[{ on := 9, ground := Ground.data }], guard := none }, { dst := some 140, op := Op.call { callee := Callee.value (Operand.func 45), args := #[Operand.tmp 134, Operand.tmp 139], argTypes := #[31, 31] }, type := 31, pos := "ref.go:167", after := #[{ on := 5, ground := Ground.data }, { on := 10, ground := Ground.data }], guard := none }, { dst := some 141, op := Op.indexAddr 46 (Operand.tmp 129) (Operand.tmp 130), type := 0, pos := "ref.go:167", after := #[{ on := 0, ground := Ground.data }, { on := 1, ground := Ground.data }, { on := 0, ground := Ground.phase }, { on := 1, ground := Ground.phase }, { on := 2, ground := Ground.phase }, { on := 3, ground := Ground.phase }, { on := 4, ground := Ground.phase }, { on := 5, ground := Ground.phase }, { on := 6, ground := Ground.phase }, { on := 7, ground := Ground.phase }, { on := 8, ground := Ground.phase }, { on := 9, ground := Ground.phase }, { on := 10, ground := Ground.phase }, { on := 11, ground := Ground.phase }], guard := none }] { dst := none, op := Op.store 31 (Operand.tmp 141) (Operand.tmp 140), type := 0, pos := "ref.go:167", after := #[{ on := 12, ground := Ground.data }, { on := 11, ground := Ground.data }, { on := 11, ground := Ground.chain }, { on := 0, ground := Ground.phase }, { on := 1, ground := Ground.phase }, { on := 2, ground := Ground.phase }, { on := 3, ground := Ground.phase }, { on := 4, ground := Ground.phase }, { on := 5, ground := Ground.phase }, { on := 6, ground := Ground.phase }, { on := 7, ground := Ground.phase }, { on := 8, ground := Ground.phase }, { on := 9, ground := Ground.phase }, { on := 10, ground := Ground.phase }, { on := 11, ground := Ground.phase }], guard := none } rfl (by kernel_rfl) (by kernel_rfl) ((fun w' => (w'.cell? ⟨gl, b * 4, none⟩ = some (.int .i64 ax) ∧ w'.cell? ⟨gl, b * 4 + 1, none⟩ = some (.int .i64 ay) ∧ w'.cell? ⟨gl, b * 4 + 2, none⟩ = some (.int .i64 aw) ∧ w'.cell? ⟨gl, b * 4 + 3, none⟩ = some (.int .i64 ah)) ∧ (w'.cell? ⟨gl, (b + 1) * 4, none⟩ = some (.int .i64 bx) ∧ w'.cell? ⟨gl, (b + 1) * 4 + 1, none⟩ = some (.int .i64 by') ∧ w'.cell? ⟨gl, (b + 1) * 4 + 2, none⟩ = some (.int .i64 bw) ∧ w'.cell? ⟨gl, (b + 1) * 4 + 3, none⟩ = some (.int .i64 bh)))) ?_ (fun hHeld => ?_)
              · (rw [HW3.out]; exact HKS.out _ HD3.out)
              rw [HW3.out] at hHeld ⊢
              refine wpAnyH_take (i := 0) (oi := { dst := some 129, op := Op.move (Operand.tmp 9), type := 46, pos := "ref.go:167", after := #[], guard := none }) (v := ?_) rfl (by kernel_rfl) (by kernel_rfl) (by kernel_rfl) (fun _ _ _ h => h) (Or.inl ⟨by rfl, ?_⟩) (by assumption) ?_
              rotate_left
              · ((intro w hSw; (try dsimp only at hSw); go_simp; (try rw [if_neg (by omega)])); try with_reducible rfl)
              (try simp only [Act.put, List.setIfInBounds_toArray, List.set_cons_zero, List.set_cons_succ])
              refine wpAnyH_take (i := 1) (oi := { dst := some 130, op := Op.move (Operand.tmp 13), type := 3, pos := "ref.go:167", after := #[], guard := none }) (v := ?_) rfl (by kernel_rfl) (by kernel_rfl) (by kernel_rfl) (fun _ _ _ h => h) (Or.inl ⟨by rfl, ?_⟩) (by assumption) ?_
              rotate_left
              · ((intro w hSw; (try dsimp only at hSw); go_simp; (try rw [if_neg (by omega)])); try with_reducible rfl)
              (try simp only [Act.put, List.setIfInBounds_toArray, List.set_cons_zero, List.set_cons_succ])
              refine wpAnyH_take (i := 2) (oi := { dst := some 131, op := Op.move (Operand.tmp 9), type := 46, pos := "ref.go:167", after := #[], guard := none }) (v := ?_) rfl (by kernel_rfl) (by kernel_rfl) (by kernel_rfl) (fun _ _ _ h => h) (Or.inl ⟨by rfl, ?_⟩) (by assumption) ?_
              rotate_left
              · ((intro w hSw; (try dsimp only at hSw); go_simp; (try rw [if_neg (by omega)])); try with_reducible rfl)
              (try simp only [Act.put, List.setIfInBounds_toArray, List.set_cons_zero, List.set_cons_succ])
              refine wpAnyH_take (i := 3) (oi := { dst := some 132, op := Op.move (Operand.tmp 13), type := 3, pos := "ref.go:167", after := #[], guard := none }) (v := ?_) rfl (by kernel_rfl) (by kernel_rfl) (by kernel_rfl) (fun _ _ _ h => h) (Or.inl ⟨by rfl, ?_⟩) (by assumption) ?_
              rotate_left
              · ((intro w hSw; (try dsimp only at hSw); go_simp; (try rw [if_neg (by omega)])); try with_reducible rfl)
              (try simp only [Act.put, List.setIfInBounds_toArray, List.set_cons_zero, List.set_cons_succ])
              refine wpAnyH_take (i := 4) (oi := { dst := some 133, op := Op.indexAddr 46 (Operand.tmp 131) (Operand.tmp 132), type := 0, pos := "ref.go:167", after := #[{ on := 2, ground := Ground.data }, { on := 3, ground := Ground.data }], guard := none }) (v := ?_) rfl (by kernel_rfl) (by kernel_rfl) (by kernel_rfl) (fun _ _ _ h => h) (Or.inl ⟨by rfl, ?_⟩) (by assumption) ?_
              rotate_left
              · ((intro w hSw; (try dsimp only at hSw); go_simp; (try rw [if_neg (by omega)])); try with_reducible rfl)
              (try simp only [Act.put, List.setIfInBounds_toArray, List.set_cons_zero, List.set_cons_succ])
              refine wpAnyH_take (i := 5) (oi := { dst := some 134, op := Op.load 31 (Operand.tmp 133), type := 31, pos := "ref.go:167", after := #[{ on := 4, ground := Ground.data }], guard := none }) (v := ?_) rfl (by kernel_rfl) (by kernel_rfl) (by kernel_rfl) (fun _ _ _ h => h) (Or.inl ⟨by rfl, ?_⟩) (by assumption) ?_
              rotate_left
              · ((intro w hSw; (try dsimp only at hSw); go_simp; (try rw [if_neg (by omega)])); try with_reducible rfl)
              (try simp only [Act.put, List.setIfInBounds_toArray, List.set_cons_zero, List.set_cons_succ])
              refine wpAnyH_take (i := 6) (oi := { dst := some 135, op := Op.move (Operand.tmp 9), type := 46, pos := "ref.go:167", after := #[], guard := none }) (v := ?_) rfl (by kernel_rfl) (by kernel_rfl) (by kernel_rfl) (fun _ _ _ h => h) (Or.inl ⟨by rfl, ?_⟩) (by assumption) ?_
              rotate_left
              · ((intro w hSw; (try dsimp only at hSw); go_simp; (try rw [if_neg (by omega)])); try with_reducible rfl)
              (try simp only [Act.put, List.setIfInBounds_toArray, List.set_cons_zero, List.set_cons_succ])
              refine wpAnyH_take (i := 7) (oi := { dst := some 136, op := Op.move (Operand.tmp 13), type := 3, pos := "ref.go:167", after := #[], guard := none }) (v := ?_) rfl (by kernel_rfl) (by kernel_rfl) (by kernel_rfl) (fun _ _ _ h => h) (Or.inl ⟨by rfl, ?_⟩) (by assumption) ?_
              rotate_left
              · ((intro w hSw; (try dsimp only at hSw); go_simp; (try rw [if_neg (by omega)])); try with_reducible rfl)
              (try simp only [Act.put, List.setIfInBounds_toArray, List.set_cons_zero, List.set_cons_succ])
              refine wpAnyH_take (i := 8) (oi := { dst := some 137, op := Op.binOp BinOp.add 3 (Operand.tmp 136) (Operand.const (Value.int IntKind.i64 1)) 3, type := 3, pos := "ref.go:167", after := #[{ on := 7, ground := Ground.data }], guard := none }) (v := ?_) rfl (by kernel_rfl) (by kernel_rfl) (by kernel_rfl) (fun _ _ _ h => h) (Or.inl ⟨by rfl, ?_⟩) (by assumption) ?_
              rotate_left
              · ((intro w hSw; (try dsimp only at hSw); go_simp; (try rw [if_neg (by omega)])); try with_reducible rfl)
              (try simp only [Act.put, List.setIfInBounds_toArray, List.set_cons_zero, List.set_cons_succ])
              refine wpAnyH_take (i := 9) (oi := { dst := some 138, op := Op.indexAddr 46 (Operand.tmp 135) (Operand.tmp 137), type := 0, pos := "ref.go:167", after := #[{ on := 6, ground := Ground.data }, { on := 8, ground := Ground.data }], guard := none }) (v := ?_) rfl (by kernel_rfl) (by kernel_rfl) (by kernel_rfl) (fun _ _ _ h => h) (Or.inl ⟨by rfl, ?_⟩) (by assumption) ?_
              rotate_left
              · ((intro w hSw; (try dsimp only at hSw); go_simp; (try rw [if_neg (by omega)])); try with_reducible rfl)
              (try simp only [Act.put, List.setIfInBounds_toArray, List.set_cons_zero, List.set_cons_succ])
              refine wpAnyH_take (i := 10) (oi := { dst := some 139, op := Op.load 31 (Operand.tmp 138), type := 31, pos := "ref.go:167", after := #[{ on := 9, ground := Ground.data }], guard := none }) (v := ?_) rfl (by kernel_rfl) (by kernel_rfl) (by kernel_rfl) (fun _ _ _ h => h) (Or.inl ⟨by rfl, ?_⟩) (by assumption) ?_
              rotate_left
              · ((intro w hSw; (try dsimp only at hSw); go_simp; (try rw [if_neg (by omega)])); try with_reducible rfl)
              (try simp only [Act.put, List.setIfInBounds_toArray, List.set_cons_zero, List.set_cons_succ])
              refine wpAnyH_ready (rs := [11]) (by kernel_rfl) (by simp) ?_
              refine AllReadyH.cons (o := { dst := some 140, op := Op.call { callee := Callee.value (Operand.func 45), args := #[Operand.tmp 134, Operand.tmp 139], argTypes := #[31, 31] }, type := 31, pos := "ref.go:167", after := #[{ on := 5, ground := Ground.data }, { on := 10, ground := Ground.data }], guard := none }) rfl (fun K hK => ?_) AllReadyH.nil
              (go_simp; go_at_call 45; refine (HRO.out _).mono ?_; rintro u wz ⟨rfl, dz⟩; have hSk := HKS.out _ (bnext HD3.out dz); dsimp only)
              refine hK.out _ _ ?_ (fun hHeld => ?_)
              · exact hSk
              clear hK K
              (try simp only [Act.put, List.setIfInBounds_toArray, List.set_cons_zero, List.set_cons_succ])
              refine wpAnyH_take (i := 12) (oi := { dst := some 141, op := Op.indexAddr 46 (Operand.tmp 129) (Operand.tmp 130), type := 0, pos := "ref.go:167", after := #[{ on := 0, ground := Ground.data }, { on := 1, ground := Ground.data }, { on := 0, ground := Ground.phase }, { on := 1, ground := Ground.phase }, { on := 2, ground := Ground.phase }, { on := 3, ground := Ground.phase }, { on := 4, ground := Ground.phase }, { on := 5, ground := Ground.phase }, { on := 6, ground := Ground.phase }, { on := 7, ground := Ground.phase }, { on := 8, ground := Ground.phase }, { on := 9, ground := Ground.phase }, { on := 10, ground := Ground.phase }, { on := 11, ground := Ground.phase }], guard := none }) (v := ?_) rfl (by kernel_rfl) (by kernel_rfl) (by kernel_rfl) (fun _ _ _ h => h) (Or.inl ⟨by rfl, ?_⟩) (by assumption) ?_
              rotate_left
              · ((intro w hSw; (try dsimp only at hSw); go_simp; (try rw [if_neg (by omega)])); try with_reducible rfl)
              (try simp only [Act.put, List.setIfInBounds_toArray, List.set_cons_zero, List.set_cons_succ])
              refine wpAnyH_done (by kernel_rfl) ?_ _
              show Oper.wp _ _ _ _ _ _
              have hown := own_below HOW.out (bnext HD3.out dz)
              obtain ⟨w9, hw9, hown9, hf9⟩ := rc_set hown b (by rw [HLM.out]; omega) ⟨cx, cy, cw, ch⟩
              dsimp only at hw9
              obtain ⟨y0, y1, y2, y3⟩ := (HKS.out _ (bnext HD3.out dz)).1
              have z0 := hown.frozenAt (b * 4)
              have z1 := hown.frozenAt (b * 4 + 1)
              have z2 := hown.frozenAt (b * 4 + 2)
              have z3 := hown.frozenAt (b * 4 + 3)
              have HW9 := Lib.hid hw9
              have HO9 := Lib.hid hown9
              have HB9 : Hid (Below W.heap.size W w9) := Lib.hid (hf9.below W (bnext HBW.out (bnext HD3.out dz)) (fun b hb => by rw [hb]; exact HGL.out))
              clear hHeld hown hw9 hown9 hf9
              go_simp
              go_upto_region 25 with fail
              rw [HW9.out]
              clear y0 y1 y2 y3 z0 z1 z2 z3
              have hdr4 := Below.drew (Below.refl w9.heap.size w9)
              obtain ⟨W4, hW4⟩ : ∃ W4, w9.drew = W4 := ⟨_, rfl⟩
              rw [hW4] at hdr4
              have HD4 := Lib.hid hdr4
              have HW0 := Lib.hid hW4
              have hL2 : (L.set b (⟨cx, cy, cw, ch⟩ : Rc)).length = m := by rw [List.length_set, HLM.out]
              have HOT : Hid (W4.ownsRow W.heap.size 31 4 (.slice (some ⟨gl, 0, none⟩) (b + 1) vc) (b + 1) (rcs ((L.set b ⟨cx, cy, cw, ch⟩).take (b + 1)))) := Lib.hid (by
                have := own_take (own_below HO9.out hdr4) (m := b + 1) (by omega)
                rw [rcs_take _ _ (by rw [hL2]; omega)] at this
                exact this)
              have HSD : Hid (SrcN 4 W4 (.slice (if vc = b + 2 then some (⟨gl, 0, none⟩ : Addr) else some ⟨gl, (b + 2) * 4, none⟩) (m - (b + 2)) (vc - (b + 2))) (m - (b + 2)) (rcs (L.drop (b + 2)))) := Lib.hid (by
                have := (own_srcN (own_below HO9.out hdr4)).drop (m := b + 2) (ad := if vc = b + 2 then some (⟨gl, 0, none⟩ : Addr) else some ⟨gl, (b + 2) * 4, none⟩) (by omega) (fun g' e hlt => by
                  injection e with e
                  injection e with e1 e2
                  subst e1
                  rw [if_neg (by omega)]) (fun g' o e => by injection e with e; injection e with e1 e2; exact e2.symm) (fun e => by split at e <;> cases e)
                rw [rcs_drop _ _ (by rw [hL2]; omega), List.drop_set_of_lt (by omega)] at this
                exact this)
              have HC2 := Lib.hid (rcs_cells (L.drop (b + 2)))
              clear hdr4 hW4 hL2
              refine wp_region_held_drew (S := (fun w' => True)) (by kernel_rfl) ?_ (fun hHeld => ?_)
              · exact trivial
              rw [HW0.out]
              refine wpAnyH_take (i := 0) (oi := { dst := some 142, op := Op.move (Operand.tmp 9), type := 46, pos := "ref.go:168", after := #[], guard := none }) (v := ?_) rfl (by kernel_rfl) (by kernel_rfl) (by kernel_rfl) (fun _ _ _ h => h) (Or.inl ⟨by rfl, ?_⟩) (by assumption) ?_
              rotate_left
              · ((intro w hSw; (try dsimp only at hSw); go_simp; (try rw [if_neg (by omega)])); try with_reducible rfl)
              (try simp only [Act.put, List.setIfInBounds_toArray, List.set_cons_zero, List.set_cons_succ])
              refine wpAnyH_take (i := 1) (oi := { dst := some 143, op := Op.move (Operand.tmp 13), type := 3, pos := "ref.go:168", after := #[], guard := none }) (v := ?_) rfl (by kernel_rfl) (by kernel_rfl) (by kernel_rfl) (fun _ _ _ h => h) (Or.inl ⟨by rfl, ?_⟩) (by assumption) ?_
              rotate_left
              · ((intro w hSw; (try dsimp only at hSw); go_simp; (try rw [if_neg (by omega)])); try with_reducible rfl)
              (try simp only [Act.put, List.setIfInBounds_toArray, List.set_cons_zero, List.set_cons_succ])
              refine wpAnyH_take (i := 2) (oi := { dst := some 144, op := Op.binOp BinOp.add 3 (Operand.tmp 143) (Operand.const (Value.int IntKind.i64 1)) 3, type := 3, pos := "ref.go:168", after := #[{ on := 1, ground := Ground.data }], guard := none }) (v := ?_) rfl (by kernel_rfl) (by kernel_rfl) (by kernel_rfl) (fun _ _ _ h => h) (Or.inl ⟨by rfl, ?_⟩) (by assumption) ?_
              rotate_left
              · ((intro w hSw; (try dsimp only at hSw); go_simp; (try rw [if_neg (by omega)])); try with_reducible rfl)
              (try simp only [Act.put, List.setIfInBounds_toArray, List.set_cons_zero, List.set_cons_succ])
              refine wpAnyH_take (i := 3) (oi := { dst := some 145, op := Op.slice 46 (Operand.tmp 142) none (some (Operand.tmp 144)) none, type := 46, pos := "ref.go:168", after := #[{ on := 0, ground := Ground.data }, { on := 2, ground := Ground.data }], guard := none }) (v := ?_) rfl (by kernel_rfl) (by kernel_rfl) (by kernel_rfl) (fun _ _ _ h => h) (Or.inl ⟨by rfl, ?_⟩) (by assumption) ?_
              rotate_left
              · ((intro w hSw; (try dsimp only at hSw); go_simp; (try rw [if_neg (by omega)])); try with_reducible rfl)
              (try simp only [Act.put, List.setIfInBounds_toArray, List.set_cons_zero, List.set_cons_succ])
              refine wpAnyH_take (i := 4) (oi := { dst := some 146, op := Op.move (Operand.tmp 9), type := 46, pos := "ref.go:168", after := #[], guard := none }) (v := ?_) rfl (by kernel_rfl) (by kernel_rfl) (by kernel_rfl) (fun _ _ _ h => h) (Or.inl ⟨by rfl, ?_⟩) (by assumption) ?_
              rotate_left
              · ((intro w hSw; (try dsimp only at hSw); go_simp; (try rw [if_neg (by omega)])); try with_reducible rfl)
              (try simp only [Act.put, List.setIfInBounds_toArray, List.set_cons_zero, List.set_cons_succ])
              refine wpAnyH_take (i := 5) (oi := { dst := some 147, op := Op.move (Operand.tmp 13), type := 3, pos := "ref.go:168", after := #[], guard := none }) (v := ?_) rfl (by kernel_rfl) (by kernel_rfl) (by kernel_rfl) (fun _ _ _ h => h) (Or.inl ⟨by rfl, ?_⟩) (by assumption) ?_
              rotate_left
              · ((intro w hSw; (try dsimp only at hSw); go_simp; (try rw [if_neg (by omega)])); try with_reducible rfl)
              (try simp only [Act.put, List.setIfInBounds_toArray, List.set_cons_zero, List.set_cons_succ])
              refine wpAnyH_take (i := 6) (oi := { dst := some 148, op := Op.binOp BinOp.add 3 (Operand.tmp 147) (Operand.const (Value.int IntKind.i64 2)) 3, type := 3, pos := "ref.go:168", after := #[{ on := 5, ground := Ground.data }], guard := none }) (v := ?_) rfl (by kernel_rfl) (by kernel_rfl) (by kernel_rfl) (fun _ _ _ h => h) (Or.inl ⟨by rfl, ?_⟩) (by assumption) ?_
              rotate_left
              · ((intro w hSw; (try dsimp only at hSw); go_simp; (try rw [if_neg (by omega)])); try with_reducible rfl)
              (try simp only [Act.put, List.setIfInBounds_toArray, List.set_cons_zero, List.set_cons_succ])
              refine wpAnyH_take (i := 7) (oi := { dst := some 149, op := Op.slice 46 (Operand.tmp 146) (some (Operand.tmp 148)) none none, type := 46, pos := "ref.go:168", after := #[{ on := 4, ground := Ground.data }, { on := 6, ground := Ground.data }], guard := none }) (v := ?_) rfl (by kernel_rfl) (by kernel_rfl) (by kernel_rfl) (fun _ _ _ h => h) (Or.inl ⟨by rfl, ?_⟩) (by assumption) ?_
              rotate_left
              · ((intro w hSw; (try dsimp only at hSw); go_simp; (try rw [if_neg (by omega)])); try with_reducible rfl)
              (try simp only [Act.put, List.setIfInBounds_toArray, List.set_cons_zero, List.set_cons_succ])
              refine wpAnyH_ready (rs := [8]) (by kernel_rfl) (by simp) ?_
              refine AllReadyH.cons (o := { dst := some 150, op := Op.call { callee := Callee.builtin Builtin.append, args := #[Operand.tmp 145, Operand.tmp 149], argTypes := #[46, 46] }, type := 46, pos := "ref.go:168", after := #[{ on := 3, ground := Ground.data }, { on := 7, ground := Ground.data }], guard := none }) rfl (fun K hK => ?_) ?_
              · (refine step_appN (by rfl) _ _ _ (by rfl) W.heap.size 31 i0 _ 4 32 Tryd.underlying46 hi0 hz0 hz1 hz2 rfl (by decide) (.slice (some ⟨gl, 0, none⟩) (b + 1) vc) (b + 1) (rcs ((L.set b ⟨cx, cy, cw, ch⟩).take (b + 1))) (by rfl) HOT.out _ (m - (b + 2)) (rcs (L.drop (b + 2))) (by rfl) HSD.out HC2.out (by unfold maxLen; omega) (by omega) (bnext HB9.out HD4.out).size ?_; intro v6 w6 hown6 hgrow hat)
                refine hK.out _ _ ?_ (fun hHeld => ?_)
                · exact trivial
                clear hK K
                (try simp only [Act.put, List.setIfInBounds_toArray, List.set_cons_zero, List.set_cons_succ])
                refine wpAnyH_take (i := 9) (oi := { dst := some 9, op := Op.assign (Operand.tmp 150), type := 46, pos := "ref.go:168", after := #[{ on := 8, ground := Ground.data }, { on := 8, ground := Ground.chain }, { on := 0, ground := Ground.phase }, { on := 1, ground := Ground.phase }, { on := 2, ground := Ground.phase }, { on := 3, ground := Ground.phase }, { on := 4, ground := Ground.phase }, { on := 5, ground := Ground.phase }, { on := 6, ground := Ground.phase }, { on := 7, ground := Ground.phase }, { on := 8, ground := Ground.phase }], guard := none }) (v := ?_) rfl (by kernel_rfl) (by kernel_rfl) (by kernel_rfl) (fun _ _ _ h => h) (Or.inl ⟨by rfl, ?_⟩) (by assumption) ?_
                rotate_left
                · ((intro w hSw; (try dsimp only at hSw); go_simp; (try rw [if_neg (by omega)])); try with_reducible rfl)
                (try simp only [Act.put, List.setIfInBounds_toArray, List.set_cons_zero, List.set_cons_succ])
                refine wpAnyH_done (by kernel_rfl) ?_ _
                obtain ⟨va6, vc6, rfl⟩ := own_shape hown6
                have HO6 : Hid (w6.ownsRow W.heap.size 31 4 (.slice va6 (b + 1 + (m - (b + 2))) vc6) (m - 1) (rcs (PN.jn1 L))) := Lib.hid (by
                  rw [HJN.out, rcs_app]
                  have h6 := hown6
                  rw [show b + 1 + (m - (b + 2)) = m - 1 by omega] at h6 ⊢
                  exact h6)
                have HB6 : Hid (Below W.heap.size W w6) := Lib.hid ((bnext HB9.out HD4.out).grown hgrow (bnext HB9.out HD4.out).size (fun q e => (HOT.out.lt q e).1))
                have HME : Hid (b + 1 + (m - (b + 2)) < m) := Lib.hid (by omega)
                clear hHeld hown6 hgrow hat
                go_wp2
                go_roundw
                case rel => exact ⟨m - 1, PN.jn1 L, by omega, HJL, HJP, HO6, HJR, HB6⟩
                case measure => exact HME.out
              exact AllReadyH.nil
        · have hmz : ¬ (m : Int) > (most : Int) := by omega
          have HLE : Hid (PL = L) := Lib.hid (by rw [← HPL0.out, PN.red_end (by rw [HLM.out]; exact hmm)])
          clear hmm
          go_wp2
          go_ret
          exact ⟨_, rfl, by rw [HLE.out, HLM.out]; exact HOW.out, HBW.out⟩
end Go.Proofs.YtmiennkldkcnfaaDoor

