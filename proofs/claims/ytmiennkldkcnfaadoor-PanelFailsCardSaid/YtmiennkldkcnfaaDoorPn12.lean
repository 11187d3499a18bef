/- Two neighbours that lose the least are joined. No conditions. -/
import Derived.Test.YtmiennkldkcnfaaDoorPn11
namespace Go.Proofs.YtmiennkldkcnfaaDoor
set_option maxRecDepth 100000
set_option linter.unusedVariables false
open Go.RowKit Go.Deep
theorem SrcN.drop {k : Nat} {W : World} {a ad : Option Addr} {n c m : Nat} {U : List Value} (h : SrcN k W (.slice a n c) n U) (hm : m ≤ n) (hd : ∀ g, a = some ⟨g, 0, none⟩ → m < n → ad = some ⟨g, m * k, none⟩) (ha : ∀ g o, a = some ⟨g, o, none⟩ → o = 0) (hz : ad = none → c - m = 0) : SrcN k W (.slice ad (n - m) (c - m)) (n - m) (U.drop (m * k)) := by
  obtain ⟨ao, c', e, hl, h⟩ := h
  injection e with e1 e2 e3
  subst e1 e3
  refine ⟨ad, c - m, rfl, by rw [List.length_drop, hl, Nat.sub_mul], ?_⟩
  rcases Nat.lt_or_ge m n with hlt | hge
  · rcases h with ⟨h, h'⟩ | ⟨g, o, e2, hg, hc⟩
    · omega
    · obtain rfl := ha g o e2
      refine .inr ⟨g, m * k, hd g e2 hlt, hg, fun j u hu => ?_⟩
      rw [List.getElem?_drop] at hu
      have := hc _ u hu
      rwa [Nat.zero_add] at this
  · exact .inl ⟨by omega, hz⟩
theorem rcs_take (L : List Rc) (m : Nat) (h : m ≤ L.length) : (rcs L).take (m * 4) = rcs (L.take m) := by
  have h1 : rcs L = rcs (L.take m) ++ rcs (L.drop m) := by rw [← rcs_app, List.take_append_drop]
  have h2 : (rcs (L.take m)).length = m * 4 := by rw [rcs_len, List.length_take, Nat.min_eq_left h]
  rw [h1, ← h2, List.take_left]
theorem rcs_drop (L : List Rc) (m : Nat) (h : m ≤ L.length) : (rcs L).drop (m * 4) = rcs (L.drop m) := by
  have h1 : rcs L = rcs (L.take m) ++ rcs (L.drop m) := by rw [← rcs_app, List.take_append_drop]
  have h2 : (rcs (L.take m)).length = m * 4 := by rw [rcs_len, List.length_take, Nat.min_eq_left h]
  rw [h1, ← h2, List.drop_left]
theorem at_get {L : List Rc} {i : Nat} {r : Rc} (h : L[i]? = some r) : PN.at' L i = r := by unfold PN.at'; rw [List.getD_eq_getElem?_getD, h]; rfl
set_option maxHeartbeats 2000000 in
theorem loss_any (W : World) (X : Nat) (L : List Rc) (a : Option Addr) (n c i : Nat) (hX : W.cell? ⟨X, 0, none⟩ = some (.slice a n c)) (hL : SrcN 4 W (.slice a n c) n (rcs L)) (hn : L.length = n) (hn1 : n ≤ 1000) (hi : i + 1 < n) (hr : ∀ r ∈ L, rb r) :
    Calls Tryd.prog 60 #[.int .i64 (i : Int), .pointer (some ⟨X, 0, none⟩)] W fun e w' => e = .returned (.int .i64 (PN.loss L i)) ∧ Below W.heap.size W w' := by
  obtain ⟨⟨ax, ay, aw, ah⟩, h1⟩ : ∃ r, L[i]? = some r := ⟨_, List.getElem?_eq_getElem (by omega)⟩
  obtain ⟨⟨bx, by', bw, bh⟩, h2⟩ : ∃ r, L[i + 1]? = some r := ⟨_, List.getElem?_eq_getElem (by omega)⟩
  have hra := hr _ (List.mem_of_getElem? h1)
  have hrb := hr _ (List.mem_of_getElem? h2)
  have hrc := PN.both_rb hra hrb
  have HLS : Hid (PN.loss L i = PN.area (PN.both ⟨ax, ay, aw, ah⟩ ⟨bx, by', bw, bh⟩) - PN.area ⟨ax, ay, aw, ah⟩ - PN.area ⟨bx, by', bw, bh⟩) := Lib.hid (by unfold PN.loss; rw [at_get h1, at_get h2])
  have ha1 := PN.area_le hra
  have ha2 := PN.area_le hrb
  have ha3 := PN.area_le hrc
  obtain ⟨g, o, rfl, hg, k0, k1, k2, k3⟩ := rc_at hL h1
  obtain ⟨g', o', e, -, l0, l1, l2, l3⟩ := rc_at hL h2
  injection e with e
  injection e with e1 e2
  subst e1 e2
  obtain ⟨p, hp⟩ : ∃ p, o + i * 4 = p := ⟨_, rfl⟩
  rw [show o + (i + 1) * 4 = p + 4 by omega] at l0 l1 l2 l3
  rw [hp] at k0 k1 k2 k3
  have hXl := World.block_lt_of_cell? _ _ hX
  have HKS : Hid (∀ U, Below W.heap.size W U → U.cell? ⟨X, 0, none⟩ = some (.slice (some ⟨g, o, none⟩) n c) ∧ U.cell? ⟨g, p, none⟩ = some (.int .i64 ax) ∧ U.cell? ⟨g, p + 1, none⟩ = some (.int .i64 ay) ∧ U.cell? ⟨g, p + 2, none⟩ = some (.int .i64 aw) ∧ U.cell? ⟨g, p + 3, none⟩ = some (.int .i64 ah) ∧ U.cell? ⟨g, p + 4, none⟩ = some (.int .i64 bx) ∧ U.cell? ⟨g, p + 4 + 1, none⟩ = some (.int .i64 by') ∧ U.cell? ⟨g, p + 4 + 2, none⟩ = some (.int .i64 bw) ∧ U.cell? ⟨g, p + 4 + 3, none⟩ = some (.int .i64 bh)) := Lib.hid fun U hU =>
    ⟨(hU.cell (p := ⟨X, 0, none⟩) hXl).trans hX, (hU.cell (p := ⟨g, p, none⟩) hg).trans k0, (hU.cell (p := ⟨g, p + 1, none⟩) hg).trans k1, (hU.cell (p := ⟨g, p + 2, none⟩) hg).trans k2, (hU.cell (p := ⟨g, p + 3, none⟩) hg).trans k3, (hU.cell (p := ⟨g, p + 4, none⟩) hg).trans l0, (hU.cell (p := ⟨g, p + 4 + 1, none⟩) hg).trans l1, (hU.cell (p := ⟨g, p + 4 + 2, none⟩) hg).trans l2, (hU.cell (p := ⟨g, p + 4 + 3, none⟩) hg).trans l3⟩
  have HRO : Hid (∀ U : World, Calls Tryd.prog 59 #[rcV ⟨ax, ay, aw, ah⟩, .slice (some ⟨U.heap.size, 0, none⟩) 1 1] (U.alloc (.cells #[.int .i64 bx, .int .i64 by', .int .i64 bw, .int .i64 bh] 31)) fun e w' => e = .returned (rcV (PN.both ⟨ax, ay, aw, ah⟩ ⟨bx, by', bw, bh⟩)) ∧ Below (U.alloc (.cells #[.int .i64 bx, .int .i64 by', .int .i64 bw, .int .i64 bh] 31)).heap.size (U.alloc (.cells #[.int .i64 bx, .int .i64 by', .int .i64 bw, .int .i64 bh] 31)) w') := Lib.hid fun U =>
    around_any _ ⟨ax, ay, aw, ah⟩ [⟨bx, by', bw, bh⟩] _ 1 rfl (srcN_new U (rcs [⟨bx, by', bw, bh⟩]) 31 4 1 1 rfl) hra (fun r h => by rw [List.mem_singleton.1 h]; exact hrb) (by decide)
  have HA1 := Lib.hid fun U => area_any U _ hra
  have HA2 := Lib.hid fun U => area_any U _ hrb
  have HA3 := Lib.hid fun U => area_any U _ hrc
  obtain ⟨q1, hq1⟩ : ∃ q, PN.area ⟨ax, ay, aw, ah⟩ = q := ⟨_, rfl⟩
  obtain ⟨q2, hq2⟩ : ∃ q, PN.area ⟨bx, by', bw, bh⟩ = q := ⟨_, rfl⟩
  obtain ⟨q3, hq3⟩ : ∃ q, PN.area (PN.both ⟨ax, ay, aw, ah⟩ ⟨bx, by', bw, bh⟩) = q := ⟨_, rfl⟩
  rw [hq1] at HA1 HLS ha1
  rw [hq2] at HA2 HLS ha2
  rw [hq3] at HA3 HLS ha3
  obtain ⟨⟨cx, cy, cw, ch⟩, hQ⟩ : ∃ R, PN.both ⟨ax, ay, aw, ah⟩ ⟨bx, by', bw, bh⟩ = R := ⟨_, rfl⟩
  rw [hQ] at HRO HA3
  have hD := Below.drew (Below.refl W.heap.size W)
  obtain ⟨W0, hW0⟩ : ∃ W0, W.drew = W0 := ⟨_, rfl⟩
  rw [hW0] at hD
  have HD := Lib.hid hD
  have HW0 := Lib.hid hW0
  clear hD hW0
  have hi0 : (0 : Int) ≤ (i : Int) := by omega
  have hin : (i : Int) < (n : Int) := by omega
  have hin2 : (i : Int) + 1 < (n : Int) := by omega
  have hi2 : (0 : Int) ≤ (i : Int) + 1 := by omega
  have hw1 : IntKind.i64.wrap ((i : Int) + 1) = (i : Int) + 1 := by rw [IntKind.wrap_i64]; omega
  have hw2 : IntKind.i64.wrap (q3 - q1) = q3 - q1 := by rw [IntKind.wrap_i64]; omega
  have hw3 : IntKind.i64.wrap (q3 - q1 - q2) = q3 - q1 - q2 := by rw [IntKind.wrap_i64]; omega
  have hpp1 : o + i * 4 = p := hp
  have hpp2 : o + (i + 1) * 4 = p + 4 := by omega
  clear hra hrb hrc h1 h2 hr hL hX hg k0 k1 k2 k3 l0 l1 l2 l3 hXl hq1 hq2 hq3 hQ hp ha1 ha2 ha3
  go_enter Tryd.func60, Tryd.ntmps60
  go_upto_region 1 with fail
  refine wp_region_held_drew (S := (fun w' => w'.cell? ⟨X, 0, none⟩ = some (.slice (some ⟨g, o, none⟩) n c) ∧ w'.cell? ⟨g, p, none⟩ = some (.int .i64 ax) ∧ w'.cell? ⟨g, p + 1, none⟩ = some (.int .i64 ay) ∧ w'.cell? ⟨g, p + 2, none⟩ = some (.int .i64 aw) ∧ w'.cell? ⟨g, p + 3, none⟩ = some (.int .i64 ah) ∧ w'.cell? ⟨g, p + 4, none⟩ = some (.int .i64 bx) ∧ w'.cell? ⟨g, p + 4 + 1, none⟩ = some (.int .i64 by') ∧ w'.cell? ⟨g, p + 4 + 2, none⟩ = some (.int .i64 bw) ∧ w'.cell? ⟨g, p + 4 + 3, none⟩ = some (.int .i64 bh))) (by kernel_rfl) ?_ (fun hHeld => ?_)
  · (rw [HW0.out]; exact HKS.out _ HD.out)
  rw [HW0.out] at hHeld ⊢
  refine wpAnyH_take (i := 0) (oi := { dst := some 4, op := Op.load 46 (Operand.tmp 1), type := 46, pos := "plan.go:59", after := #[], guard := none }) (v := ?_) rfl (by kernel_rfl) (by kernel_rfl) (by kernel_rfl) (fun _ _ _ h => h) (Or.inl ⟨by rfl, ?_⟩) (by assumption) ?_
  rotate_left
  · ((intro w hSw; (try dsimp only at hSw); go_simp; (try rw [if_neg (by omega)])); try with_reducible rfl)
  (try simp only [Act.put, List.setIfInBounds_toArray, List.set_cons_zero, List.set_cons_succ])
  refine wpAnyH_take (i := 1) (oi := { dst := some 5, op := Op.move (Operand.tmp 0), type := 3, pos := "plan.go:59", after := #[], guard := none }) (v := ?_) rfl (by kernel_rfl) (by kernel_rfl) (by kernel_rfl) (fun _ _ _ h => h) (Or.inl ⟨by rfl, ?_⟩) (by assumption) ?_
  rotate_left
  · ((intro w hSw; (try dsimp only at hSw); go_simp; (try rw [if_neg (by omega)])); try with_reducible rfl)
  (try simp only [Act.put, List.setIfInBounds_toArray, List.set_cons_zero, List.set_cons_succ])
  refine wpAnyH_take (i := 2) (oi := { dst := some 6, op := Op.indexAddr 46 (Operand.tmp 4) (Operand.tmp 5), type := 0, pos := "plan.go:59", after := #[{ on := 0, ground := Ground.data }, { on := 1, ground := Ground.data }], guard := none }) (v := ?_) rfl (by kernel_rfl) (by kernel_rfl) (by kernel_rfl) (fun _ _ _ h => h) (Or.inl ⟨by rfl, ?_⟩) (by assumption) ?_
  rotate_left
  · ((intro w hSw; (try dsimp only at hSw); go_simp; (try rw [if_neg (by omega)])); try with_reducible rfl)
  (try simp only [Act.put, List.setIfInBounds_toArray, List.set_cons_zero, List.set_cons_succ])
  refine wpAnyH_take (i := 3) (oi := { dst := some 7, op := Op.load 31 (Operand.tmp 6), type := 31, pos := "plan.go:59", after := #[{ on := 2, ground := Ground.data }], guard := none }) (v := ?_) rfl (by kernel_rfl) (by kernel_rfl) (by kernel_rfl) (fun _ _ _ h => h) (Or.inl ⟨by rfl, ?_⟩) (by assumption) ?_
  rotate_left
  · ((intro w hSw; (try dsimp only at hSw); go_simp; (try rw [if_neg (by omega)])); try with_reducible rfl)
  (try simp only [Act.put, List.setIfInBounds_toArray, List.set_cons_zero, List.set_cons_succ])
  refine wpAnyH_take (i := 4) (oi := { dst := some 8, op := Op.load 46 (Operand.tmp 1), type := 46, pos := "plan.go:59", after := #[], guard := none }) (v := ?_) rfl (by kernel_rfl) (by kernel_rfl) (by kernel_rfl) (fun _ _ _ h => h) (Or.inl ⟨by rfl, ?_⟩) (by assumption) ?_
  rotate_left
  · ((intro w hSw; (try dsimp only at hSw); go_simp; (try rw [if_neg (by omega)])); try with_reducible rfl)
  (try simp only [Act.put, List.setIfInBounds_toArray, List.set_cons_zero, List.set_cons_succ])
  refine wpAnyH_take (i := 5) (oi := { dst := some 9, op := Op.move (Operand.tmp 0), type := 3, pos := "plan.go:59", after := #[], guard := none }) (v := ?_) rfl (by kernel_rfl) (by kernel_rfl) (by kernel_rfl) (fun _ _ _ h => h) (Or.inl ⟨by rfl, ?_⟩) (by assumption) ?_
  rotate_left
  · ((intro w hSw; (try dsimp only at hSw); go_simp; (try rw [if_neg (by omega)])); try with_reducible rfl)
  (try simp only [Act.put, List.setIfInBounds_toArray, List.set_cons_zero, List.set_cons_succ])
  refine wpAnyH_take (i := 6) (oi := { dst := some 10, op := Op.binOp BinOp.add 3 (Operand.tmp 9) (Operand.const (Value.int IntKind.i64 1)) 3, type := 3, pos := "plan.go:59", after := #[{ on := 5, ground := Ground.data }], guard := none }) (v := ?_) rfl (by kernel_rfl) (by kernel_rfl) (by kernel_rfl) (fun _ _ _ h => h) (Or.inl ⟨by rfl, ?_⟩) (by assumption) ?_
  rotate_left
  · ((intro w hSw; (try dsimp only at hSw); go_simp; (try rw [if_neg (by omega)])); try with_reducible rfl)
  (try simp only [Act.put, List.setIfInBounds_toArray, List.set_cons_zero, List.set_cons_succ])
  refine wpAnyH_take (i := 7) (oi := { dst := some 11, op := Op.indexAddr 46 (Operand.tmp 8) (Operand.tmp 10), type := 0, pos := "plan.go:59", after := #[{ on := 4, ground := Ground.data }, { on := 6, ground := Ground.data }], guard := none }) (v := ?_) rfl (by kernel_rfl) (by kernel_rfl) (by kernel_rfl) (fun _ _ _ h => h) (Or.inl ⟨by rfl, ?_⟩) (by assumption) ?_
  rotate_left
  · ((intro w hSw; (try dsimp only at hSw); go_simp; (try rw [if_neg (by omega)])); try with_reducible rfl)
  (try simp only [Act.put, List.setIfInBounds_toArray, List.set_cons_zero, List.set_cons_succ])
  refine wpAnyH_take (i := 8) (oi := { dst := some 12, op := Op.load 31 (Operand.tmp 11), type := 31, pos := "plan.go:59", after := #[{ on := 7, ground := Ground.data }], guard := none }) (v := ?_) rfl (by kernel_rfl) (by kernel_rfl) (by kernel_rfl) (fun _ _ _ h => h) (Or.inl ⟨by rfl, ?_⟩) (by assumption) ?_
  rotate_left
  · ((intro w hSw; (try dsimp only at hSw); go_simp; (try rw [if_neg (by omega)])); try with_reducible rfl)
  (try simp only [Act.put, List.setIfInBounds_toArray, List.set_cons_zero, List.set_cons_succ])
  refine wpAnyH_take (i := 12) (oi := { dst := some 16, op := Op.load 46 (Operand.tmp 1), type := 46, pos := "plan.go:59", after := #[], guard := none }) (v := ?_) rfl (by kernel_rfl) (by kernel_rfl) (by kernel_rfl) (fun _ _ _ h => h) (Or.inl ⟨by rfl, ?_⟩) (by assumption) ?_
  rotate_left
  · ((intro w hSw; (try dsimp only at hSw); go_simp; (try rw [if_neg (by omega)])); try with_reducible rfl)
  (try simp only [Act.put, List.setIfInBounds_toArray, List.set_cons_zero, List.set_cons_succ])
  refine wpAnyH_take (i := 13) (oi := { dst := some 17, op := Op.move (Operand.tmp 0), type := 3, pos := "plan.go:59", after := #[], guard := none }) (v := ?_) rfl (by kernel_rfl) (by kernel_rfl) (by kernel_rfl) (fun _ _ _ h => h) (Or.inl ⟨by rfl, ?_⟩) (by assumption) ?_
  rotate_left
  · ((intro w hSw; (try dsimp only at hSw); go_simp; (try rw [if_neg (by omega)])); try with_reducible rfl)
  (try simp only [Act.put, List.setIfInBounds_toArray, List.set_cons_zero, List.set_cons_succ])
  refine wpAnyH_take (i := 14) (oi := { dst := some 18, op := Op.indexAddr 46 (Operand.tmp 16) (Operand.tmp 17), type := 0, pos := "plan.go:59", after := #[{ on := 12, ground := Ground.data }, { on := 13, ground := Ground.data }], guard := none }) (v := ?_) rfl (by kernel_rfl) (by kernel_rfl) (by kernel_rfl) (fun _ _ _ h => h) (Or.inl ⟨by rfl, ?_⟩) (by assumption) ?_
  rotate_left
  · ((intro w hSw; (try dsimp only at hSw); go_simp; (try rw [if_neg (by omega)])); try with_reducible rfl)
  (try simp only [Act.put, List.setIfInBounds_toArray, List.set_cons_zero, List.set_cons_succ])
  refine wpAnyH_take (i := 15) (oi := { dst := some 19, op := Op.load 31 (Operand.tmp 18), type := 31, pos := "plan.go:59", after := #[{ on := 14, ground := Ground.data }], guard := none }) (v := ?_) rfl (by kernel_rfl) (by kernel_rfl) (by kernel_rfl) (fun _ _ _ h => h) (Or.inl ⟨by rfl, ?_⟩) (by assumption) ?_
  rotate_left
  · ((intro w hSw; (try dsimp only at hSw); go_simp; (try rw [if_neg (by omega)])); try with_reducible rfl)
  (try simp only [Act.put, List.setIfInBounds_toArray, List.set_cons_zero, List.set_cons_succ])
  refine wpAnyH_take (i := 18) (oi := { dst := some 22, op := Op.load 46 (Operand.tmp 1), type := 46, pos := "plan.go:59", after := #[], guard := none }) (v := ?_) rfl (by kernel_rfl) (by kernel_rfl) (by kernel_rfl) (fun _ _ _ h => h) (Or.inl ⟨by rfl, ?_⟩) (by assumption) ?_
  rotate_left
  · ((intro w hSw; (try dsimp only at hSw); go_simp; (try rw [if_neg (by omega)])); try with_reducible rfl)
  (try simp only [Act.put, List.setIfInBounds_toArray, List.set_cons_zero, List.set_cons_succ])
  refine wpAnyH_take (i := 19) (oi := { dst := some 23, op := Op.move (Operand.tmp 0), type := 3, pos := "plan.go:59", after := #[], guard := none }) (v := ?_) rfl (by kernel_rfl) (by kernel_rfl) (by kernel_rfl) (fun _ _ _ h => h) (Or.inl ⟨by rfl, ?_⟩) (by assumption) ?_
  rotate_left
  · ((intro w hSw; (try dsimp only at hSw); go_simp; (try rw [if_neg (by omega)])); try with_reducible rfl)
  (try simp only [Act.put, List.setIfInBounds_toArray, List.set_cons_zero, List.set_cons_succ])
  refine wpAnyH_take (i := 20) (oi := { dst := some 24, op := Op.binOp BinOp.add 3 (Operand.tmp 23) (Operand.const (Value.int IntKind.i64 1)) 3, type := 3, pos := "plan.go:59", after := #[{ on := 19, ground := Ground.data }], guard := none }) (v := ?_) rfl (by kernel_rfl) (by kernel_rfl) (by kernel_rfl) (fun _ _ _ h => h) (Or.inl ⟨by rfl, ?_⟩) (by assumption) ?_
  rotate_left
  · ((intro w hSw; (try dsimp only at hSw); go_simp; (try rw [if_neg (by omega)])); try with_reducible rfl)
  (try simp only [Act.put, List.setIfInBounds_toArray, List.set_cons_zero, List.set_cons_succ])
  refine wpAnyH_take (i := 21) (oi := { dst := some 25, op := Op.indexAddr 46 (Operand.tmp 22) (Operand.tmp 24), type := 0, pos := "plan.go:59", after := #[{ on := 18, ground := Ground.data }, { on := 20, ground := Ground.data }], guard := none }) (v := ?_) rfl (by kernel_rfl) (by kernel_rfl) (by kernel_rfl) (fun _ _ _ h => h) (Or.inl ⟨by rfl, ?_⟩) (by assumption) ?_
  rotate_left
  · ((intro w hSw; (try dsimp only at hSw); go_simp; (try rw [if_neg (by omega)])); try with_reducible rfl)
  (try simp only [Act.put, List.setIfInBounds_toArray, List.set_cons_zero, List.set_cons_succ])
  refine wpAnyH_take (i := 22) (oi := { dst := some 26, op := Op.load 31 (Operand.tmp 25), type := 31, pos := "plan.go:59", after := #[{ on := 21, ground := Ground.data }], guard := none }) (v := ?_) rfl (by kernel_rfl) (by kernel_rfl) (by kernel_rfl) (fun _ _ _ h => h) (Or.inl ⟨by rfl, ?_⟩) (by assumption) ?_
  rotate_left
  · ((intro w hSw; (try dsimp only at hSw); go_simp; (try rw [if_neg (by omega)])); try with_reducible rfl)
  (try simp only [Act.put, List.setIfInBounds_toArray, List.set_cons_zero, List.set_cons_succ])
  refine wpAnyH_ready (rs := [9]) (by kernel_rfl) (by simp) ?_
  refine AllReadyH.cons (o := { dst := some 13, op := Op.buildSlice 46 1 #[(0, Operand.tmp 12)], type := 46, pos := "plan.go:59", after := #[{ on := 8, ground := Ground.data }], guard := none }) rfl (fun K hK => ?_) ?_
  · (go_simp; have bz := balloc HD.out (.cells #[.int .i64 bx, .int .i64 by', .int .i64 bw, .int .i64 bh] 31))
    refine hK.out _ _ ?_ (fun hHeld => ?_)
    · exact HKS.out _ bz
    clear hK K
    (try simp only [Act.put, List.setIfInBounds_toArray, List.set_cons_zero, List.set_cons_succ])
    refine wpAnyH_ready (rs := [10]) (by kernel_rfl) (by simp) ?_
    refine AllReadyH.cons (o := { dst := some 14, op := Op.call { callee := Callee.value (Operand.func 59), args := #[Operand.tmp 7, Operand.tmp 13], argTypes := #[31, 46] }, type := 31, pos := "plan.go:59", after := #[{ on := 3, ground := Ground.data }, { on := 9, ground := Ground.data }], guard := none }) rfl (fun K hK => ?_) ?_
    · (go_simp; go_at_call 59; refine (HRO.out _).mono ?_; rintro u wz1 ⟨rfl, dz⟩; have bz1 := bnext bz dz; dsimp only)
      refine hK.out _ _ ?_ (fun hHeld => ?_)
      · exact HKS.out _ bz1
      clear hK K
      (try simp only [Act.put, List.setIfInBounds_toArray, List.set_cons_zero, List.set_cons_succ])
      refine wpAnyH_ready (rs := [11]) (by kernel_rfl) (by simp) ?_
      refine AllReadyH.cons (o := { dst := some 15, op := Op.call { callee := Callee.value (Operand.func 61), args := #[Operand.tmp 14], argTypes := #[31] }, type := 3, pos := "plan.go:59", after := #[{ on := 10, ground := Ground.data }, { on := 10, ground := Ground.chain }], guard := none }) rfl (fun K hK => ?_) ?_
      · (go_simp; go_at_call 61; refine (HA3.out _).mono ?_; rintro u wz2 ⟨rfl, dz⟩; have bz2 := bnext bz1 dz; dsimp only)
        refine hK.out _ _ ?_ (fun hHeld => ?_)
        · exact HKS.out _ bz2
        clear hK K
        (try simp only [Act.put, List.setIfInBounds_toArray, List.set_cons_zero, List.set_cons_succ])
        refine wpAnyH_ready (rs := [16]) (by kernel_rfl) (by simp) ?_
        refine AllReadyH.cons (o := { dst := some 20, op := Op.call { callee := Callee.value (Operand.func 61), args := #[Operand.tmp 19], argTypes := #[31] }, type := 3, pos := "plan.go:59", after := #[{ on := 15, ground := Ground.data }, { on := 11, ground := Ground.chain }], guard := none }) rfl (fun K hK => ?_) ?_
        · (go_simp; go_at_call 61; refine (HA1.out _).mono ?_; rintro u wz3 ⟨rfl, dz⟩; have bz3 := bnext bz2 dz; dsimp only)
          refine hK.out _ _ ?_ (fun hHeld => ?_)
          · exact HKS.out _ bz3
          clear hK K
          (try simp only [Act.put, List.setIfInBounds_toArray, List.set_cons_zero, List.set_cons_succ])
          refine wpAnyH_take (i := 17) (oi := { dst := some 21, op := Op.binOp BinOp.sub 3 (Operand.tmp 15) (Operand.tmp 20) 3, type := 3, pos := "plan.go:59", after := #[{ on := 11, ground := Ground.data }, { on := 16, ground := Ground.data }], guard := none }) (v := ?_) rfl (by kernel_rfl) (by kernel_rfl) (by kernel_rfl) (fun _ _ _ h => h) (Or.inl ⟨by rfl, ?_⟩) (by assumption) ?_
          rotate_left
          · ((intro w hSw; (try dsimp only at hSw); go_simp; (try rw [if_neg (by omega)])); try with_reducible rfl)
          (try simp only [Act.put, List.setIfInBounds_toArray, List.set_cons_zero, List.set_cons_succ])
          refine wpAnyH_ready (rs := [23]) (by kernel_rfl) (by simp) ?_
          refine AllReadyH.cons (o := { dst := some 27, op := Op.call { callee := Callee.value (Operand.func 61), args := #[Operand.tmp 26], argTypes := #[31] }, type := 3, pos := "plan.go:59", after := #[{ on := 22, ground := Ground.data }, { on := 16, ground := Ground.chain }], guard := none }) rfl (fun K hK => ?_) ?_
          · (go_simp; go_at_call 61; refine (HA2.out _).mono ?_; rintro u wz4 ⟨rfl, dz⟩; have bz4 := bnext bz3 dz; dsimp only)
            refine hK.out _ _ ?_ (fun hHeld => ?_)
            · exact HKS.out _ bz4
            clear hK K
            (try simp only [Act.put, List.setIfInBounds_toArray, List.set_cons_zero, List.set_cons_succ])
            refine wpAnyH_take (i := 24) (oi := { dst := some 28, op := Op.binOp BinOp.sub 3 (Operand.tmp 21) (Operand.tmp 27) 3, type := 3, pos := "plan.go:59", after := #[{ on := 17, ground := Ground.data }, { on := 23, ground := Ground.data }], guard := none }) (v := ?_) rfl (by kernel_rfl) (by kernel_rfl) (by kernel_rfl) (fun _ _ _ h => h) (Or.inl ⟨by rfl, ?_⟩) (by assumption) ?_
            rotate_left
            · ((intro w hSw; (try dsimp only at hSw); go_simp; (try rw [if_neg (by omega)])); try with_reducible rfl)
            (try simp only [Act.put, List.setIfInBounds_toArray, List.set_cons_zero, List.set_cons_succ])
            refine wpAnyH_take (i := 25) (oi := { dst := some 3, op := Op.assign (Operand.tmp 28), type := 3, pos := "plan.go:59", after := #[{ on := 24, ground := Ground.data }, { on := 23, ground := Ground.chain }, { on := 0, ground := Ground.phase }, { on := 1, ground := Ground.phase }, { on := 2, ground := Ground.phase }, { on := 3, ground := Ground.phase }, { on := 4, ground := Ground.phase }, { on := 5, ground := Ground.phase }, { on := 6, ground := Ground.phase }, { on := 7, ground := Ground.phase }, { on := 8, ground := Ground.phase }, { on := 9, ground := Ground.phase }, { on := 10, ground := Ground.phase }, { on := 11, ground := Ground.phase }, { on := 12, ground := Ground.phase }, { on := 13, ground := Ground.phase }, { on := 14, ground := Ground.phase }, { on := 15, ground := Ground.phase }, { on := 16, ground := Ground.phase }, { on := 17, ground := Ground.phase }, { on := 18, ground := Ground.phase }, { on := 19, ground := Ground.phase }, { on := 20, ground := Ground.phase }, { on := 21, ground := Ground.phase }, { on := 22, ground := Ground.phase }, { on := 23, ground := Ground.phase }, { on := 24, ground := Ground.phase }], guard := none }) (v := ?_) rfl (by kernel_rfl) (by kernel_rfl) (by kernel_rfl) (fun _ _ _ h => h) (Or.inl ⟨by rfl, ?_⟩) (by assumption) ?_
            rotate_left
            · ((intro w hSw; (try dsimp only at hSw); go_simp; (try rw [if_neg (by omega)])); try with_reducible rfl)
            (try simp only [Act.put, List.setIfInBounds_toArray, List.set_cons_zero, List.set_cons_succ])
            refine wpAnyH_done (by kernel_rfl) ?_ _
            clear hHeld
            go_wp2
            go_ret
            exact ⟨ret1 HLS.out.symm, bz4⟩
          exact AllReadyH.nil
        exact AllReadyH.nil
      exact AllReadyH.nil
    exact AllReadyH.nil
  exact AllReadyH.nil

set_option maxHeartbeats 4000000 in
theorem join_any (W : World) (L : List Rc) (v : Value) (n : Nat) (hL : W.ownsRow 0 31 4 v n (rcs L)) (hn : L.length = n) (hn1 : n ≤ 1000) (hn2 : 2 ≤ n) (hr : ∀ r ∈ L, rb r) :
    Calls Tryd.prog 43 #[v] W fun e w' => ∃ v', e = .returned v' ∧ w'.ownsRow W.heap.size 31 4 v' (n - 1) (rcs (PN.jn1 L)) ∧ Below W.heap.size W w' := by
  obtain ⟨i0, hi0, hz0, hz1, hz2⟩ := info_parts info_rect
  obtain ⟨g, c, hv, hgl, hnc⟩ : ∃ g c, v = .slice (some ⟨g, 0, none⟩) n c ∧ g < W.heap.size ∧ n ≤ c ∧ c ≤ maxLen := by
    rcases hL.2 with ⟨h1, h2⟩ | ⟨g, cap, cur, h1, _, h2, h3, h4, _⟩
    · omega
    · exact ⟨g, cap, h1, (Array.getElem?_eq_some_iff.1 h2).1, h3, h4⟩
  subst hv
  obtain ⟨hnc1, hnc2⟩ := hnc
  unfold maxLen at hnc2
  have HS : Hid (∀ U, Below W.heap.size W U → SrcN 4 U (.slice (some ⟨g, 0, none⟩) n c) n (rcs L)) := Lib.hid fun U hU => own_srcN (own_below hL hU)
  have HN := Lib.hid hn
  have HR := Lib.hid hr
  have hb1 := balloc (Below.refl _ W) (.cells #[.slice (some ⟨g, 0, none⟩) n c] 46)
  have hx1 := heap_alloc_new W (.cells #[.slice (some ⟨g, 0, none⟩) n c] 46)
  obtain ⟨X, hX⟩ : ∃ X, W.heap.size = X := ⟨_, rfl⟩
  obtain ⟨V1, hV1⟩ : ∃ V1, W.alloc (.cells #[.slice (some ⟨g, 0, none⟩) n c] 46) = V1 := ⟨_, rfl⟩
  rw [hV1] at hb1 hx1
  have HB1 := Lib.hid hb1
  have HV1L : Hid (X < V1.heap.size) := Lib.hid (by rw [← hX]; exact (Array.getElem?_eq_some_iff.1 hx1).1)
  rw [hX] at hx1
  have HX : Hid (∀ U, Below V1.heap.size V1 U → U.cell? ⟨X, 0, none⟩ = some (.slice (some ⟨g, 0, none⟩) n c)) := Lib.hid fun U hU => (hU.cell (p := ⟨X, 0, none⟩) HV1L.out).trans (nd_cell hx1 rfl)
  have HXX := Lib.hid hX
  have HV1 := Lib.hid hV1
  clear hL hn hr hb1 hx1 hV1
  go_enter Tryd.func43, Tryd.ntmps43
  go_upto_region 4 with fail
  rw [HV1.out]
  clear hX
  go_loopw [4, 5] (fun v4 v5 wr => ∃ j : Nat, v5 = .int .i64 ((j : Int) + 1) ∧ v4 = .int .i64 (PN.bst L j : Int) ∧ j + 1 < n ∧ Hid (Below V1.heap.size V1 wr)) (fun _ v _ => n - (intOf v).toNat)
  case atStart => exact ⟨0, rfl, rfl, by omega, Lib.hid (Below.refl _ _)⟩
  case round =>
    obtain ⟨j, rfl, rfl, hj, HBW⟩ := hrel
    have hbj := PN.bst_le L j
    have hcx := HX.out _ HBW.out
    by_cases hjn : j + 2 < n
    · have hjz : (j : Int) + 1 + 1 < (n : Int) := by omega
      have HL1 : Hid (∀ U, Below wr.heap.size wr U → Calls Tryd.prog 60 #[.int .i64 ((j : Int) + 1), .pointer (some ⟨X, 0, none⟩)] U fun e w' => e = .returned (.int .i64 (PN.loss L (j + 1))) ∧ Below U.heap.size U w') := Lib.hid fun U hU => by
        have := loss_any U X L _ n c (j + 1) (HX.out _ (bnext HBW.out hU)) (HS.out U (bnext HB1.out (bnext HBW.out hU))) HN.out hn1 (by omega) HR.out
        rw [show ((j + 1 : Nat) : Int) = (j : Int) + 1 by omega] at this
        exact this
      have HL2 : Hid (∀ U, Below wr.heap.size wr U → Calls Tryd.prog 60 #[.int .i64 (PN.bst L j : Int), .pointer (some ⟨X, 0, none⟩)] U fun e w' => e = .returned (.int .i64 (PN.loss L (PN.bst L j))) ∧ Below U.heap.size U w') := Lib.hid fun U hU => loss_any U X L _ n c _ (HX.out _ (bnext HBW.out hU)) (HS.out U (bnext HB1.out (bnext HBW.out hU))) HN.out hn1 (by omega) HR.out
      have HBS : Hid (PN.bst L (j + 1) = if PN.loss L (j + 1) < PN.loss L (PN.bst L j) then j + 1 else PN.bst L j) := Lib.hid rfl
      obtain ⟨s1, hs1⟩ : ∃ s, PN.loss L (j + 1) = s := ⟨_, rfl⟩
      obtain ⟨s2, hs2⟩ : ∃ s, PN.loss L (PN.bst L j) = s := ⟨_, rfl⟩
      obtain ⟨b, hb⟩ : ∃ b, PN.bst L j = b := ⟨_, rfl⟩
      rw [hs1] at HL1 HBS
      rw [hs2] at HL2 HBS
      rw [hb] at HL2 HBS hbj ⊢
      clear hs1 hs2 hb
      go_wp2_with fail
      go_at_call 60
      refine (HL1.out _ (Below.refl _ _)).mono ?_
      rintro e wz1 ⟨rfl, hb1⟩
      have HBZ1 := Lib.hid hb1
      clear hb1 hcx
      go_wp2_with fail
      go_at_call 60
      refine (HL2.out _ HBZ1.out).mono ?_
      rintro e wz2 ⟨rfl, hb2⟩
      have HBZ2 : Hid (Below V1.heap.size V1 wz2) := Lib.hid (bnext (bnext HBW.out HBZ1.out) hb2)
      clear hb2
      by_cases hss : s1 < s2
      · have HB2 : Hid (PN.bst L (j + 1) = j + 1) := Lib.hid (by rw [HBS.out, if_pos hss])
        go_wp2
        go_roundw
        case rel => exact ⟨j + 1, by go_num, by rw [HB2.out]; go_num, by omega, HBZ2⟩
        case measure => simp [intOf]; omega
      · have HB2 : Hid (PN.bst L (j + 1) = b) := Lib.hid (by rw [HBS.out, if_neg hss])
        go_wp2
        go_roundw
        case rel => exact ⟨j + 1, by go_num, by rw [HB2.out], by omega, HBZ2⟩
        case measure => simp [intOf]; omega
    · have hjz : ¬ (j : Int) + 1 + 1 < (n : Int) := by omega
      have HBE : Hid (PN.bst L (L.length - 2) = PN.bst L j) := Lib.hid (by rw [HN.out, show n - 2 = j by omega])
      obtain ⟨b, hb⟩ : ∃ b, PN.bst L j = b := ⟨_, rfl⟩
      rw [hb] at HBE hbj ⊢
      clear hb
      have hb0 : (0 : Int) ≤ (b : Int) := by omega
      have hbn : (b : Int) ≤ (n : Int) := by omega
      have hbc : (b : Int) ≤ (c : Int) := by omega
      have hb1n : (b : Int) + 1 < (n : Int) := by omega
      have hbn2 : (b : Int) < (n : Int) := by omega
      have hb2n : (b : Int) + 2 ≤ (n : Int) := by omega
      have hb20 : (0 : Int) ≤ (b : Int) + 2 := by omega
      have hb10 : (0 : Int) ≤ (b : Int) + 1 := by omega
      have hwb1 : IntKind.i64.wrap ((b : Int) + 1) = (b : Int) + 1 := by rw [IntKind.wrap_i64]; omega
      have hwb2 : IntKind.i64.wrap ((b : Int) + 2) = (b : Int) + 2 := by rw [IntKind.wrap_i64]; omega
      obtain ⟨⟨ax, ay, aw, ah⟩, h1⟩ : ∃ r, L[b]? = some r := ⟨_, List.getElem?_eq_getElem (by rw [HN.out]; omega)⟩
      obtain ⟨⟨bx, by', bw, bh⟩, h2⟩ : ∃ r, L[b + 1]? = some r := ⟨_, List.getElem?_eq_getElem (by rw [HN.out]; omega)⟩
      have hra := HR.out _ (List.mem_of_getElem? h1)
      have hrb := HR.out _ (List.mem_of_getElem? h2)
      obtain ⟨⟨rx, ry, rw', rh⟩, hQ⟩ : ∃ R, PN.both ⟨ax, ay, aw, ah⟩ ⟨bx, by', bw, bh⟩ = R := ⟨_, rfl⟩
      have HJN : Hid (rcs (PN.jn1 L) = rcs (L.take b) ++ [.int .i64 rx, .int .i64 ry, .int .i64 rw', .int .i64 rh] ++ rcs (L.drop (b + 2))) := Lib.hid (by
        unfold PN.jn1 PN.jn
        rw [HBE.out, at_get h1, at_get h2, hQ, rcs_app, List.append_assoc]
        rfl)
      have HTK : Hid (∀ U, Below V1.heap.size V1 U → SrcN 4 U (.slice (some ⟨g, 0, none⟩) b c) b (rcs (L.take b))) := Lib.hid fun U hU => by
        have := (HS.out U (bnext HB1.out hU)).take (m := b) (by omega)
        rw [rcs_take L b (by rw [HN.out]; omega)] at this
        exact this
      obtain ⟨ad, had⟩ : ∃ ad : Option Addr, (if c = b + 2 then some (⟨g, 0, none⟩ : Addr) else some ⟨g, (b + 2) * 4, none⟩) = ad := ⟨_, rfl⟩
      have HDR : Hid (∀ U, Below V1.heap.size V1 U → SrcN 4 U (.slice ad (n - (b + 2)) (c - (b + 2))) (n - (b + 2)) (rcs (L.drop (b + 2)))) := Lib.hid fun U hU => by
        have := (HS.out U (bnext HB1.out hU)).drop (m := b + 2) (ad := ad) (by omega) (fun g' e hlt => by
          injection e with e
          injection e with e1 e2
          subst e1
          rw [← had, if_neg (by omega)]) (fun g' o e => by injection e with e; injection e with e1 e2; exact e2.symm) (fun e => by rw [← had] at e; split at e <;> cases e)
        rw [rcs_drop L (b + 2) (by rw [HN.out]; omega)] at this
        exact this
      have HKK : Hid (∀ U, Below V1.heap.size V1 U → U.cell? ⟨X, 0, none⟩ = some (.slice (some ⟨g, 0, none⟩) n c) ∧ U.cell? ⟨g, b * 4, none⟩ = some (.int .i64 ax) ∧ U.cell? ⟨g, b * 4 + 1, none⟩ = some (.int .i64 ay) ∧ U.cell? ⟨g, b * 4 + 2, none⟩ = some (.int .i64 aw) ∧ U.cell? ⟨g, b * 4 + 3, none⟩ = some (.int .i64 ah) ∧ U.cell? ⟨g, (b + 1) * 4, none⟩ = some (.int .i64 bx) ∧ U.cell? ⟨g, (b + 1) * 4 + 1, none⟩ = some (.int .i64 by') ∧ U.cell? ⟨g, (b + 1) * 4 + 2, none⟩ = some (.int .i64 bw) ∧ U.cell? ⟨g, (b + 1) * 4 + 3, none⟩ = some (.int .i64 bh)) := Lib.hid fun U hU => by
        obtain ⟨g1, o1, e, -, k0, k1, k2, k3⟩ := rc_at (HS.out U (bnext HB1.out hU)) h1
        injection e with e
        injection e with e1 e2
        subst e1 e2
        obtain ⟨g1, o1, e, -, l0, l1, l2, l3⟩ := rc_at (HS.out U (bnext HB1.out hU)) h2
        injection e with e
        injection e with e1 e2
        subst e1 e2
        simp only [Nat.zero_add] at k0 k1 k2 k3 l0 l1 l2 l3
        exact ⟨HX.out U hU, k0, k1, k2, k3, l0, l1, l2, l3⟩
      have HRO : Hid (∀ U : World, Calls Tryd.prog 59 #[rcV ⟨ax, ay, aw, ah⟩, .slice (some ⟨U.heap.size, 0, none⟩) 1 1] (U.alloc (.cells #[.int .i64 bx, .int .i64 by', .int .i64 bw, .int .i64 bh] 31)) fun e w' => e = .returned (rcV ⟨rx, ry, rw', rh⟩) ∧ Below (U.alloc (.cells #[.int .i64 bx, .int .i64 by', .int .i64 bw, .int .i64 bh] 31)).heap.size (U.alloc (.cells #[.int .i64 bx, .int .i64 by', .int .i64 bw, .int .i64 bh] 31)) w') := Lib.hid fun U => by
        rw [← hQ]
        exact around_any _ ⟨ax, ay, aw, ah⟩ [⟨bx, by', bw, bh⟩] _ 1 rfl (srcN_new U (rcs [⟨bx, by', bw, bh⟩]) 31 4 1 1 rfl) hra (fun r h => by rw [List.mem_singleton.1 h]; exact hrb) (by decide)
      have hcx2 := HX.out _ (bnext HBW.out (balloc (Below.refl _ wr) (.cells #[] 31)))
      have HONE := Lib.hid (rcs_cells (L.take b))
      have HONE2 := Lib.hid (rcs_cells (L.drop (b + 2)))
      have HXV : Hid (W.heap.size ≤ V1.heap.size) := Lib.hid HB1.out.size
      clear h1 h2 hra hrb hQ hjn
      go_upto_region 9 with (at_builtin; refine wpList_appN _ rfl _ _ 46 rfl V1.heap.size 31 i0 _ 4 32 Tryd.underlying46 hi0 hz0 hz1 hz2 rfl (by decide) _ 0 [] rfl (own_empty wr 31 4 V1.heap.size HBW.out.size) (.slice (some ⟨g, 0, none⟩) b c) b (rcs (L.take b)) (by rfl) (HTK.out _ (bnext HBW.out (balloc (Below.refl _ _) _))) HONE.out (by unfold maxLen; omega) (by omega) (by have := HBW.out.size; simp; omega) ?_; intro v' w7 hown7 hgrow hat; obtain ⟨va, vc, rfl⟩ := own_shape hown7)
      rw [Nat.zero_add, List.nil_append] at hown7
      have HBW7 : Hid (Below V1.heap.size V1 w7) := Lib.hid ((bnext HBW.out (balloc (Below.refl _ wr) (.cells #[] 31))).grown hgrow (bnext HBW.out (balloc (Below.refl _ wr) (.cells #[] 31))).size (fun q e => by have := HBW.out.size; have h2 := Option.some.inj e; simp at h2; omega))
      have HOW7 := Lib.hid hown7
      have hD := Below.drew (Below.refl w7.heap.size w7)
      obtain ⟨W0, hW0⟩ : ∃ W0, w7.drew = W0 := ⟨_, rfl⟩
      rw [hW0] at hD
      have HW0 := Lib.hid hW0
      have HW7D := Lib.hid hD
      have HD7 := Lib.hid (bnext HBW7.out hD)
      clear hD hW0
      clear hown7 hgrow hat hcx hcx2
      refine wp_region_held_drew (S := (fun w' => w'.cell? ⟨X, 0, none⟩ = some (.slice (some ⟨g, 0, none⟩) n c) ∧ w'.cell? ⟨g, b * 4, none⟩ = some (.int .i64 ax) ∧ w'.cell? ⟨g, b * 4 + 1, none⟩ = some (.int .i64 ay) ∧ w'.cell? ⟨g, b * 4 + 2, none⟩ = some (.int .i64 aw) ∧ w'.cell? ⟨g, b * 4 + 3, none⟩ = some (.int .i64 ah) ∧ w'.cell? ⟨g, (b + 1) * 4, none⟩ = some (.int .i64 bx) ∧ w'.cell? ⟨g, (b + 1) * 4 + 1, none⟩ = some (.int .i64 by') ∧ w'.cell? ⟨g, (b + 1) * 4 + 2, none⟩ = some (.int .i64 bw) ∧ w'.cell? ⟨g, (b + 1) * 4 + 3, none⟩ = some (.int .i64 bh))) (by kernel_rfl) ?_ (fun hHeld => ?_)
      · (rw [HW0.out]; exact HKK.out _ HD7.out)
      rw [HW0.out] at hHeld ⊢
      refine wpAnyH_take (i := 0) (oi := { dst := some 28, op := Op.move (Operand.tmp 6), type := 46, pos := "plan.go:67", after := #[], guard := none }) (v := ?_) rfl (by kernel_rfl) (by kernel_rfl) (by kernel_rfl) (fun _ _ _ h => h) (Or.inl ⟨by rfl, ?_⟩) (by assumption) ?_
      rotate_left
      · ((intro w hSw; (try dsimp only at hSw); go_simp; (try rw [if_neg (by omega)])); try with_reducible rfl)
      (try simp only [Act.put, List.setIfInBounds_toArray, List.set_cons_zero, List.set_cons_succ])
      refine wpAnyH_take (i := 1) (oi := { dst := some 29, op := Op.load 46 (Operand.tmp 1), type := 46, pos := "plan.go:67", after := #[], guard := none }) (v := ?_) rfl (by kernel_rfl) (by kernel_rfl) (by kernel_rfl) (fun _ _ _ h => h) (Or.inl ⟨by rfl, ?_⟩) (by assumption) ?_
      rotate_left
      · ((intro w hSw; (try dsimp only at hSw); go_simp; (try rw [if_neg (by omega)])); try with_reducible rfl)
      (try simp only [Act.put, List.setIfInBounds_toArray, List.set_cons_zero, List.set_cons_succ])
      refine wpAnyH_take (i := 2) (oi := { dst := some 30, op := Op.move (Operand.tmp 4), type := 3, pos := "plan.go:67", after := #[], guard := none }) (v := ?_) rfl (by kernel_rfl) (by kernel_rfl) (by kernel_rfl) (fun _ _ _ h => h) (Or.inl ⟨by rfl, ?_⟩) (by assumption) ?_
      rotate_left
      · ((intro w hSw; (try dsimp only at hSw); go_simp; (try rw [if_neg (by omega)])); try with_reducible rfl)
      (try simp only [Act.put, List.setIfInBounds_toArray, List.set_cons_zero, List.set_cons_succ])
      refine wpAnyH_take (i := 3) (oi := { dst := some 31, op := Op.indexAddr 46 (Operand.tmp 29) (Operand.tmp 30), type := 0, pos := "plan.go:67", after := #[{ on := 1, ground := Ground.data }, { on := 2, ground := Ground.data }], guard := none }) (v := ?_) rfl (by kernel_rfl) (by kernel_rfl) (by kernel_rfl) (fun _ _ _ h => h) (Or.inl ⟨by rfl, ?_⟩) (by assumption) ?_
      rotate_left
      · ((intro w hSw; (try dsimp only at hSw); go_simp; (try rw [if_neg (by omega)])); try with_reducible rfl)
      (try simp only [Act.put, List.setIfInBounds_toArray, List.set_cons_zero, List.set_cons_succ])
      refine wpAnyH_take (i := 4) (oi := { dst := some 32, op := Op.load 31 (Operand.tmp 31), type := 31, pos := "plan.go:67", after := #[{ on := 3, ground := Ground.data }], guard := none }) (v := ?_) rfl (by kernel_rfl) (by kernel_rfl) (by kernel_rfl) (fun _ _ _ h => h) (Or.inl ⟨by rfl, ?_⟩) (by assumption) ?_
      rotate_left
      · ((intro w hSw; (try dsimp only at hSw); go_simp; (try rw [if_neg (by omega)])); try with_reducible rfl)
      (try simp only [Act.put, List.setIfInBounds_toArray, List.set_cons_zero, List.set_cons_succ])
      refine wpAnyH_take (i := 5) (oi := { dst := some 33, op := Op.load 46 (Operand.tmp 1), type := 46, pos := "plan.go:67", after := #[], guard := none }) (v := ?_) rfl (by kernel_rfl) (by kernel_rfl) (by kernel_rfl) (fun _ _ _ h => h) (Or.inl ⟨by rfl, ?_⟩) (by assumption) ?_
      rotate_left
      · ((intro w hSw; (try dsimp only at hSw); go_simp; (try rw [if_neg (by omega)])); try with_reducible rfl)
      (try simp only [Act.put, List.setIfInBounds_toArray, List.set_cons_zero, List.set_cons_succ])
      refine wpAnyH_take (i := 6) (oi := { dst := some 34, op := Op.move (Operand.tmp 4), type := 3, pos := "plan.go:67", after := #[], guard := none }) (v := ?_) rfl (by kernel_rfl) (by kernel_rfl) (by kernel_rfl) (fun _ _ _ h => h) (Or.inl ⟨by rfl, ?_⟩) (by assumption) ?_
      rotate_left
      · ((intro w hSw; (try dsimp only at hSw); go_simp; (try rw [if_neg (by omega)])); try with_reducible rfl)
      (try simp only [Act.put, List.setIfInBounds_toArray, List.set_cons_zero, List.set_cons_succ])
      refine wpAnyH_take (i := 7) (oi := { dst := some 35, op := Op.binOp BinOp.add 3 (Operand.tmp 34) (Operand.const (Value.int IntKind.i64 1)) 3, type := 3, pos := "plan.go:67", after := #[{ on := 6, ground := Ground.data }], guard := none }) (v := ?_) rfl (by kernel_rfl) (by kernel_rfl) (by kernel_rfl) (fun _ _ _ h => h) (Or.inl ⟨by rfl, ?_⟩) (by assumption) ?_
      rotate_left
      · ((intro w hSw; (try dsimp only at hSw); go_simp; (try rw [if_neg (by omega)])); try with_reducible rfl)
      (try simp only [Act.put, List.setIfInBounds_toArray, List.set_cons_zero, List.set_cons_succ])
      refine wpAnyH_take (i := 8) (oi := { dst := some 36, op := Op.indexAddr 46 (Operand.tmp 33) (Operand.tmp 35), type := 0, pos := "plan.go:67", after := #[{ on := 5, ground := Ground.data }, { on := 7, ground := Ground.data }], guard := none }) (v := ?_) rfl (by kernel_rfl) (by kernel_rfl) (by kernel_rfl) (fun _ _ _ h => h) (Or.inl ⟨by rfl, ?_⟩) (by assumption) ?_
      rotate_left
      · ((intro w hSw; (try dsimp only at hSw); go_simp; (try rw [if_neg (by omega)])); try with_reducible rfl)
      (try simp only [Act.put, List.setIfInBounds_toArray, List.set_cons_zero, List.set_cons_succ])
      refine wpAnyH_take (i := 9) (oi := { dst := some 37, op := Op.load 31 (Operand.tmp 36), type := 31, pos := "plan.go:67", after := #[{ on := 8, ground := Ground.data }], guard := none }) (v := ?_) rfl (by kernel_rfl) (by kernel_rfl) (by kernel_rfl) (fun _ _ _ h => h) (Or.inl ⟨by rfl, ?_⟩) (by assumption) ?_
      rotate_left
      · ((intro w hSw; (try dsimp only at hSw); go_simp; (try rw [if_neg (by omega)])); try with_reducible rfl)
      (try simp only [Act.put, List.setIfInBounds_toArray, List.set_cons_zero, List.set_cons_succ])
      refine wpAnyH_ready (rs := [10]) (by kernel_rfl) (by simp) ?_
      refine AllReadyH.cons (o := { dst := some 38, op := Op.buildSlice 46 1 #[(0, Operand.tmp 37)], type := 46, pos := "plan.go:67", after := #[{ on := 9, ground := Ground.data }], guard := none }) rfl (fun K hK => ?_) ?_
      · (go_simp; have bz := balloc HW7D.out (.cells #[.int .i64 bx, .int .i64 by', .int .i64 bw, .int .i64 bh] 31))
        refine hK.out _ _ ?_ (fun hHeld => ?_)
        · exact HKK.out _ (bnext HBW7.out bz)
        clear hK K
        (try simp only [Act.put, List.setIfInBounds_toArray, List.set_cons_zero, List.set_cons_succ])
        refine wpAnyH_ready (rs := [11]) (by kernel_rfl) (by simp) ?_
        refine AllReadyH.cons (o := { dst := some 39, op := Op.call { callee := Callee.value (Operand.func 59), args := #[Operand.tmp 32, Operand.tmp 38], argTypes := #[31, 46] }, type := 31, pos := "plan.go:67", after := #[{ on := 4, ground := Ground.data }, { on := 10, ground := Ground.data }], guard := none }) rfl (fun K hK => ?_) ?_
        · (go_simp; go_at_call 59; refine (HRO.out _).mono ?_; rintro u wz1 ⟨rfl, dz⟩; have bz1 := bnext bz dz; dsimp only)
          refine hK.out _ _ ?_ (fun hHeld => ?_)
          · exact HKK.out _ (bnext HBW7.out bz1)
          clear hK K
          (try simp only [Act.put, List.setIfInBounds_toArray, List.set_cons_zero, List.set_cons_succ])
          refine wpAnyH_ready (rs := [12]) (by kernel_rfl) (by simp) ?_
          refine AllReadyH.cons (o := { dst := some 40, op := Op.buildSlice 46 1 #[(0, Operand.tmp 39)], type := 46, pos := "plan.go:67", after := #[{ on := 11, ground := Ground.data }], guard := none }) rfl (fun K hK => ?_) ?_
          · (go_simp; have bz2 := balloc bz1 (.cells #[.int .i64 rx, .int .i64 ry, .int .i64 rw', .int .i64 rh] 31))
            refine hK.out _ _ ?_ (fun hHeld => ?_)
            · exact HKK.out _ (bnext HBW7.out bz2)
            clear hK K
            (try simp only [Act.put, List.setIfInBounds_toArray, List.set_cons_zero, List.set_cons_succ])
            refine wpAnyH_ready (rs := [13]) (by kernel_rfl) (by simp) ?_
            refine AllReadyH.cons (o := { dst := some 41, op := Op.call { callee := Callee.builtin Builtin.append, args := #[Operand.tmp 28, Operand.tmp 40], argTypes := #[46, 46] }, type := 46, pos := "plan.go:67", after := #[{ on := 0, ground := Ground.data }, { on := 12, ground := Ground.data }, { on := 11, ground := Ground.chain }], guard := none }) rfl (fun K hK => ?_) ?_
            · (refine step_appN (by rfl) _ _ _ (by rfl) V1.heap.size 31 i0 _ 4 32 Tryd.underlying46 hi0 hz0 hz1 hz2 rfl (by decide) (.slice va b vc) b (rcs (L.take b)) (by rfl) (own_below HOW7.out bz2) _ 1 [.int .i64 rx, .int .i64 ry, .int .i64 rw', .int .i64 rh] (by rfl) (srcN_new wz1 [.int .i64 rx, .int .i64 ry, .int .i64 rw', .int .i64 rh] 31 4 1 1 rfl) (by simp [Value.oneCell']) (by unfold maxLen; omega) (by omega) (by have h1 := (bnext HBW7.out bz2).size; exact h1) ?_; intro v8 w8 hown8 hgrow hat; have bz4 : Below V1.heap.size V1 w8 := (bnext HBW7.out bz2).grown hgrow (bnext HBW7.out bz2).size (fun q e => (HOW7.out.lt q e).1))
              refine hK.out _ _ ?_ (fun hHeld => ?_)
              · exact HKK.out _ bz4
              clear hK K
              (try simp only [Act.put, List.setIfInBounds_toArray, List.set_cons_zero, List.set_cons_succ])
              refine wpAnyH_take (i := 14) (oi := { dst := some 6, op := Op.assign (Operand.tmp 41), type := 46, pos := "plan.go:67", after := #[{ on := 13, ground := Ground.data }, { on := 13, ground := Ground.chain }, { on := 0, ground := Ground.phase }, { on := 1, ground := Ground.phase }, { on := 2, ground := Ground.phase }, { on := 3, ground := Ground.phase }, { on := 4, ground := Ground.phase }, { on := 5, ground := Ground.phase }, { on := 6, ground := Ground.phase }, { on := 7, ground := Ground.phase }, { on := 8, ground := Ground.phase }, { on := 9, ground := Ground.phase }, { on := 10, ground := Ground.phase }, { on := 11, ground := Ground.phase }, { on := 12, ground := Ground.phase }, { on := 13, ground := Ground.phase }], guard := none }) (v := ?_) rfl (by kernel_rfl) (by kernel_rfl) (by kernel_rfl) (fun _ _ _ h => h) (Or.inl ⟨by rfl, ?_⟩) (by assumption) ?_
              rotate_left
              · ((intro w hSw; (try dsimp only at hSw); go_simp; (try rw [if_neg (by omega)])); try with_reducible rfl)
              (try simp only [Act.put, List.setIfInBounds_toArray, List.set_cons_zero, List.set_cons_succ])
              refine wpAnyH_done (by kernel_rfl) ?_ _
              have HBW8 := Lib.hid bz4
              rw [← had] at HDR
              have HOW8 := Lib.hid hown8
              obtain ⟨va8, vc8, rfl⟩ := own_shape hown8
              have hcx8 := HX.out _ HBW8.out
              clear hHeld bz bz1 bz2 bz4 hown8
              go_wp2_with (at_builtin; refine wpList_appN _ rfl _ _ 46 rfl V1.heap.size 31 i0 _ 4 32 Tryd.underlying46 hi0 hz0 hz1 hz2 rfl (by decide) (.slice va8 (b + 1) vc8) (b + 1) _ (by rfl) HOW8.out _ (n - (b + 2)) (rcs (L.drop (b + 2))) (by rfl) (HDR.out _ HBW8.out) HONE2.out (by unfold maxLen; omega) (by omega) HBW8.out.size ?_; intro v' w9 hown9 hgrow hat; obtain ⟨va9, vc9, rfl⟩ := own_shape hown9)
              have HB9 : Hid (Below V1.heap.size V1 w9) := Lib.hid (HBW8.out.grown hgrow HBW8.out.size (fun q e => (HOW8.out.lt q e).1))
              rw [← HJN.out] at hown9
              have HOW9 := Lib.hid hown9
              clear hown9 hgrow hat
              go_wp2
              go_ret
              refine ⟨_, rfl, ?_, bnext HB1.out HB9.out⟩
              have h9 := HOW9.out
              rw [show b + 1 + (n - (b + 2)) = n - 1 by omega] at h9 ⊢
              exact own_base h9 HXV.out
            exact AllReadyH.nil
          exact AllReadyH.nil
        exact AllReadyH.nil
      exact AllReadyH.nil

end Go.Proofs.YtmiennkldkcnfaaDoor
