/- The queue's Push and Pop. No conditions. -/
import Derived.Test.YtgphdgalcbcamaaLn1
import Derived.Test.YtgphdgalcbcamaaLast
import Derived.Deep.Cut
import Derived.Deep.CutBlock
namespace Go.Proofs.Ytgphdgalcbcamaa
set_option maxRecDepth 100000
set_option linter.unusedVariables false
open Go.RowKit Go.Deep
theorem Qu.below {W V : World} {M : Nat} {nd k : Int} {sc v : Value} {A : List Pc} (h : Qu W M nd sc k v A) (hb : Below W.heap.size W V) : Qu V M nd sc k v A := ⟨(hb.block M (Array.getElem?_eq_some_iff.1 h.blk).1).trans h.blk, own_below h.row hb⟩
theorem info_pc : (Try.prog.info? 70).map (fun i => (i.zero, i.size, i.bytes)) = some (some (.agg #[.int .i64 0, .int .i64 0, .int .i64 0, .int .i64 0, .string ⟨#[]⟩]), 5, 48) := by kernel_rfl
/-- The first m elements of a row of one's own. -/
theorem own_short {w : World} {B e k n m c : Nat} {a : Option Addr} {U : List Value} (h : w.ownsRow B e k (.slice a n c) n U) (hm : m ≤ n) (ha : a ≠ none) : w.ownsRow B e k (.slice a m c) m (U.take (m * k)) := by
  rcases h.2 with ⟨hv, hn⟩ | ⟨g, cap, cur, hv, hb, hg, h1, h2, h3, h4⟩
  · injection hv with hv _ _
    exact absurd hv ha
  · injection hv with hv _ hc
    subst hv hc
    refine ⟨by rw [List.length_take, h.1]; exact Nat.min_eq_left (Nat.mul_le_mul_right k hm), .inr ⟨g, c, cur, rfl, hb, hg, by omega, h2, h3, ?_⟩⟩
    rw [← h4, List.take_take, Nat.min_eq_left (Nat.mul_le_mul_right k hm)]
set_option maxHeartbeats 4000000 in
theorem push_any (W : World) (M : Nat) (nd : Int) (sc : Value) (k : Int) (v : Value) (A : List Pc) (h : Qu W M nd sc k v A) (p : Pc) (hlen : A.length ≤ 100000) :
    Calls Try.prog 53 #[qp M, .iface 70 (pcV p)] W fun x w' => x = .returned (.tuple #[]) ∧ ∃ v', Qu w' M nd sc k v' (A ++ [p]) ∧ (v'.ownBlock = v.ownBlock ∨ ∀ b, v'.ownBlock = some b → W.heap.size ≤ b) ∧ FrS (fun b => b = M ∨ v.ownBlock = some b) W w' := by
  obtain ⟨i0, hi0, hz0, hz1, hz2⟩ := info_parts info_pc
  obtain ⟨n, hn⟩ : ∃ n, A.length = n := ⟨_, rfl⟩
  have hr := h.row
  rw [hn] at hr hlen
  obtain ⟨a, c, rfl⟩ := own_shape hr
  have hMl : M < W.heap.size := (Array.getElem?_eq_some_iff.1 h.blk).1
  have hb1 := balloc (Below.refl _ W) (.cells #[.int .i64 p.t, .int .i64 p.n, .int .i64 p.f, .int .i64 p.o, .string p.s] 70)
  have hx1 := heap_alloc_new W (.cells #[.int .i64 p.t, .int .i64 p.n, .int .i64 p.f, .int .i64 p.o, .string p.s] 70)
  obtain ⟨X, hX⟩ : ∃ X, W.heap.size = X := ⟨_, rfl⟩
  obtain ⟨W1, hW1⟩ : ∃ W1, W.alloc (.cells #[.int .i64 p.t, .int .i64 p.n, .int .i64 p.f, .int .i64 p.o, .string p.s] 70) = W1 := ⟨_, rfl⟩
  rw [hX] at hx1
  rw [hW1] at hb1 hx1
  have hM1 : W1.heap[M]? = _ := (hb1.block M hMl).trans h.blk
  have hX1 : X < W1.heap.size := (Array.getElem?_eq_some_iff.1 hx1).1
  have hl1 : M < W1.heap.size := (Array.getElem?_eq_some_iff.1 hM1).1
  have HS : Hid (∀ V, Below W1.heap.size W1 V → V.cell? ⟨M, 3, none⟩ = some (.slice a n c) ∧ V.cell? ⟨X, 0, none⟩ = some (.int .i64 p.t) ∧ V.cell? ⟨X, 1, none⟩ = some (.int .i64 p.n) ∧ V.cell? ⟨X, 2, none⟩ = some (.int .i64 p.f) ∧ V.cell? ⟨X, 3, none⟩ = some (.int .i64 p.o) ∧ V.cell? ⟨X, 4, none⟩ = some (.string p.s)) := Lib.hid fun V hV => by
    have q := (hV.block X hX1).trans hx1
    exact ⟨nd_cell ((hV.block M hl1).trans hM1) rfl, nd_cell q rfl, nd_cell q rfl, nd_cell q rfl, nd_cell q rfl, nd_cell q rfl⟩
  have HRW := Lib.hid (own_below hr hb1)
  have hob : ∀ b, (Value.slice a n c).ownBlock = some b → M + 1 ≤ b ∧ b < X := fun b e => by have := hr.lt b e; rw [← hX]; exact this
  have HE : Hid (∀ w6, (W1.drew.alloc (.cells (pcL p).toArray 70)).grownBy w6 (Value.slice a n c).ownBlock → (w6.cell? ⟨M, 3, none⟩ = some (.slice a n c) ∧ w6.cell? ⟨X, 0, none⟩ = some (.int .i64 p.t) ∧ w6.cell? ⟨X, 1, none⟩ = some (.int .i64 p.n) ∧ w6.cell? ⟨X, 2, none⟩ = some (.int .i64 p.f) ∧ w6.cell? ⟨X, 3, none⟩ = some (.int .i64 p.o) ∧ w6.cell? ⟨X, 4, none⟩ = some (.string p.s)) ∧ w6.heap[M]? = some (.cells #[.int .i64 nd, sc, .int .i64 k, .slice a n c] 59 (0, 0)) ∧ FrS (fun b => (Value.slice a n c).ownBlock = some b) W w6) := Lib.hid fun w6 hg => by
    have hd := Below.drew (balloc (Below.refl _ W1) (.cells (pcL p).toArray 70))
    have hbl : ∀ b, b < W1.heap.size → (Value.slice a n c).ownBlock ≠ some b → w6.heap[b]? = W1.heap[b]? := fun b hb hne => (hg.block b (Nat.lt_of_lt_of_le hb hd.size) (fun e => hne e.symm)).trans (hd.block b hb)
    have qX := (hbl X hX1 (fun e => by have := hob X e; omega)).trans hx1
    have qM := (hbl M hl1 (fun e => by have := hob M e; omega)).trans hM1
    exact ⟨⟨nd_cell qM rfl, nd_cell qX rfl, nd_cell qX rfl, nd_cell qX rfl, nd_cell qX rfl, nd_cell qX rfl⟩, qM, ((FrS.of (S := fun b => (Value.slice a n c).ownBlock = some b) hb1).then hd).trans (FrS.grown hg (fun r e => e))⟩
  have HXW := Lib.hid hX
  have HN := Lib.hid hn
  have HOB := Lib.hid hob
  have HSZ : Hid (X ≤ W1.heap.size) := Lib.hid (by omega)
  clear hr hM1 hX1 hx1 hb1 hn h hob
  have hta : ∀ w, (Instr.typeAssert (.iface 70 (pcV p)) 20 70 true).run Try.prog w = .ok (.tuple #[pcV p, .bool true]) w := fun _ => by kernel_rfl
  have mixed : Try.prog.follows .mixedOrders = true := by kernel_rfl
  go_enter Try.func53, Try.ntmps53
  go_upto_region 2 with fail
  try rw [hX]
  try rw [hW1]
  refine wp_region_last #[{ dst := some 12, op := Op.move (Operand.tmp 0), type := 72, pos := "lines.go:43", after := #[], guard := none }, { dst := some 13, op := Op.move (Operand.tmp 0), type := 72, pos := "lines.go:43", after := #[], guard := none }, { dst := some 14, op := Op.nilCheck (Operand.tmp 13), type := 0, pos := "lines.go:43", after := #[{ on := 1, ground := Ground.data }], guard := none }, { dst := some 15, op := Op.load 57 (Operand.tmp 14), type := 57, pos := "lines.go:43", after := #[{ on := 2, ground := Ground.data }], guard := none }, { dst := some 16, op := Op.load 70 (Operand.tmp 4), type := 70, pos := "lines.go:43", after := #[], guard := none }, { dst := some 17, op := Op.buildSlice 57 1 #[(0, Operand.tmp 16)], type := 57, pos := "lines.go:43", after := #[{ on := 4, ground := Ground.data }], guard := none }, { dst := some 18, op := Op.call { callee := Callee.builtin Builtin.append, args := #[Operand.tmp 15, Operand.tmp 17], argTypes := #[57, 57] }, type := 57, pos := "lines.go:43", after := #[{ on := 3, ground := Ground.data }, { on := 5, ground := Ground.data }], guard := none }, { dst := some 19, op := Op.nilCheck (Operand.tmp 12), type := 0, pos := "lines.go:43", after := #[{ on := 0, ground := Ground.data }, { on := 0, ground := Ground.phase }, { on := 1, ground := Ground.phase }, { on := 2, ground := Ground.phase }, { on := 3, ground := Ground.phase }, { on := 4, ground := Ground.phase }, { on := 5, ground := Ground.phase }, { on := 6, ground := Ground.phase }], guard := none }] { dst := none, op := Op.store 57 (Operand.tmp 19) (Operand.tmp 18), type := 0, pos := "lines.go:43", after := #[{ on := 7, ground := Ground.data }, { on := 6, ground := Ground.data }, { on := 6, ground := Ground.chain }, { on := 0, ground := Ground.phase }, { on := 1, ground := Ground.phase }, { on := 2, ground := Ground.phase }, { on := 3, ground := Ground.phase }, { on := 4, ground := Ground.phase }, { on := 5, ground := Ground.phase }, { on := 6, ground := Ground.phase }], guard := none } rfl (by kernel_rfl) (by kernel_rfl) (fun w' => w'.cell? ⟨M, 3, none⟩ = some (.slice a n c) ∧ w'.cell? ⟨X, 0, none⟩ = some (.int .i64 p.t) ∧ w'.cell? ⟨X, 1, none⟩ = some (.int .i64 p.n) ∧ w'.cell? ⟨X, 2, none⟩ = some (.int .i64 p.f) ∧ w'.cell? ⟨X, 3, none⟩ = some (.int .i64 p.o) ∧ w'.cell? ⟨X, 4, none⟩ = some (.string p.s)) ?_ (fun hHeld => ?_)
  · first | exact hS1 | exact HS.out _ (Below.drew (Below.refl _ W1)) | exact HS.out _ (Below.drew (balloc (Below.refl _ W1) _))
  refine wpAnyH_take (i := 0) (oi := { dst := some 12, op := Op.move (Operand.tmp 0), type := 72, pos := "lines.go:43", after := #[], guard := none }) (v := ?_) rfl (by kernel_rfl) (by kernel_rfl) (by kernel_rfl) (fun _ _ _ h => h) (Or.inl ⟨by rfl, ?_⟩) (by assumption) ?_
  rotate_left
  · ((intro w hSw; (try dsimp only at hSw); go_simp; (try rw [if_neg (by omega)])); try with_reducible rfl)
  (try simp only [Act.put, List.setIfInBounds_toArray, List.set_cons_zero, List.set_cons_succ])
  refine wpAnyH_take (i := 1) (oi := { dst := some 13, op := Op.move (Operand.tmp 0), type := 72, pos := "lines.go:43", after := #[], guard := none }) (v := ?_) rfl (by kernel_rfl) (by kernel_rfl) (by kernel_rfl) (fun _ _ _ h => h) (Or.inl ⟨by rfl, ?_⟩) (by assumption) ?_
  rotate_left
  · ((intro w hSw; (try dsimp only at hSw); go_simp; (try rw [if_neg (by omega)])); try with_reducible rfl)
  (try simp only [Act.put, List.setIfInBounds_toArray, List.set_cons_zero, List.set_cons_succ])
  refine wpAnyH_take (i := 2) (oi := { dst := some 14, op := Op.nilCheck (Operand.tmp 13), type := 0, pos := "lines.go:43", after := #[{ on := 1, ground := Ground.data }], guard := none }) (v := ?_) rfl (by kernel_rfl) (by kernel_rfl) (by kernel_rfl) (fun _ _ _ h => h) (Or.inl ⟨by rfl, ?_⟩) (by assumption) ?_
  rotate_left
  · ((intro w hSw; (try dsimp only at hSw); go_simp; (try rw [if_neg (by omega)])); try with_reducible rfl)
  (try simp only [Act.put, List.setIfInBounds_toArray, List.set_cons_zero, List.set_cons_succ])
  refine wpAnyH_take (i := 3) (oi := { dst := some 15, op := Op.load 57 (Operand.tmp 14), type := 57, pos := "lines.go:43", after := #[{ on := 2, ground := Ground.data }], guard := none }) (v := ?_) rfl (by kernel_rfl) (by kernel_rfl) (by kernel_rfl) (fun _ _ _ h => h) (Or.inl ⟨by rfl, ?_⟩) (by assumption) ?_
  rotate_left
  · ((intro w hSw; (try dsimp only at hSw); go_simp; (try rw [if_neg (by omega)])); try with_reducible rfl)
  (try simp only [Act.put, List.setIfInBounds_toArray, List.set_cons_zero, List.set_cons_succ])
  refine wpAnyH_take (i := 4) (oi := { dst := some 16, op := Op.load 70 (Operand.tmp 4), type := 70, pos := "lines.go:43", after := #[], guard := none }) (v := ?_) rfl (by kernel_rfl) (by kernel_rfl) (by kernel_rfl) (fun _ _ _ h => h) (Or.inl ⟨by rfl, ?_⟩) (by assumption) ?_
  rotate_left
  · ((intro w hSw; (try dsimp only at hSw); go_simp; (try rw [if_neg (by omega)])); try with_reducible rfl)
  (try simp only [Act.put, List.setIfInBounds_toArray, List.set_cons_zero, List.set_cons_succ])
  refine wpAnyH_ready (rs := [5]) (by kernel_rfl) (by simp) ?_
  refine AllReadyH.cons (o := { dst := some 17, op := Op.buildSlice 57 1 #[(0, Operand.tmp 16)], type := 57, pos := "lines.go:43", after := #[{ on := 4, ground := Ground.data }], guard := none }) rfl (fun K hK => ?_) AllReadyH.nil
  go_simp
  refine hK.out _ _ ?_ (fun hHeld => ?_)
  · first | exact hS1 | exact HS.out _ (Below.drew (Below.refl _ W1)) | exact HS.out _ (Below.drew (balloc (Below.refl _ W1) _))
  clear hK K
  (try simp only [Act.put, List.setIfInBounds_toArray, List.set_cons_zero, List.set_cons_succ])
  refine wpAnyH_ready (rs := [6]) (by kernel_rfl) (by simp) ?_
  refine AllReadyH.cons (o := { dst := some 18, op := Op.call { callee := Callee.builtin Builtin.append, args := #[Operand.tmp 15, Operand.tmp 17], argTypes := #[57, 57] }, type := 57, pos := "lines.go:43", after := #[{ on := 3, ground := Ground.data }, { on := 5, ground := Ground.data }], guard := none }) rfl (fun K hK => ?_) AllReadyH.nil
  (refine step_appN (by rfl) _ _ _ (by rfl) (M + 1) 70 i0 _ 5 48 Try.underlying57 hi0 hz0 hz1 hz2 rfl (by decide) (.slice a n c) n (pcs A) (by rfl) (own_below HRW.out (Below.drew (balloc (Below.refl _ W1) _))) (.slice (some ⟨W1.heap.size, 0, none⟩) 1 1) 1 (pcL p) (by rfl) (srcN_new W1.drew (pcL p) 70 5 1 1 rfl) (by simp [pcL, Value.oneCell']) (by unfold maxLen; omega) (by omega) (by simp; omega) ?_; intro v' w6 hown hgrow hat; have HE6 := Lib.hid (HE.out w6 hgrow); have hS1 := HE6.out.1)
  refine hK.out _ _ ?_ (fun hHeld => ?_)
  · first | exact hS1 | exact HS.out _ (Below.drew (Below.refl _ W1)) | exact HS.out _ (Below.drew (balloc (Below.refl _ W1) _))
  clear hK K
  (try simp only [Act.put, List.setIfInBounds_toArray, List.set_cons_zero, List.set_cons_succ])
  refine wpAnyH_take (i := 7) (oi := { dst := some 19, op := Op.nilCheck (Operand.tmp 12), type := 0, pos := "lines.go:43", after := #[{ on := 0, ground := Ground.data }, { on := 0, ground := Ground.phase }, { on := 1, ground := Ground.phase }, { on := 2, ground := Ground.phase }, { on := 3, ground := Ground.phase }, { on := 4, ground := Ground.phase }, { on := 5, ground := Ground.phase }, { on := 6, ground := Ground.phase }], guard := none }) (v := ?_) rfl (by kernel_rfl) (by kernel_rfl) (by kernel_rfl) (fun _ _ _ h => h) (Or.inl ⟨by rfl, ?_⟩) (by assumption) ?_
  rotate_left
  · ((intro w hSw; (try dsimp only at hSw); go_simp; (try rw [if_neg (by omega)])); try with_reducible rfl)
  (try simp only [Act.put, List.setIfInBounds_toArray, List.set_cons_zero, List.set_cons_succ])
  refine wpAnyH_done (by kernel_rfl) ?_ _
  show Oper.wp _ _ _ _ _ _
  obtain ⟨⟨d3, -⟩, qM, hfr⟩ := HE6.out
  have hfz := nd_froz qM 3
  obtain ⟨oa, oc, rfl⟩ := own_shape hown
  have hset := FrS.set (S := fun b => b = M) w6 (b := M) (i := 3) rfl (.slice oa (n + 1) oc)
  have HQ : Hid (Qu (w6.setCell ⟨M, 3, none⟩ (.slice oa (n + 1) oc)) M nd sc k (.slice oa (n + 1) oc) (A ++ [p])) := Lib.hid ⟨heap_setCell_same w6 M 3 _ _ _ qM, by rw [show (A ++ [p]).length = n + 1 by rw [List.length_append, HN.out]; rfl, pcs_app, pcs_one]; exact hset.own hown (fun q e => by have := (hown.lt q e).1; omega)⟩
  have HAT : Hid ((Value.slice oa (n + 1) oc).ownBlock = (Value.slice a n c).ownBlock ∨ ∀ b, (Value.slice oa (n + 1) oc).ownBlock = some b → X ≤ b) := Lib.hid (by
    rcases hat with h | h
    · exact .inl h
    · refine .inr fun b e => ?_
      rw [h] at e
      have := Option.some.inj e
      have h2 := HSZ.out
      simp at this
      omega)
  have HFR : Hid (FrS (fun b => b = M ∨ (Value.slice a n c).ownBlock = some b) W (w6.setCell ⟨M, 3, none⟩ (.slice oa (n + 1) oc))) := Lib.hid ((hfr.mono (fun b hb => .inr hb)).trans (hset.mono (fun b hb => .inl hb)))
  clear hS1 qM hfr hset hown hgrow hat HE6 hHeld
  go_wp2
  go_end0
  refine ⟨rfl, _, HQ.out, ?_, HFR.out⟩
  rw [HXW.out]
  exact HAT.out
set_option maxHeartbeats 4000000 in
theorem pop_any (W : World) (M : Nat) (nd : Int) (sc : Value) (k : Int) (v : Value) (A : List Pc) (p : Pc) (h : Qu W M nd sc k v (A ++ [p])) :
    Calls Try.prog 52 #[qp M] W fun x w' => x = .returned (.iface 70 (pcV p)) ∧ ∃ v', Qu w' M nd sc k v' A ∧ v'.ownBlock = v.ownBlock ∧ FrS (fun b => b = M) W w' := by
  obtain ⟨n, hn⟩ : ∃ n, A.length = n := ⟨_, rfl⟩
  obtain ⟨m, hm⟩ : ∃ m, (A ++ [p]).length = m := ⟨_, rfl⟩
  have hnm : m = n + 1 := by rw [← hm, List.length_append, hn]; rfl
  have hr := h.row
  rw [hm] at hr
  obtain ⟨a, c, rfl⟩ := own_shape hr
  have hMl : M < W.heap.size := (Array.getElem?_eq_some_iff.1 h.blk).1
  obtain ⟨g, rfl, hMg, hgl, p0, p1, p2, p3, p4⟩ := pc_own hr (i := n) (p := p) (by rw [← hn]; simp) (by omega)
  have hmc : m ≤ c := by
    rcases hr.2 with ⟨hv, _⟩ | ⟨g', cap, cur, hv, _, _, h1, h2, _⟩
    · simp at hv
    · injection hv with _ _ hc
      omega
  have hcm : c ≤ maxLen := by
    rcases hr.2 with ⟨hv, _⟩ | ⟨g', cap, cur, hv, _, _, h1, h2, _⟩
    · simp at hv
    · injection hv with _ _ hc
      omega
  unfold maxLen at hcm
  have hro := own_short hr (show n ≤ m by omega) (by simp)
  have htk : (pcs (A ++ [p])).take (n * 5) = pcs A := by rw [pcs_app, List.take_append_of_le_length (by rw [pcs_len, hn]; exact Nat.le_refl _), List.take_of_length_le (by rw [pcs_len, hn]; exact Nat.le_refl _)]
  rw [htk] at hro
  have hn0 : (0 : Int) ≤ (n : Int) := by omega
  have hnm1 : (n : Int) < (m : Int) := by omega
  have hnc : (n : Int) ≤ (c : Int) := by omega
  have hw1 : IntKind.i64.wrap (n : Int) = (n : Int) := by rw [IntKind.wrap_i64]; omega
  have hm1 : (m : Int) - 1 = (n : Int) := by omega
  have c3 := h.c3
  have f3 := nd_froz h.blk 3
  have HQ : Hid (∀ V, Below W.heap.size W V → Qu (V.setCell ⟨M, 3, none⟩ (.slice (some ⟨g, 0, none⟩) n c)) M nd sc k (.slice (some ⟨g, 0, none⟩) n c) A ∧ FrS (fun b => b = M) W (V.setCell ⟨M, 3, none⟩ (.slice (some ⟨g, 0, none⟩) n c))) := Lib.hid fun V hV => by
    have hset := FrS.set (S := fun b => b = M) V (b := M) (i := 3) rfl (.slice (some ⟨g, 0, none⟩) n c)
    exact ⟨⟨heap_setCell_same V M 3 _ _ _ ((hV.block M hMl).trans h.blk), by rw [hn]; exact hset.own (own_below hro hV) (fun q e => by have := (hro.lt q e).1; omega)⟩, (FrS.of hV).trans hset⟩
  clear hro htk hr h hn hm hnm hmc hcm
  go_enter Try.func52, Try.ntmps52
  go_wp2_with fail
  go_region
  go_wp2_with fail
  go_region
  go_wp2
  go_ret
  have q := HQ.out W (Below.refl _ _)
  have hb := Below.drew (Below.drew (balloc (Below.refl (W.setCell ⟨M, 3, none⟩ (.slice (some ⟨g, 0, none⟩) n c)).heap.size (W.setCell ⟨M, 3, none⟩ (.slice (some ⟨g, 0, none⟩) n c))) (.cells #[.int .i64 p.t, .int .i64 p.n, .int .i64 p.f, .int .i64 p.o, .string p.s] 70)))
  exact ⟨rfl, _, q.1.below hb, rfl, q.2.then hb⟩
end Go.Proofs.Ytgphdgalcbcamaa
