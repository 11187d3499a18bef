/- Put whole; the list of a memory. No conditions. -/
import Derived.Test.YtmnajongifdajaaMem18
import Derived.Test.YtmnajongifdajaaMem19
namespace Go.Proofs.Ytmnajongifdajaa
set_option maxRecDepth 100000
set_option linter.unusedVariables false
open Go.RowKit Go.Shelf Go.Deep Go.Maps ME
attribute [local go_sem] Oper.semAt_some
set_option maxHeartbeats 1000000 in
theorem put_arg (W : World) (M mb root : Nat) (bu s : Int) (L : List (Nat × En)) (n : Nat) (F : Nat → Prop) (k : K4) (h : MmAt W M mb root bu L n F) (ok : ME.Ok bu (L.map Prod.snd)) (hs : s < 0 ∨ 65536 < s) :
    Calls Try.prog 17 #[ptr M, kyV k, .int .i64 s] W fun x w' => PutP W w' M mb root bu n F (ME.put bu k s (L.map Prod.snd)) x := by
  have hput : ME.put bu k s (L.map Prod.snd) = (L.map Prod.snd, [], 1) := by unfold ME.put; rw [if_pos hs]
  rw [hput]
  have hb := balloc (Below.refl _ W) (.cells #[.int .i64 k.1, .int .i64 k.2.1, .int .i64 k.2.2.1, .int .i64 k.2.2.2] 34)
  have HFI := Lib.hid (PutP.err (er := 1) (h.below hb) ok hb)
  have HZ := Lib.hid (iszero_some _ M bu _ _ mb root (h.below hb).mem.1)
  clear hput hb
  by_cases g0 : s < 0
  · go_enter Try.func17, Try.ntmps17
    go_wp2_with (go_at_call 32; refine HZ.out.mono ?_; rintro x w1 ⟨rfl, rfl⟩)
    go_ret2
    exact HFI.out
  · have g1 : 65536 < s := by omega
    go_enter Try.func17, Try.ntmps17
    go_wp2_with (go_at_call 32; refine HZ.out.mono ?_; rintro x w1 ⟨rfl, rfl⟩)
    go_ret2
    exact HFI.out
/-- 'Put', whatever is put. -/
theorem put_any (W : World) (M mb root : Nat) (bu s : Int) (L : List (Nat × En)) (n : Nat) (F : Nat → Prop) (k : K4) (hk : K4ok k) (h : MmAt W M mb root bu L n F) (ok : ME.Ok bu (L.map Prod.snd)) (hn : n < 1000000000) (hlen : L.length ≤ 1000000) :
    Calls Try.prog 17 #[ptr M, kyV k, .int .i64 s] W fun x w' => PutP W w' M mb root bu n F (ME.put bu k s (L.map Prod.snd)) x := by
  by_cases hs : s < 0 ∨ 65536 < s
  · exact put_arg W M mb root bu s L n F k h ok hs
  · have hs0 : 0 ≤ s := by omega
    have hs1 : s ≤ 65536 := by omega
    rcases look_cases ok k with ⟨hl, hno⟩ | ⟨A, b, e, C, hL, hke, hl⟩
    · by_cases hfit : s + ME.pn (L.map Prod.snd) ≤ bu
      · exact put_none W M mb root bu s L n F k hk h ok hs0 hs1 hn hlen hno hl hfit
      · exact put_none_full W M mb root bu s L n F k hk h ok hs0 hs1 hn hlen hno hl (by omega)
    · cases hpin : e.pin with
      | true =>
        by_cases hfit : s + (ME.pn (L.map Prod.snd) - e.size) ≤ bu
        · exact put_found_true W M mb root bu s L n F k hk h ok hs0 hs1 hn hlen A C b e hL hke hpin hl hfit
        · exact put_found_true_full W M mb root bu s L n F k hk h ok hs0 hs1 hn hlen A C b e hL hke hpin hl (by omega)
      | false =>
        by_cases hfit : s + ME.pn (L.map Prod.snd) ≤ bu
        · exact put_found_false W M mb root bu s L n F k hk h ok hs0 hs1 hn hlen A C b e hL hke hpin hl hfit
        · exact put_found_false_full W M mb root bu s L n F k hk h ok hs0 hs1 hn hlen A C b e hL hke hpin hl (by omega)
theorem two_new (w : World) (o0 o1 : Obj) (B : Nat) (hB : w.heap.size = B) : ∃ W0, (w.alloc o0).alloc o1 = W0 ∧ W0.heap[B]? = some o0 ∧ W0.heap[B + 1]? = some o1 ∧ Below B w W0 ∧ W0.heap.size = B + 2 := by
  subst hB
  have a0 := heap_alloc_new w o0
  have a1 := heap_alloc_new (w.alloc o0) o1
  simp only [World.size_alloc] at a1
  exact ⟨_, rfl, (Below.heap_alloc _ _ _ (by simp)).trans a0, a1, balloc (balloc (Below.refl _ _) _) _, by simp⟩
set_option maxHeartbeats 8000000 in
theorem list_in (m : Nat) (hm : 3 ≤ m) (w : World) (M mb root : Nat) (bu : Int) (L : List (Nat × En)) (n : Nat) (F : Nat → Prop) (h : MmAt w M mb root bu L n F) (hlen : L.length ≤ 1000000) :
    CallsIn Fence.wide m Try.prog 18 #[ptr M] w fun e W' => ∃ v, e = .returned v ∧ W'.ownsRow w.heap.size 34 4 v L.length (ME.kc (L.map fun x => x.2.key)) ∧ Below w.heap.size w W' := by
  have h1 : 1 ≤ m := by omega
  obtain ⟨i0, hi0, hz0, hz1, hz2⟩ := info_parts info_ow
  have HLT := Lib.hid h.lt
  have HM := Lib.hid h
  have HZ := Lib.hid (iszero_some w M bu _ _ mb root h.mem.1)
  refine callsIn_of_wp_marks Try.func18 rfl trivial ?_ rfl
  simp only [Try.ntmps18, List.size_toArray, List.length_cons, List.length_nil, Nat.reduceAdd, Nat.reduceSub, Array.replicate_succ, Array.replicate_zero, List.push_toArray, List.append_toArray, List.nil_append, List.cons_append]
  obtain ⟨B, hB⟩ : ∃ B, w.heap.size = B := ⟨_, rfl⟩
  obtain ⟨W6, hW6, b0, b1, hb0, hs6⟩ := two_new w (.cells #[.slice none 0 0] 43) (.cells #[ptr root] 63) B hB
  have hb1 := balloc (Below.refl w.heap.size w) (.cells #[.slice none 0 0] 43)
  have hc4 := (h.below hb1).mem.1.cells.2.2.2.2
  have hbw : Below w.heap.size w W6 := by rw [hB]; exact hb0
  clear h hb1
  gi_wp2_with fail
  refine ⟨trivial, ?_⟩
  gi_at_call 32
  refine (callsIn_wide.2 HZ.out).mono ?_
  rintro e w' ⟨rfl, he⟩
  have he' := he.symm
  subst he'
  gi_wp2_with fail
  refine ⟨trivial, ?_⟩
  gi_at_call 34
  refine (callsIn_wide.2 (all_any root _)).mono ?_
  rintro e w' ⟨rfl, rfl⟩
  try rw [hW6]
  simp only [World.size_alloc]
  try rw [hB]
  have HBB := Lib.hid hB
  have HF : Hid (∀ b, F b → b < B) := Lib.hid fun b hb => by rw [← hB]; exact HLT.out b hb
  have HBW := Lib.hid hbw
  clear hW6 hc4
  gi_wp2_with fail
  refine range_need rfl h1 (gf := 39) (lb := #[.pointer (some ⟨B + 1, 0, none⟩)]) rfl trivial (enters_of Try.func39 (by kernel_rfl) rfl) (all_need (m - 1) (by omega) root (B + 1) L W6) (Below.refl _ _) (fun _ => rfl)
    (fun pre W => (∃ R, L = pre ++ R) ∧ (∃ v, W.heap[B]? = some (.cells #[v] 43 (0, 0)) ∧ W.ownsRow (B + 2) 34 4 v pre.length (ME.kc (pre.map fun x => x.2.key))) ∧ W.heap[B + 1]? = some (.cells #[ptr root] 63 (0, 0)) ∧ Below w.heap.size w W)
    (fun _ _ _ => False) ?hN ?hI (fun _ _ _ _ _ h _ _ => h) ?h0
    (fun pre x a' W => (∃ R, L = pre ++ x :: R) ∧ ∃ v5 v6 v7 v8 v9 v10 v11, a' = { tmps := #[ptr M, undef, .slice none 0 0, .pointer (some ⟨B, 0, none⟩), ptr x.1, v5, v6, v7, v8, v9, v10, v11, ptr x.1, undef, undef, undef, undef, undef, undef, undef, undef, undef], defers := [] })
    ?hAx ?assign ?body ?done ?stop
  case hN =>
    rintro pre W ⟨⟨R, hL⟩, -, hb, hbl⟩
    have hrg := (HM.out.below hbl).mem.2.1
    rw [hL] at hrg
    exact ⟨one_cell hb, pre, R, hL, fun e => e, hrg⟩
  case hI =>
    rintro pre W W' row ⟨hL, ⟨v, hbv, hrow⟩, hb, hbl⟩ hg hr
    have hne : ∀ k o, W.heap[k]? = some o → o.isCells = true → row ≠ some k := fun k o hk hc e => by
      obtain ⟨o', ho, hc'⟩ := (hr k e).2
      rw [hk] at ho
      cases ho
      rw [hc] at hc'
      cases hc'
    exact ⟨hL, ⟨v, (hg.block B (Array.getElem?_eq_some_iff.1 hbv).1 (fun e => hne B _ hbv rfl e.symm)).trans hbv, (FrS.grown (S := fun b => row = some b) hg (fun r e => e)).own hrow (fun q e x => by
      obtain ⟨_, o, ho, hc⟩ := hr q x
      exact own_notobj hrow ho hc e)⟩, (hg.block _ (Array.getElem?_eq_some_iff.1 hb).1 (fun e => hne _ _ hb rfl e.symm)).trans hb, hbl.grown hg hbl.size (fun q e => by have := (hr q e).1; have := HBB.out; omega)⟩
  case h0 => exact ⟨⟨L, rfl⟩, ⟨_, b0, World.ownsRow_nil _ _ _ _⟩, b1, HBW.out⟩
  case hAx => exact fun pre x a' u W W' row h _ _ => h
  case assign =>
    rintro l pre x W Kc hi hG hK
    simp only [encA]
    have HKK := Lib.hid hK
    clear hK
    gi_wp2
    exact HKK.out _ _ (KeepsFrom.refl _ _) hi ⟨hG, _, _, _, _, _, _, _, rfl⟩
  case body =>
    rintro l pre x a' W hl ⟨r, hr⟩ ⟨hL0, ⟨v, hbv, hrow⟩, hb, hbl⟩ ⟨⟨R, hL⟩, v5, v6, v7, v8, v9, v10, v11, rfl⟩
    have hmm := HM.out.below hbl
    have hrg := hmm.mem.2.1
    rw [hL] at hrg
    obtain ⟨hx, -⟩ := hrg.parts
    obtain ⟨x0, x1, x2, x3, -, -⟩ := hx.cells
    obtain ⟨va, vc, rfl⟩ := own_shape hrow
    have hbp : ∀ q, (Value.slice va pre.length vc).ownBlock = some q → B + 2 ≤ q := fun q e => (hrow.lt q e).1
    have hxF : x.1 < B := HF.out _ (HM.out.fL x.1 (by rw [hL]; simp))
    have hpl : pre.length ≤ 1000000 := by
      have h2 := congrArg List.length hL
      simp at h2
      omega
    have z0 := one_cell hbv
    have hsz : B + 2 ≤ W.heap.size := by have := (Array.getElem?_eq_some_iff.1 hb).1; omega
    have HSA : Hid ((fun w' => w'.cell? ⟨B, 0, none⟩ = some (.slice va pre.length vc) ∧ w'.cell? ⟨x.1, 0, none⟩ = some (.int .i64 x.2.f) ∧ w'.cell? ⟨x.1, 1, none⟩ = some (.int .i64 x.2.k) ∧ w'.cell? ⟨x.1, 2, none⟩ = some (.int .i64 x.2.n) ∧ w'.cell? ⟨x.1, 3, none⟩ = some (.int .i64 x.2.r)) W.drew) := Lib.hid ⟨z0, x0, x1, x2, x3⟩
    have hbA : Below W.heap.size W (W.alloc (.cells #[.int .i64 x.2.f, .int .i64 x.2.k, .int .i64 x.2.n, .int .i64 x.2.r] 34)).drew := Below.drew (balloc (Below.refl _ _) _)
    have hcellA : ∀ b i u, W.cell? ⟨b, i, none⟩ = some u → (W.alloc (.cells #[.int .i64 x.2.f, .int .i64 x.2.k, .int .i64 x.2.n, .int .i64 x.2.r] 34)).drew.cell? ⟨b, i, none⟩ = some u := fun b i u hu => (hbA.cell (p := ⟨b, i, none⟩) (World.block_lt_of_cell? _ _ hu)).trans hu
    have HSC : Hid ((fun w' => w'.cell? ⟨B, 0, none⟩ = some (.slice va pre.length vc) ∧ w'.cell? ⟨x.1, 0, none⟩ = some (.int .i64 x.2.f) ∧ w'.cell? ⟨x.1, 1, none⟩ = some (.int .i64 x.2.k) ∧ w'.cell? ⟨x.1, 2, none⟩ = some (.int .i64 x.2.n) ∧ w'.cell? ⟨x.1, 3, none⟩ = some (.int .i64 x.2.r)) (W.alloc (.cells #[.int .i64 x.2.f, .int .i64 x.2.k, .int .i64 x.2.n, .int .i64 x.2.r] 34)).drew) := Lib.hid ⟨hcellA _ _ _ z0, hcellA _ _ _ x0, hcellA _ _ _ x1, hcellA _ _ _ x2, hcellA _ _ _ x3⟩
    have HRW := Lib.hid (own_below hrow hbA)
    have HST : Hid (∀ w6, (W.alloc (.cells #[.int .i64 x.2.f, .int .i64 x.2.k, .int .i64 x.2.n, .int .i64 x.2.r] 34)).drew.grownBy w6 (Value.slice va pre.length vc).ownBlock → ((fun w' => w'.cell? ⟨B, 0, none⟩ = some (.slice va pre.length vc) ∧ w'.cell? ⟨x.1, 0, none⟩ = some (.int .i64 x.2.f) ∧ w'.cell? ⟨x.1, 1, none⟩ = some (.int .i64 x.2.k) ∧ w'.cell? ⟨x.1, 2, none⟩ = some (.int .i64 x.2.n) ∧ w'.cell? ⟨x.1, 3, none⟩ = some (.int .i64 x.2.r)) w6) ∧ FrS (fun b => (Value.slice va pre.length vc).ownBlock = some b) W w6 ∧ w6.heap[B]? = some (.cells #[.slice va pre.length vc] 43 (0, 0))) := Lib.hid fun w6 hg => by
      have hc : ∀ b i u, (Value.slice va pre.length vc).ownBlock ≠ some b → W.cell? ⟨b, i, none⟩ = some u → w6.cell? ⟨b, i, none⟩ = some u := fun b i u hb hu => hg.cell (hcellA b i u hu) (fun e => hb e.symm)
      have hb2 : (Value.slice va pre.length vc).ownBlock ≠ some B := fun e => by have := hbp _ e; omega
      have hbx : (Value.slice va pre.length vc).ownBlock ≠ some x.1 := fun e => by have := hbp _ e; omega
      exact ⟨⟨hc _ _ _ hb2 z0, hc _ _ _ hbx x0, hc _ _ _ hbx x1, hc _ _ _ hbx x2, hc _ _ _ hbx x3⟩, (FrS.of hbA).trans (FrS.grown hg (fun r e => e)), (hg.block _ (by simp; omega) (fun e => hb2 e.symm)).trans ((hbA.block _ (by omega)).trans hbv)⟩
    have HROW := Lib.hid hrow
    have HB := Lib.hid hb
    have HBL := Lib.hid hbl
    have HL := Lib.hid hL
    have HBP := Lib.hid hbp
    clear hmm hrg hx x0 x1 x2 x3 z0 hrow hb hbl hbv hr hL0
    gi_upto_region 6 with fail
    refine wpIn_region_last #[{ dst := some 13, op := Op.load 43 (Operand.tmp 3), type := 43, pos := "memory.go:153", after := #[], guard := none }, { dst := some 14, op := Op.move (Operand.tmp 4), type := 63, pos := "memory.go:153", after := #[], guard := none }, { dst := some 15, op := Op.nilCheck (Operand.tmp 14), type := 0, pos := "memory.go:153", after := #[{ on := 1, ground := Ground.data }], guard := none }, { dst := some 16, op := Op.fieldAddr 78 (Operand.tmp 15) 0, type := 0, pos := "memory.go:153", after := #[{ on := 2, ground := Ground.data }], guard := none }, { dst := some 17, op := Op.fieldAddr 73 (Operand.tmp 16) 0, type := 0, pos := "memory.go:153", after := #[{ on := 3, ground := Ground.data }], guard := none }, { dst := some 18, op := Op.load 34 (Operand.tmp 17), type := 34, pos := "memory.go:153", after := #[{ on := 4, ground := Ground.data }], guard := none }, { dst := some 19, op := Op.buildSlice 43 1 #[(0, Operand.tmp 18)], type := 43, pos := "memory.go:153", after := #[{ on := 5, ground := Ground.data }], guard := none }, { dst := some 20, op := Op.call { callee := Callee.builtin Builtin.append, args := #[Operand.tmp 13, Operand.tmp 19], argTypes := #[43, 43] }, type := 43, pos := "memory.go:153", after := #[{ on := 0, ground := Ground.data }, { on := 6, ground := Ground.data }], guard := none }] { dst := none, op := Op.store 43 (Operand.tmp 3) (Operand.tmp 20), type := 0, pos := "memory.go:153", after := #[{ on := 7, ground := Ground.data }, { on := 7, ground := Ground.chain }, { on := 0, ground := Ground.phase }, { on := 1, ground := Ground.phase }, { on := 2, ground := Ground.phase }, { on := 3, ground := Ground.phase }, { on := 4, ground := Ground.phase }, { on := 5, ground := Ground.phase }, { on := 6, ground := Ground.phase }, { on := 7, ground := Ground.phase }], guard := none } rfl (by kernel_rfl) (by kernel_rfl) (by kernel_rfl) (fun w' => w'.cell? ⟨B, 0, none⟩ = some (.slice va pre.length vc) ∧ w'.cell? ⟨x.1, 0, none⟩ = some (.int .i64 x.2.f) ∧ w'.cell? ⟨x.1, 1, none⟩ = some (.int .i64 x.2.k) ∧ w'.cell? ⟨x.1, 2, none⟩ = some (.int .i64 x.2.n) ∧ w'.cell? ⟨x.1, 3, none⟩ = some (.int .i64 x.2.r)) ?_ (fun hHeld => ?_)
    · first | exact hS1 | exact HSC.out | exact HSA.out
    refine wpAnyH_take (i := 0) (oi := { dst := some 13, op := Op.load 43 (Operand.tmp 3), type := 43, pos := "memory.go:153", after := #[], guard := none }) (v := ?_) rfl (by kernel_rfl) (by kernel_rfl) (by kernel_rfl) (fun _ _ _ h => h) (Or.inl ⟨by rfl, ?_⟩) (by assumption) ?_
    rotate_left
    · ((intro w hSw; (try dsimp only at hSw); go_simp; (try rw [if_neg (by omega)])); try with_reducible rfl)
    (try simp only [Act.put, List.setIfInBounds_toArray, List.set_cons_zero, List.set_cons_succ])
    refine wpAnyH_take (i := 1) (oi := { dst := some 14, op := Op.move (Operand.tmp 4), type := 63, pos := "memory.go:153", after := #[], guard := none }) (v := ?_) rfl (by kernel_rfl) (by kernel_rfl) (by kernel_rfl) (fun _ _ _ h => h) (Or.inl ⟨by rfl, ?_⟩) (by assumption) ?_
    rotate_left
    · ((intro w hSw; (try dsimp only at hSw); go_simp; (try rw [if_neg (by omega)])); try with_reducible rfl)
    (try simp only [Act.put, List.setIfInBounds_toArray, List.set_cons_zero, List.set_cons_succ])
    refine wpAnyH_ready (rs := [2]) (by kernel_rfl) (by simp) ?_
    refine AllReadyH.cons (o := { dst := some 15, op := Op.nilCheck (Operand.tmp 14), type := 0, pos := "memory.go:153", after := #[{ on := 1, ground := Ground.data }], guard := none }) rfl (fun K hK => ?_) AllReadyH.nil
    go_simp
    refine hK.out _ _ ?_ (fun hHeld => ?_)
    · first | exact hS1 | exact HSC.out | exact HSA.out
    clear hK K
    (try simp only [Act.put, List.setIfInBounds_toArray, List.set_cons_zero, List.set_cons_succ])
    refine wpAnyH_take (i := 3) (oi := { dst := some 16, op := Op.fieldAddr 78 (Operand.tmp 15) 0, type := 0, pos := "memory.go:153", after := #[{ on := 2, ground := Ground.data }], guard := none }) (v := ?_) rfl (by kernel_rfl) (by kernel_rfl) (by kernel_rfl) (fun _ _ _ h => h) (Or.inl ⟨by rfl, ?_⟩) (by assumption) ?_
    rotate_left
    · ((intro w hSw; (try dsimp only at hSw); go_simp; (try rw [if_neg (by omega)])); try with_reducible rfl)
    (try simp only [Act.put, List.setIfInBounds_toArray, List.set_cons_zero, List.set_cons_succ])
    refine wpAnyH_take (i := 4) (oi := { dst := some 17, op := Op.fieldAddr 73 (Operand.tmp 16) 0, type := 0, pos := "memory.go:153", after := #[{ on := 3, ground := Ground.data }], guard := none }) (v := ?_) rfl (by kernel_rfl) (by kernel_rfl) (by kernel_rfl) (fun _ _ _ h => h) (Or.inl ⟨by rfl, ?_⟩) (by assumption) ?_
    rotate_left
    · ((intro w hSw; (try dsimp only at hSw); go_simp; (try rw [if_neg (by omega)])); try with_reducible rfl)
    (try simp only [Act.put, List.setIfInBounds_toArray, List.set_cons_zero, List.set_cons_succ])
    refine wpAnyH_take (i := 5) (oi := { dst := some 18, op := Op.load 34 (Operand.tmp 17), type := 34, pos := "memory.go:153", after := #[{ on := 4, ground := Ground.data }], guard := none }) (v := ?_) rfl (by kernel_rfl) (by kernel_rfl) (by kernel_rfl) (fun _ _ _ h => h) (Or.inl ⟨by rfl, ?_⟩) (by assumption) ?_
    rotate_left
    · ((intro w hSw; (try dsimp only at hSw); go_simp; (try rw [if_neg (by omega)])); try with_reducible rfl)
    (try simp only [Act.put, List.setIfInBounds_toArray, List.set_cons_zero, List.set_cons_succ])
    refine wpAnyH_ready (rs := [6]) (by kernel_rfl) (by simp) ?_
    refine AllReadyH.cons (o := { dst := some 19, op := Op.buildSlice 43 1 #[(0, Operand.tmp 18)], type := 43, pos := "memory.go:153", after := #[{ on := 5, ground := Ground.data }], guard := none }) rfl (fun K hK => ?_) AllReadyH.nil
    go_simp
    refine hK.out _ _ ?_ (fun hHeld => ?_)
    · first | exact hS1 | exact HSC.out | exact HSA.out
    clear hK K
    (try simp only [Act.put, List.setIfInBounds_toArray, List.set_cons_zero, List.set_cons_succ])
    refine wpAnyH_ready (rs := [7]) (by kernel_rfl) (by simp) ?_
    refine AllReadyH.cons (o := { dst := some 20, op := Op.call { callee := Callee.builtin Builtin.append, args := #[Operand.tmp 13, Operand.tmp 19], argTypes := #[43, 43] }, type := 43, pos := "memory.go:153", after := #[{ on := 0, ground := Ground.data }, { on := 6, ground := Ground.data }], guard := none }) rfl (fun K hK => ?_) AllReadyH.nil
    (refine step_append_any (by rfl) _ _ _ (by rfl) (B + 2) 34 i0 _ 4 32 Try.underlying43 hi0 hz0 hz1 hz2 rfl (by omega) (.slice va pre.length vc) pre.length _ (by rfl) HRW.out ⟨W.heap.size, 0, none⟩ 1 1 (ME.kyL x.2.key) (by rfl) (by rfl) (World.news_of_block (cs := #[.int .i64 x.2.f, .int .i64 x.2.k, .int .i64 x.2.n, .int .i64 x.2.r]) (t := 34) (fr := (0, 0)) (heap_alloc_new W.drew _)) (by simp [ME.kyL, Value.oneCell']) (by unfold maxLen; omega) (by omega) (by simp; omega) ?_; intro v' w6 hown1 hgrow hat; obtain ⟨gg, cap', rfl⟩ := ownsRow_succ hown1; have HS6 := Lib.hid (HST.out w6 hgrow); have hS1 := HS6.out.1)
    refine hK.out _ _ ?_ (fun hHeld => ?_)
    · first | exact hS1 | exact HSC.out | exact HSA.out
    clear hK K
    (try simp only [Act.put, List.setIfInBounds_toArray, List.set_cons_zero, List.set_cons_succ])
    refine wpAnyH_done (by kernel_rfl) ?_ _
    show Oper.wp _ _ _ _ _ _
    obtain ⟨-, hfr6, hb6⟩ := HS6.out
    have hc6 := one_cell hb6
    have hf6 : w6.frozen? ⟨B, 0, none⟩ = false := by simp [World.frozen?, hb6]
    have HOW := Lib.hid hown1
    have HFR6 := Lib.hid hfr6
    have HB6 := Lib.hid hb6
    clear hown1 hgrow hat hS1 hfr6 hb6
    go_wp2
    have hgg : B + 2 ≤ gg := (HOW.out.lt gg rfl).1
    have hfs : FrS (fun b => b = B) w6 (w6.setCell ⟨B, 0, none⟩ (.slice (some ⟨gg, 0, none⟩) (pre.length + 1) cap')) := FrS.set (S := fun b => b = B) _ (b := B) rfl _
    refine ⟨?_, trivial, ⟨R, by rw [HL.out]; simp⟩, ⟨_, heap_setCell_same w6 B 0 _ _ _ HB6.out, ?_⟩, ?_, ?_⟩
    · refine ((HFR6.out.keepsFrom _ (fun b o hb _ ho => ?_)).trans (hfs.keepsFrom _ (fun b o hb hN _ => by omega)))
      cases hc : o.isCells with
      | true => rfl
      | false => exact absurd hb (own_notobj HROW.out ho hc)
    · rw [List.map_append, List.length_append]
      refine hfs.own (ho := ?_) (fun q e x => by have : gg = q := Option.some.inj e; omega)
      rw [List.map_cons, List.map_nil, ME.kc_app, ME.kc_one]
      exact HOW.out
    · have h3 := (HFR6.out.block (B + 1) (Array.getElem?_eq_some_iff.1 HB.out).1 (fun e => by have := HBP.out _ e; omega)).trans HB.out
      exact (hfs.block _ (Array.getElem?_eq_some_iff.1 h3).1 (fun e => by omega)).trans h3
    · exact hfs.below w (HFR6.out.below w HBL.out (fun b e => by have := HBP.out _ e; have := HBB.out; omega)) (fun b e => by have := HBB.out; omega)
  case done =>
    rintro D zs W hD hz ⟨-, ⟨v, hbv, hrow⟩, hb, hbl⟩ hK
    rw [hz] at hrow
    have c0 := one_cell hbv
    have HR := Lib.hid ((FrS.grown (S := fun b => b = D) (grownBy_putObj' W D (.deferred none)) (fun r e => (Option.some.inj e).symm)).own hrow (fun q e x => by rw [x] at e; exact own_notobj hrow hK rfl e))
    have HBL := Lib.hid (hbl.trans (belowK_b (w := w) (Nat.le_refl _) W D _ (.deferred none) (by have := HBB.out; omega) hK rfl rfl))
    clear hrow hbl hb hbv
    gi_wp2
    refine ⟨by simp, .inl ⟨_, _, rfl, run_takeDeferred hK, ?_⟩⟩
    exact ⟨_, results_tmp rfl _ _ _, v, rfl, own_base HR.out (by have := HBB.out; omega), HBL.out⟩
  case stop =>
    rintro D c pre W _ _ h _
    exact h.elim
theorem list_any (w : World) (M mb root : Nat) (bu : Int) (L : List (Nat × En)) (n : Nat) (F : Nat → Prop) (h : MmAt w M mb root bu L n F) (hlen : L.length ≤ 1000000) :
    Calls Try.prog 18 #[ptr M] w fun e W' => ∃ v, e = .returned v ∧ W'.ownsRow w.heap.size 34 4 v L.length (ME.kc (L.map fun x => x.2.key)) ∧ Below w.heap.size w W' :=
  callsIn_wide.1 (list_in 3 (Nat.le_refl _) w M mb root bu L n F h hlen)
end Go.Proofs.Ytmnajongifdajaa
