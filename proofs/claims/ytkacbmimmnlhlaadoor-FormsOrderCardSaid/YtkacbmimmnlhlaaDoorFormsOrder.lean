/- For every list of numbers, every text and every span FormsOrder returns true: the order of characters is that of the reference. No conditions. -/
import Derived.Test.YtkacbmimmnlhlaaDoorFrmSane
import Derived.Test.YtkacbmimmnlhlaaDoorClsLaid
import Derived.ChangeMaps5
import Derived.Deep.RegionHeld3
import Derived.Deep.RegionWith
import Derived.Deep.AppendLies
import Derived.Deep.Cut
import Derived.Deep.CutRange
namespace Go.Proofs.YtkacbmimmnlhlaaDoor.formsOrder
open Go.ChangeShapes Go.WideShapes Go.ChangeAt Go.RowKit Go.Joins Go.Deep Go.ChangeMaps
set_option linter.unusedVariables false

theorem text_of {v : Value} {a : List Int} {w W : World} (n : Nat) (hn : n ≤ 1000) (hv : RowAt w v (a.map (Value.int .i64))) (hL : a.length ≤ maxLen) (hE : ∀ x, x ∈ a → -9223372036854775808 ≤ x ∧ x ≤ 9223372036854775807) (hb : Below w.heap.size w W) :
    Calls Tryd.prog 10 #[v, .int .i64 n] W fun e W' => ∃ t : ByteArray, e = .returned (.string t) ∧ t.size ≤ n ∧ Below W.heap.size W W' :=
  text_any v a n W (hv.keep hb) hE hL hn
/-- The cells of spans. -/
def spi (E : List (Int × Int)) : List Value := E.flatMap fun x => [.int .i64 x.1, .int .i64 x.2]
theorem spi_of (l : List (Nat × Nat)) : spi (l.map fun x => ((x.1 : Int), (x.2 : Int))) = l.flatMap fun x => [.int .i64 (x.1 : Int), .int .i64 (x.2 : Int)] := by
  unfold spi
  rw [List.flatMap_map]
theorem spi_at : ∀ (E : List (Int × Int)) (i : Nat) (x : Int × Int), E[i]? = some x → (spi E)[i * 2]? = some (.int .i64 x.1) ∧ (spi E)[i * 2 + 1]? = some (.int .i64 x.2)
  | [], i, x, h => by simp at h
  | y :: l, 0, x, h => by
    obtain rfl : y = x := by simpa using h
    exact ⟨rfl, rfl⟩
  | y :: l, i + 1, x, h => by
    have := spi_at l i x (by simpa using h)
    rw [show (i + 1) * 2 = i * 2 + 1 + 1 by omega]
    exact this
theorem kp2 {W w' : World} {p q : Addr} {a b : Value} (h1 : W.cell? p = some a) (h2 : W.cell? q = some b) (h : Below W.heap.size W w') : Below W.heap.size W w' ∧ w'.cell? p = some a ∧ w'.cell? q = some b :=
  ⟨h, (h.cell (World.block_lt_of_cell? W _ h1)).trans h1, (h.cell (World.block_lt_of_cell? W _ h2)).trans h2⟩
theorem order_src (s : ByteArray) (f t : Int) (g : Nat × Nat) (w : World) (hl : Laid w g) (hs : s.size ≤ 1000000000) :
    Calls Tryd.prog 15 #[.string s, .agg #[.int .i64 f, .int .i64 t]] w fun e W' => ∃ v', e = .returned v' ∧ Src W' v' ((FP.ord s f t).map (Value.int .i64)) ∧ Below w.heap.size w W' :=
  (order_any s f t g w hl hs).mono fun _ _ ⟨v', h1, h2, h3⟩ => ⟨v', h1, own_src h2 (by rw [List.length_map]), h3⟩
theorem rorder_src (s : ByteArray) (f t : Int) (w : World) (hs : s.size ≤ 1000000000) :
    Calls Tryd.prog 16 #[.string s, .agg #[.int .i64 f, .int .i64 t]] w fun e W' => ∃ v', e = .returned v' ∧ Src W' v' ((FP.ord s f t).map (Value.int .i64)) ∧ Below w.heap.size w W' :=
  (rorder_any s f t w hs).mono fun _ _ ⟨v', h1, h2, h3⟩ => ⟨v', h1, own_src h2 (by rw [List.length_map]), h3⟩
theorem step_two {ops : Array Oper} {o : Oper} {a : Act} {w : World} {K : Act → World → Prop} {Q : Exit → Act → World → Prop} {E : Prop} (hgd : o.guard = none) (s x : Operand)
    (ho : o.op = .call { callee := .builtin .append, args := #[s, x], argTypes := #[30, 30] })
    (base n b : Nat) (v : Value) (xs : List Value) (p q r t : Int) (hs : a.eval s = v) (hown : w.ownsRow base 29 2 v n xs)
    (hx : a.eval x = .slice (some ⟨b, 0, none⟩) 2 2) (hb : w.heap[b]? = some (.cells #[.int .i64 p, .int .i64 q, .int .i64 r, .int .i64 t] 29 (0, 0))) (hn : n ≤ 1000) (hbase : base ≤ w.heap.size)
    (h : ∀ g cap w', w'.ownsRow base 29 2 (.slice (some ⟨g, 0, none⟩) (n + 2) cap) (n + 2) (xs ++ [.int .i64 p, .int .i64 q, .int .i64 r, .int .i64 t]) → w.grownBy w' v.ownBlock → K (a.put o.dst (.slice (some ⟨g, 0, none⟩) (n + 2) cap)) w') :
    if Region.wanted o (yielded ops a.tmps) = true then Oper.wp Tryd.prog o a w K Q else E := by
  obtain ⟨i0, hi, hz0, hz1, hz2⟩ := info_parts info_span
  exact step_append_lies w hgd s x 30 ho base 29 i0 _ 2 16 Tryd.underlying30 hi hz0 hz1 hz2 rfl (by omega) v n xs hs hown ⟨b, 0, none⟩ 2 2 [.int .i64 p, .int .i64 q, .int .i64 r, .int .i64 t] hx rfl (World.news_of_block hb) (by simp [Value.oneCell']) (by omega) (by unfold maxLen; omega) (by omega) hbase w.heap.size rfl (fun g cap w' h1 h2 _ _ => h g cap w' h1 h2)
theorem own_spi {w : World} {B e n : Nat} {v : Value} {E : List (Int × Int)} (h : w.ownsRow B e 2 v n (spi E)) (hn : n = E.length) : ∃ ao c, v = .slice ao E.length c ∧ ∀ i x, E[i]? = some x → ∃ g, ao = some ⟨g, 0, none⟩ ∧ g < w.heap.size ∧ w.cell? ⟨g, i * 2, none⟩ = some (.int .i64 x.1) ∧ w.cell? ⟨g, i * 2 + 1, none⟩ = some (.int .i64 x.2) := by
  subst hn
  rcases h.2 with ⟨hv, hn⟩ | ⟨g, cap, cur, hv, hb, hg, _⟩
  · exact ⟨none, 0, by rw [hv, hn], fun i x hx => by rw [List.eq_nil_of_length_eq_zero hn] at hx; simp at hx⟩
  · subst hv
    refine ⟨_, cap, rfl, fun i x hx => ⟨g, rfl, (Array.getElem?_eq_some_iff.1 hg).1, ?_⟩⟩
    obtain ⟨a1, a2⟩ := spi_at E i x hx
    have c1 := h.cells (g := g) rfl _ _ a1
    have c2 := h.cells (g := g) rfl _ _ a2
    rw [addr_add] at c1 c2
    exact ⟨c1, c2⟩
theorem own_baseN {w : World} {B B' e size n : Nat} {v : Value} {xs : List Value} (h : w.ownsRow B e size v n xs) (hB : B' ≤ B) : w.ownsRow B' e size v n xs := by
  refine ⟨h.1, ?_⟩
  rcases h.2 with h1 | ⟨g, cap, cur, rfl, hb, rest⟩
  · exact .inl h1
  · exact .inr ⟨g, cap, cur, rfl, Nat.le_trans hB hb, rest⟩
theorem split_base (s : ByteArray) (g : Nat × Nat) (w : World) (B : Nat) (hB : B ≤ w.heap.size) (hl : Laid w g) (hs : s.size ≤ 1000000000) :
    Calls Tryd.prog 14 #[.string s] w fun e W' => ∃ v, e = .returned v ∧ W'.ownsRow B 29 2 v (CP.split s).length (spi ((CP.split s).map fun x => ((x.1 : Int), (x.2 : Int)))) ∧ Below w.heap.size w W' :=
  (split_any s g w hl hs).mono fun e W' ⟨v, h1, h2, h3⟩ => ⟨v, h1, by rw [spi_of]; exact own_baseN h2 hB, h3⟩
set_option maxRecDepth 100000 in
set_option maxHeartbeats 4000000 in
theorem walk (v0 : Value) (a0 : List Int) (a1 : ByteArray) (a2 : Int) (b2 : Int) (g : Nat × Nat) (wa1 : a1.size ≤ maxLen) (wa2 : (Lit.int .i64 a2).wf = true) (wb2 : (Lit.int .i64 b2).wf = true) (w : World) (hl : Laid w g) (H0 : RowAt w v0 (a0.map (Value.int .i64))) (L0 : a0.length ≤ maxLen ∧ ∀ a n c, v0 = .slice a n c → n ≤ c) (E0 : ∀ x, x ∈ a0 → -9223372036854775808 ≤ x ∧ x ≤ 9223372036854775807) :
    Calls Tryd.prog 4 #[v0, .string a1, .agg #[.int .i64 a2, .int .i64 b2]] w fun e w' => e = .returned (.bool true) ∧ Below w.heap.size w w' := by
  have HL : Hid (∀ B, Below w.heap.size w B → Laid B g) := Lib.hid fun B hb => hl.mono hb
  obtain ⟨W0, hW⟩ : ∃ W, w.alloc (.cells #[.int .i64 a2, .int .i64 b2] 29) = W := ⟨_, rfl⟩
  have q0 : W0.cell? ⟨w.heap.size, 0, none⟩ = some (.int .i64 a2) := by rw [← hW]; exact (two_cells (World.alloc_heap_new w _)).1
  have q1 : W0.cell? ⟨w.heap.size, 1, none⟩ = some (.int .i64 b2) := by rw [← hW]; exact (two_cells (World.alloc_heap_new w _)).2
  have acc0 : Below w.heap.size w W0 := by rw [← hW]; exact balloc (Below.refl _ _) _
  have HM0 := Lib.hid (fun W (hb : Below w.heap.size w W) => text_of 60 (by omega) H0 L0.1 E0 hb)
  unfold maxLen at wa1
  clear H0 E0 hl
  go_enter Tryd.func4, Tryd.ntmps4
  go_wp2_with fail
  try rw [hW]
  clear hW
  refine (sane_any g _ (HL.out _ acc0)).mono ?_
  rintro e w1 ⟨rfl, hb1⟩
  have acc1 := bnext acc0 hb1
  replace q0 := (hb1.cell (World.block_lt_of_cell? _ _ q0)).trans q0
  replace q1 := (hb1.cell (World.block_lt_of_cell? _ _ q1)).trans q1
  clear hb1 acc0
  go_upto_region 2 with fail
  go_cut [8] from 13 (fun s8 wx => ∃ t : ByteArray, s8 = .string t ∧ t.size ≤ 160 ∧ Below w1.heap.size w1 wx)
  case first =>
    by_cases h100 : a1.size ≤ 100
    · have hmn : min (a1.size : Int) 100 = (a1.size : Int) := by omega
      have hS1 : (a1).size ≤ 100 := h100
      go_region_with (go_at_call 10; refine (HM0.out _ (bnext acc1 (by (repeat' (first | exact Below.refl _ _ | (with_reducible assumption) | (refine bnext ?_ (by with_reducible assumption)) | (refine balloc ?_ _) | (refine below_drewN ?_ _) | (refine Below.drew ?_)))))).mono ?_; rintro e w2 ⟨t, rfl, ht, hb2⟩)
      all_goals
        go_wp2_with fail
        go_meet
        exact ⟨_, rfl, by rw [ByteArray.size_append]; omega, by (repeat' (first | exact Below.refl _ _ | (with_reducible assumption) | (refine bnext ?_ (by with_reducible assumption)) | (refine balloc ?_ _) | (refine below_drewN ?_ _) | (refine Below.drew ?_)))⟩
      
    · have hmn : min (a1.size : Int) 100 = (100 : Int) := by omega
      have hS1 : (a1.extract 0 100).size ≤ 100 := by simp; omega
      go_region_with (go_at_call 10; refine (HM0.out _ (bnext acc1 (by (repeat' (first | exact Below.refl _ _ | (with_reducible assumption) | (refine bnext ?_ (by with_reducible assumption)) | (refine balloc ?_ _) | (refine below_drewN ?_ _) | (refine Below.drew ?_)))))).mono ?_; rintro e w2 ⟨t, rfl, ht, hb2⟩)
      all_goals
        go_wp2_with fail
        go_meet
        exact ⟨_, rfl, by rw [ByteArray.size_append]; omega, by (repeat' (first | exact Below.refl _ _ | (with_reducible assumption) | (refine bnext ?_ (by with_reducible assumption)) | (refine balloc ?_ _) | (refine below_drewN ?_ _) | (refine Below.drew ?_)))⟩
      
  case rest =>
    obtain ⟨t, rfl, ht, hbc⟩ := hcut
    have acc2 := bnext acc1 hbc
    replace q0 := (hbc.cell (World.block_lt_of_cell? _ _ q0)).trans q0
    replace q1 := (hbc.cell (World.block_lt_of_cell? _ _ q1)).trans q1
    have ht1 : t.size ≤ 1000000000 := by omega
    clear hbc acc1 HM0
    obtain ⟨x, hx⟩ : ∃ x, bits BinOp.and IntKind.i64 a2 7 = x := ⟨_, rfl⟩
    obtain ⟨y, hy⟩ : ∃ y, bits BinOp.and IntKind.i64 b2 7 = y := ⟨_, rfl⟩
    obtain ⟨z, hz⟩ : ∃ z, wrap64 (x + y) = z := ⟨_, rfl⟩
    go_wp2_with fail
    obtain ⟨V0, hV0⟩ : ∃ V, wc.alloc (.cells #[.int .i64 x, .int .i64 z] 29) = V := ⟨_, rfl⟩
    have r0 : V0.cell? ⟨wc.heap.size, 0, none⟩ = some (.int .i64 x) := by rw [← hV0]; exact (two_cells (World.alloc_heap_new wc _)).1
    have r1 : V0.cell? ⟨wc.heap.size, 1, none⟩ = some (.int .i64 z) := by rw [← hV0]; exact (two_cells (World.alloc_heap_new wc _)).2
    have hbV : Below wc.heap.size wc V0 := by rw [← hV0]; exact balloc (Below.refl _ _) _
    replace q0 := (hbV.cell (World.block_lt_of_cell? _ _ q0)).trans q0
    replace q1 := (hbV.cell (World.block_lt_of_cell? _ _ q1)).trans q1
    rw [hV0]
    have acc3 := bnext acc2 hbV
    clear hV0 hx hy hz hbV acc2
    obtain ⟨i0, hi, hz0, hz1, hz2⟩ := info_parts info_span
    have HSP := Lib.hid fun V (hV : Below V0.heap.size V0 V) => split_base t g V V0.heap.size hV.size (HL.out _ (bnext acc3 hV)) ht1
    have hlen := CP.split_length t
    obtain ⟨E, hE⟩ : ∃ E, ((CP.split t).map fun x => ((x.1 : Int), (x.2 : Int))) = E := ⟨_, rfl⟩
    have hEl : (CP.split t).length = E.length := by rw [← hE, List.length_map]
    rw [hE, hEl] at HSP
    rw [hEl] at hlen
    clear hE hEl
    go_upto_region 4 with fail
    go_cut [10] from 32 (fun s10 wx => ∃ v, s10 = v ∧ wx.ownsRow V0.heap.size 29 2 v (E.length + 2) (spi (E ++ [(a2, b2), (x, z)])) ∧ Below V0.heap.size V0 wx)
    case first =>
      have hlen : E.length ≤ 1000 := by omega
      go_region_held3 (fun w' => Below V0.heap.size V0 w' ∧ w'.cell? ⟨w.heap.size, 0, none⟩ = some (.int .i64 a2) ∧ w'.cell? ⟨w.heap.size, 1, none⟩ = some (.int .i64 b2) ∧ w'.cell? ⟨wc.heap.size, 0, none⟩ = some (.int .i64 x) ∧ w'.cell? ⟨wc.heap.size, 1, none⟩ = some (.int .i64 z)) ((refine kp4 q0 q1 r0 r1 ?_; (first | (((repeat' (first | exact Below.refl _ _ | (with_reducible assumption) | (refine bnext ?_ (by with_reducible assumption)) | (refine balloc ?_ _) | (refine below_drewN ?_ _) | (refine Below.drew ?_)))); done) | (exact Below.grown (a := V0) (by (repeat' (first | exact Below.refl _ _ | (with_reducible assumption) | (refine bnext ?_ (by with_reducible assumption)) | (refine balloc ?_ _) | (refine below_drewN ?_ _) | (refine Below.drew ?_)))) hgrow hbb (fun j hj => (hown.lt j hj).1))))) (first | (go_at_call 14; refine (HSP.out _ (by (repeat' (first | exact Below.refl _ _ | (with_reducible assumption) | (refine bnext ?_ (by with_reducible assumption)) | (refine balloc ?_ _) | (refine below_drewN ?_ _) | (refine Below.drew ?_))))).mono ?_; rintro e w3 ⟨v, rfl, hown, hb3⟩) | (have hq := heap_alloc_new w3 (.cells #[.int .i64 a2, .int .i64 b2, .int .i64 x, .int .i64 z] 29); have hbb : V0.heap.size ≤ (w3.alloc (.cells #[.int .i64 a2, .int .i64 b2, .int .i64 x, .int .i64 z] 29)).heap.size := (bnext (w := V0) (by (repeat' (first | exact Below.refl _ _ | (with_reducible assumption) | (refine bnext ?_ (by with_reducible assumption)) | (refine balloc ?_ _) | (refine below_drewN ?_ _) | (refine Below.drew ?_)))) (balloc (Below.refl _ w3) _)).size; refine step_two (by rfl) _ _ (by rfl) V0.heap.size E.length w3.heap.size v _ a2 b2 x z (by rfl) (hown.alloc _) (by rfl) hq hlen hbb ?_; intro gg cap' w4 hown1 hgrow) | (have hq := (hb3.block V0.heap.size (by show V0.heap.size < _; simp; done)).trans (heap_alloc_new V0 (.cells #[.int .i64 a2, .int .i64 b2, .int .i64 x, .int .i64 z] 29)); have hbb : V0.heap.size ≤ w3.heap.size := (bnext (w := V0) (w1 := (V0.alloc (.cells #[.int .i64 a2, .int .i64 b2, .int .i64 x, .int .i64 z] 29)).drew) (by (repeat' (first | exact Below.refl _ _ | (with_reducible assumption) | (refine bnext ?_ (by with_reducible assumption)) | (refine balloc ?_ _) | (refine below_drewN ?_ _) | (refine Below.drew ?_)))) hb3).size; refine step_two (by rfl) _ _ (by rfl) V0.heap.size E.length V0.heap.size v _ a2 b2 x z (by rfl) hown (by rfl) hq hlen hbb ?_; intro gg cap' w4 hown1 hgrow))
      all_goals
        go_wp2_with fail
        go_meet
        exact ⟨_, rfl, by (have h4 := hown1; simpa [spi] using h4), by first | (((repeat' (first | exact Below.refl _ _ | (with_reducible assumption) | (refine bnext ?_ (by with_reducible assumption)) | (refine balloc ?_ _) | (refine below_drewN ?_ _) | (refine Below.drew ?_)))); done) | (exact Below.grown (a := V0) (by (repeat' (first | exact Below.refl _ _ | (with_reducible assumption) | (refine bnext ?_ (by with_reducible assumption)) | (refine balloc ?_ _) | (refine below_drewN ?_ _) | (refine Below.drew ?_)))) hgrow hbb (fun j hj => (hown.lt j hj).1))⟩
    case rest =>
      obtain ⟨v, rfl, hown, hbc⟩ := hcut
      obtain ⟨n, hn⟩ : ∃ n, (E ++ [(a2, b2), (x, z)]).length = n := ⟨_, rfl⟩
      have hn1 : n ≤ 1000 := by rw [← hn, List.length_append]; simp; omega
      have hn2 : n = E.length + 2 := by rw [← hn, List.length_append]; rfl
      obtain ⟨ao, ac, rfl, hcell⟩ := own_spi hown (by rw [hn, hn2])
      rw [hn]
      generalize E ++ [(a2, b2), (x, z)] = F at hn hcell hown
      have HC := Lib.hid hcell
      have acc4 := bnext acc3 hbc
      have ACC := Lib.hid acc4
      have HP := Lib.hid fun (f u : Int) (W : World) (hW : Below w.heap.size w W) => (order_src t f u g W (HL.out _ hW) ht1)
      have HQ := Lib.hid fun (f u : Int) (W : World) => rorder_src t f u W ht1
      have HLN := Lib.hid fun (f u : Int) => (show (FP.ord t f u).length ≤ 9223372036854775807 by have := @FP.ord_length t f u; omega)
      clear hown hcell hbc acc3 acc4 q0 q1 r0 r1 HSP hlen hn2 HL
      go_wp2_with fail
      go_loopw [11] (fun v11 wr => ∃ k : Nat, v11 = .int .i64 k ∧ k ≤ n ∧ Below wc.heap.size wc wr) (fun v _ => n - (intOf v).toNat)
      case atStart => exact ⟨0, rfl, Nat.zero_le _, Below.refl _ _⟩
      case round =>
        obtain ⟨k, rfl, hk, hb⟩ := hrel
        by_cases h1 : k < n
        · have h1i : (k : Int) < (n : Int) := by omega
          obtain ⟨y, hy⟩ : ∃ y, F[k]? = some y := ⟨_, List.getElem?_eq_getElem (by omega)⟩
          obtain ⟨g4, rfl, hg4, c0, c1⟩ := HC.out k y hy
          replace c0 := (hb.cell (p := ⟨g4, k * 2, none⟩) hg4).trans c0
          replace c1 := (hb.cell (p := ⟨g4, k * 2 + 1, none⟩) hg4).trans c1
          obtain ⟨y1, y2⟩ := y
          simp only at c0 c1
          have HA := Lib.hid fun (V : World) (hV : Below wr.heap.size wr V) => HP.out y1 y2 V (bnext ACC.out (bnext hb hV))
          have HB := Lib.hid fun (V : World) => HQ.out y1 y2 V
          have hll := HLN.out y1 y2
          have HIS := Lib.hid fun (u v : Value) (V : World) (hu : RowAt V u ((FP.ord t y1 y2).map (Value.int .i64))) (hv : RowAt V v ((FP.ord t y1 y2).map (Value.int .i64))) => is_any u v (FP.ord t y1 y2) V hu hv hll
          generalize FP.ord t y1 y2 = L at HA HB HIS
          have HBK := Lib.hid hb
          have hk0 : (0 : Int) ≤ (k : Int) := by omega
          clear hy hb hll HC HP HQ HLN hn
          go_wp2_with fail
          go_region_held3 (fun w' => Below wr.heap.size wr w' ∧ w'.cell? ⟨g4, k * 2, none⟩ = some (.int .i64 y1) ∧ w'.cell? ⟨g4, k * 2 + 1, none⟩ = some (.int .i64 y2)) ((refine kp2 c0 c1 ?_; (repeat' (first | exact Below.refl _ _ | (with_reducible assumption) | (refine bnext ?_ (by with_reducible assumption)) | (refine balloc ?_ _) | (refine below_drewN ?_ _) | (refine Below.drew ?_))))) (first | (go_at_call 15; refine (HA.out _ (by (repeat' (first | exact Below.refl _ _ | (with_reducible assumption) | (refine bnext ?_ (by with_reducible assumption)) | (refine balloc ?_ _) | (refine below_drewN ?_ _) | (refine Below.drew ?_))))).mono ?_; rintro e w6 ⟨va, rfl, sa, hb6⟩) | (go_at_call 16; refine (HB.out _).mono ?_; rintro e w7 ⟨vb, rfl, sb, hb7⟩) | (go_at_call 11; refine (HIS.out _ _ _ (sa.keep (by (repeat' (first | exact Below.refl _ _ | (with_reducible assumption) | (refine bnext ?_ (by with_reducible assumption)) | (refine balloc ?_ _) | (refine below_drewN ?_ _) | (refine Below.drew ?_))))).row (sb.keep (by (repeat' (first | exact Below.refl _ _ | (with_reducible assumption) | (refine bnext ?_ (by with_reducible assumption)) | (refine balloc ?_ _) | (refine below_drewN ?_ _) | (refine Below.drew ?_))))).row).mono ?_; rintro e w8 ⟨rfl, hb8⟩))
          have hfin : Below wr.heap.size wr w8 := by (repeat' (first | exact Below.refl _ _ | (with_reducible assumption) | (refine bnext ?_ (by with_reducible assumption)) | (refine balloc ?_ _) | (refine below_drewN ?_ _) | (refine Below.drew ?_)))
          have HFIN := Lib.hid (bnext HBK.out hfin)
          clear hfin hb6 hb7 hb8 sa sb c0 c1 HA HB HIS
          go_wp2_with fail
          go_roundw
          case rel => exact ⟨k + 1, by go_num, h1, by first | exact HFIN.out | exact below_drewN HFIN.out _⟩
          case measure => simp [intOf]; omega
        · obtain rfl : k = n := by omega
          go_wp2_with fail
          go_ret
          exact ⟨rfl, bnext ACC.out hb⟩

set_option maxRecDepth 100000 in
theorem lifted (os : Os) (started : os.Started) (H : Type) (enc : TypeId × Value → H) :
    ReturnsInHanded {} Tryd.checked os 4 .any (fun w args => (Rows.formsOrderSpec.pre enc Tryd.prog Tryd.f4 [] false w args ∧ laidMetH Tryd.prog laidL w) ∧ sizedMet enc Tryd.prog Tryd.f4 (OpenSpec.ofChange Rows.formsOrderSpec) false w args)
      (Rows.formsOrderSpec.post enc Tryd.prog Tryd.f4 false true false false) := by
  refine returnsInHanded_of_change_and (C := Tryd.checked) (X := fun w _ => laidMetH Tryd.prog laidL w) (fun _ _ _ hh h => h.of_heap hh) own started (by kernel_rfl) Tryd.func4
    (ChangeSpec.witness_shaped (enc := enc) (C := Tryd.checked) (os := os) (X := fun w _ => laidMetH Tryd.prog laidL w) false (World.doorLaid Tryd.prog 46 os) #[.slice none 0 0, .string ByteArray.empty, .agg #[.int .i64 0, .int .i64 0]] 8 rfl (World.shaped_of_RefB (by kernel_rfl) (by kernel_rfl)) (by kernel_rfl) (by kernel_rfl) (by kernel_rfl) (door_met os _)) ?_
  intro W base args ds gs before hval0 hW _ _ hL _
  have hval : ∀ (j : Nat) t v, Tryd.f4.params[j]? = some t → args[j]? = some v → Value.okWide Tryd.prog W .any base t v := hval0
  have hW' := hW
  obtain ⟨p, q, hA0, hV, rfl, hfz, hnd⟩ := hW
  have hA : DataW.TrodAll enc Tryd.prog W 0 (fun _ => true) true Tryd.f4.params.toList args.toList ds p := hA0
  rw [Tryd.params4] at hA hval
  obtain ⟨v0, vs0, d0, ds0, p0, q0, hargs, rfl, rfl, h0, r0⟩ := trodAll_cons hA
  obtain ⟨v1, vs1, d1, ds1, p1, q1, rfl, rfl, rfl, h1, r1⟩ := trodAll_cons r0
  obtain ⟨v2, vs2, d2, ds2, p2, q2, rfl, rfl, rfl, h2, r2⟩ := trodAll_cons r1
  obtain ⟨rfl, rfl, rfl⟩ := trodAll_nil r2
  obtain rfl : args = #[v0, v1, v2] := by cases args; simp_all
  obtain ⟨rfl, rfl⟩ := trodVars_none hV
  obtain ⟨g, hlaid⟩ := of_laid hL
  have k0 := h0
  have lt0 : ∀ x ∈ p0, x.block < W.heap.size := by obtain ⟨m, hm⟩ := k0; exact DataW.trod_lt m _ _ _ hm
  have k1 := h1
  have lt1 : ∀ x ∈ p1, x.block < W.heap.size := by obtain ⟨m, hm⟩ := k1; exact DataW.trod_lt m _ _ _ hm
  have k2 := h2
  have lt2 : ∀ x ∈ p2, x.block < W.heap.size := by obtain ⟨m, hm⟩ := k2; exact DataW.trod_lt m _ _ _ hm
  obtain ⟨a0, H0, L0, E0⟩ := open_l (hval 0 22 v0 rfl rfl) h0
  obtain ⟨a1, rfl, rfl, rfl, wa1⟩ := open_string Tryd.underlying9 (hval 1 9 v1 rfl rfl) h1
  obtain ⟨a2, b2, rfl, wa2, wb2⟩ := open_pair Tryd.underlying29 (by kernel_rfl) (by kernel_rfl) rfl rfl Tryd.underlying3 (hval 2 29 v2 rfl rfl) h2
  clear hA0 hval0
  refine (walk v0 a0 a1 a2 b2 g wa1 wa2 wb2 W hlaid H0 L0 E0).mono fun e W' ⟨he, bel⟩ => ?_
  subst he
  exact ⟨_, rfl, _, _, _, [], _, [], hW', trodAll_mk1 (shut_bool Tryd.underlying4 _), (trodAll_cons_mk (Below.trod laidOut (by kernel_rfl) (of_decide_eq_true (by kernel_rfl)) k0 bel lt0) (trodAll_cons_mk (Below.trod laidOut (by kernel_rfl) (of_decide_eq_true (by kernel_rfl)) k1 bel lt1) (trodAll_cons_mk (Below.trod laidOut (by kernel_rfl) (of_decide_eq_true (by kernel_rfl)) k2 bel lt2) trodAll_mk0))), rfl, bel.frame _, fun h => by cases h⟩

theorem over : Rows.formsOrderRow.holds Tryd.pinned (OpenSpec.ofChange Rows.formsOrderSpec) :=
  OpenClaim.holds_of_wide 4 Tryd.f4 rfl rfl rfl rfl rfl rfl rfl ⟨rfl, rfl, rfl, rfl, rfl⟩ rfl rfl rfl rfl rfl (by kernel_rfl) Tryd.func4 (by kernel_rfl)
    (of_decide_eq_true (by kernel_rfl)) (by unfold Func.isWrapper; first | (rw [if_pos (by decide +kernel)]; kernel_rfl) | (rw [if_neg (by decide +kernel)]; exact ⟨rfl, rfl⟩))
    (fun os started H enc _ => lifted os started H enc)

/-- The row's card, tied to the program's text. -/
theorem card : Rows.FormsOrderCardSaid :=
  Claim7.holds_tied_plain_at .later [] [.data] true Rows.formsOrderCard.stood.harness false
    over (fun _ h => by cases h) (by kernel_rfl) (fun _ h => by cases h) formsOrder_row_tie rfl ⟨rfl, rfl⟩ (by kernel_rfl) rfl
    (fun f fn hf hfn => by
      obtain rfl : f = 4 := Option.some.inj ((show Tryd.prog.funcNamed "abugida/abugidalaw17.FormsOrder" = some 4 by kernel_rfl).symm.trans hf) |>.symm
      obtain rfl : fn = Tryd.f4 := (Option.some.inj (Tryd.func4.symm.trans hfn)).symm
      exact ⟨by kernel_rfl, fun j t ht => by
        rw [Tryd.params4] at ht
        have hm : t ∈ [22, 9, 29] := by simpa using Array.mem_of_getElem? ht
        have hall : ([22, 9, 29].all fun u => !Tryd.prog.wantsStandIn u) = true := by kernel_rfl
        exact (show Tryd.prog.wantsStandIn t = false by simpa using List.all_eq_true.1 hall t hm)⟩)
    (by kernel_rfl)

end Go.Proofs.YtkacbmimmnlhlaaDoor.formsOrder
namespace Go.Proofs.YtkacbmimmnlhlaaDoor
theorem formsOrder_proved : Rows.FormsOrderCardSaid := formsOrder.card
#print axioms formsOrder_proved
end Go.Proofs.YtkacbmimmnlhlaaDoor
