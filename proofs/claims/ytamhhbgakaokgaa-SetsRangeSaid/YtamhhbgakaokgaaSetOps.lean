/- The sets of the program: Norm, Join, Meet, Less, Overlap. -/
import Derived.Test.YtamhhbgakaokgaaSetJoin
import Derived.Test.YtamhhbgakaokgaaSetMeet
import Derived.Test.YtamhhbgakaokgaaSetLess
import Derived.Test.YtamhhbgakaokgaaSetRight
import Derived.Test.YtamhhbgakaokgaaSetRefD
namespace Go.Proofs.Ytamhhbgakaokgaa
open Go.RowKit Go.Maps
/-- A slice of the call's own that holds a list of numbers. -/
def Own (w0 : World) (w : World) (v : Value) (P : List Int) : Prop := w.ownsRow w0.heap.size 3 1 v P.length (iv P)
theorem Own.lst {w0 w : World} {v : Value} {P : List Int} (h : Own w0 w v P) : Lst w v P := own_lst h
namespace SP
theorem chosen_join (A B : List Int) : chosen (fun _ _ => true) [A, B] = join A B := by
  unfold chosen join
  exact norm_congr fun x => by simp
theorem cnt_two (A B : List Int) (x : Int) : cnt [A, B] x = (if x ∈ A then 1 else 0) + (if x ∈ B then 1 else 0) := by
  unfold cnt
  by_cases h1 : x ∈ A <;> by_cases h2 : x ∈ B <;> simp [h1, h2]
theorem chosen_meet (A B : List Int) : chosen (fun _ n => n == 2) [A, B] = meet A B := by
  unfold chosen meet
  refine norm_congr fun x => ?_
  rw [List.mem_filter, List.mem_filter, cnt_two]
  by_cases h1 : x ∈ A <;> by_cases h2 : x ∈ B <;> simp [h1, h2]
theorem chosen_less (A B : List Int) : chosen (fun x _ => !decide (x ∈ B)) [A] = less A B := by
  unfold chosen less
  refine norm_congr fun x => ?_
  simp
end SP
theorem row_one (w : World) (u : Value) (T : TypeId) : RowAt (w.alloc (.cells #[u] T)) (.slice (some ⟨w.heap.size, 0, none⟩) 1 1) [u] :=
  ⟨_, 1, rfl, Or.inr ⟨w.heap.size, 0, rfl, by simp, fun i hi => by
    match i, hi with
    | 0, _ => rw [World.cell?_alloc_at _ _ _ _ rfl]; rfl⟩⟩
theorem row_two (w : World) (u v : Value) (T : TypeId) : RowAt (w.alloc (.cells #[u, v] T)) (.slice (some ⟨w.heap.size, 0, none⟩) 2 2) [u, v] :=
  ⟨_, 2, rfl, Or.inr ⟨w.heap.size, 0, rfl, by simp, fun i hi => by
    match i, hi with
    | 0, _ => rw [World.cell?_alloc_at _ _ _ _ rfl]; rfl
    | 1, _ => rw [World.cell?_alloc_at _ _ _ _ rfl]; rfl⟩⟩
theorem rows_two {w : World} {va vb : Value} {A B : List Int} (ha : RowAt w va (iv A)) (hb : RowAt w vb (iv B)) : Rows2 w [va, vb] [A, B] :=
  ⟨rfl, fun i h h2 => by
    match i, h, h2 with
    | 0, _, _ => obtain ⟨a, c, e, _⟩ := ha.out; exact ⟨a, c, by rw [iv_len] at e; exact e, ha⟩
    | 1, _, _ => obtain ⟨a, c, e, _⟩ := hb.out; exact ⟨a, c, by rw [iv_len] at e; exact e, hb⟩⟩
theorem rows_one {w : World} {va : Value} {A : List Int} (ha : RowAt w va (iv A)) : Rows2 w [va] [A] :=
  ⟨rfl, fun i h h2 => by
    match i, h, h2 with
    | 0, _, _ => obtain ⟨a, c, e, _⟩ := ha.out; exact ⟨a, c, by rw [iv_len] at e; exact e, ha⟩⟩
def InR (A : List Int) : Prop := A.length ≤ 1000000 ∧ ∀ x ∈ A, (Lit.int .i64 x).wf = true
theorem wf_two {A B : List Int} (ha : InR A) (hb : InR B) : Wf [A, B] := fun l hl => by
  simp at hl
  rcases hl with rfl | rfl
  · exact ha
  · exact hb
theorem wf_one {A : List Int} (ha : InR A) : Wf [A] := fun l hl => by
  obtain rfl : l = A := by simpa using hl
  exact ha
theorem keep_join (x n : Int) (w : World) : Calls Try.prog 33 #[.int .i64 x, .int .i64 n] w fun e w' => e = .returned (.bool true) ∧ w' = w := by
  go_enter Try.func33, Try.ntmps33
  go_wp2
  go_ret
  exact ⟨rfl, rfl⟩
theorem keep_meet (x n : Int) (w : World) : Calls Try.prog 34 #[.int .i64 x, .int .i64 n] w fun e w' => e = .returned (.bool (n == 2)) ∧ w' = w := by
  go_enter Try.func34, Try.ntmps34
  go_wp2
  go_ret
  exact ⟨retbool (by simp), rfl⟩

set_option maxRecDepth 100000 in
set_option maxHeartbeats 1000000 in
theorem join_any (va vb : Value) (A B : List Int) (w : World) (ha : RowAt w va (iv A)) (hb : RowAt w vb (iv B)) (wA : InR A) (wB : InR B) :
    Calls Try.prog 19 #[va, vb] w fun e w' => ∃ v', e = .returned v' ∧ Own w w' v' (SP.join A B) ∧ Below w.heap.size w w' := by
  obtain ⟨aa, ac, rfl, _⟩ := ha.out
  obtain ⟨ba, bc, rfl, _⟩ := hb.out
  rw [iv_len] at ha hb ⊢
  rw [iv_len]
  have hba : Below w.heap.size w (w.alloc (.cells #[.slice aa A.length ac, .slice ba B.length bc] 22)) := balloc (Below.refl _ _) _
  have HC := Lib.hid (chosen_join (fun _ _ => true) #[] (.slice (some ⟨w.heap.size, 0, none⟩) 2 2) _ [A, B] _ (row_two w _ _ _) (rows_two (ha.keep hba) (hb.keep hba)) (wf_two wA wB) (by simp) (fun x n wr _ _ => keep_join x n wr))
  rw [SP.chosen_join] at HC
  clear ha hb
  go_enter Try.func19, Try.ntmps19
  go_wp2_with (go_at_call 32; refine HC.out.mono ?_; rintro e w1 ⟨v1, rfl, hown, hb1⟩; obtain ⟨a1, c1, rfl⟩ := own_shape hown)
  have HO := Lib.hid hown
  clear hown HC
  go_ret
  exact ⟨_, rfl, own_base HO.out hba.size, bnext hba hb1⟩

set_option maxRecDepth 100000 in
set_option maxHeartbeats 1000000 in
theorem meet_any (va vb : Value) (A B : List Int) (w : World) (ha : RowAt w va (iv A)) (hb : RowAt w vb (iv B)) (wA : InR A) (wB : InR B) :
    Calls Try.prog 21 #[va, vb] w fun e w' => ∃ v', e = .returned v' ∧ Own w w' v' (SP.meet A B) ∧ Below w.heap.size w w' := by
  obtain ⟨aa, ac, rfl, _⟩ := ha.out
  obtain ⟨ba, bc, rfl, _⟩ := hb.out
  rw [iv_len] at ha hb ⊢
  rw [iv_len]
  have hba : Below w.heap.size w (w.alloc (.cells #[.slice aa A.length ac, .slice ba B.length bc] 22)) := balloc (Below.refl _ _) _
  have HC := Lib.hid (chosen_meet (fun _ n => n == 2) #[] (.slice (some ⟨w.heap.size, 0, none⟩) 2 2) _ [A, B] _ (row_two w _ _ _) (rows_two (ha.keep hba) (hb.keep hba)) (wf_two wA wB) (by simp) (fun x n wr _ _ => keep_meet x n wr))
  rw [SP.chosen_meet] at HC
  clear ha hb
  go_enter Try.func21, Try.ntmps21
  go_wp2_with (go_at_call 32; refine HC.out.mono ?_; rintro e w1 ⟨v1, rfl, hown, hb1⟩; obtain ⟨a1, c1, rfl⟩ := own_shape hown)
  have HO := Lib.hid hown
  clear hown HC
  go_ret
  exact ⟨_, rfl, own_base HO.out hba.size, bnext hba hb1⟩

set_option maxRecDepth 100000 in
set_option maxHeartbeats 1000000 in
theorem norm_any (va : Value) (A : List Int) (w : World) (ha : RowAt w va (iv A)) (wA : InR A) :
    Calls Try.prog 13 #[va] w fun e w' => ∃ v', e = .returned v' ∧ Own w w' v' (SP.norm A) ∧ Below w.heap.size w w' := by
  obtain ⟨aa, ac, rfl, _⟩ := ha.out
  rw [iv_len] at ha ⊢
  have HC := Lib.hid (join_any (.slice aa A.length ac) (.slice none 0 0) A [] w ha (Lst.nil w).row wA ⟨by simp, by simp⟩)
  rw [show SP.join A [] = SP.norm A by unfold SP.join; rw [List.append_nil]] at HC
  clear ha
  go_enter Try.func13, Try.ntmps13
  go_wp2_with (go_at_call 19; refine HC.out.mono ?_; rintro e w1 ⟨v1, rfl, hown, hb1⟩; obtain ⟨a1, c1, rfl⟩ := own_shape hown)
  have HO := Lib.hid hown
  clear hown HC
  go_ret
  exact ⟨_, rfl, HO.out, hb1⟩
set_option maxRecDepth 100000 in
set_option maxHeartbeats 1000000 in
theorem overlap_any (va vb : Value) (A B : List Int) (w : World) (ha : RowAt w va (iv A)) (hb : RowAt w vb (iv B)) (wA : InR A) (wB : InR B) :
    Calls Try.prog 25 #[va, vb] w fun e w' => e = .returned (.bool (decide (SP.meet A B ≠ []))) ∧ Below w.heap.size w w' := by
  obtain ⟨aa, ac, rfl, _⟩ := ha.out
  obtain ⟨ba, bc, rfl, _⟩ := hb.out
  have HC := Lib.hid (meet_any _ _ A B w ha hb wA wB)
  rw [iv_len, iv_len] at HC ⊢
  clear ha hb
  go_enter Try.func25, Try.ntmps25
  go_wp2_with (go_at_call 21; refine HC.out.mono ?_; rintro e w1 ⟨v1, rfl, hl1, hb1⟩; obtain ⟨a1, c1, rfl⟩ := own_shape hl1)
  clear hl1
  go_ret
  refine ⟨retbool ?_, hb1⟩
  rw [decide_eq_decide]
  first | exact List.length_pos_iff | (simp [List.length_pos_iff]) | (have := List.length_pos_iff (l := SP.meet A B); omega)

/-- The map in block b has true for the numbers of a list. -/
def BMap (w : World) (b n : Nat) (S : List Int) : Prop := ∃ D : DataW Unit, w.ownsMap Try.prog 3 (plainElem Try.prog 4) b n D ∧ IsMap D ∧ ∀ x, D.atKey (ki x) (.lit (.bool false)) = .lit (.bool (decide (x ∈ S)))
theorem BMap.out {w : World} {b n : Nat} {S : List Int} (h : BMap w b n S) : ∃ D : DataW Unit, w.ownsMap Try.prog 3 (plainElem Try.prog 4) b n D ∧ IsMap D ∧ ∀ x, D.atKey (ki x) (.lit (.bool false)) = .lit (.bool (decide (x ∈ S))) := h
theorem BMap.made (w : World) : BMap (w.alloc (.map #[] 0)) w.heap.size 0 [] := ⟨.map [], World.ownsMap_made _ _ _ _, isMap_empty, fun _ => rfl⟩
theorem BMap.kept {w w' : World} {b n : Nat} {S : List Int} {row : Option Nat} (h : BMap w b n S) (hg : w.grownBy w' row) (hne : some b ≠ row) : BMap w' b n S := by
  obtain ⟨D, h1, h2⟩ := h.out
  exact ⟨D, h1.kept hg hne, h2⟩
theorem BMap.keep {w w' : World} {b n : Nat} {S : List Int} (h : BMap w b n S) (hb : Below w.heap.size w w') : BMap w' b n S :=
  h.kept (row := none) ⟨hb.os, hb.tape, hb.output, hb.size, fun k hk _ => hb.block k hk⟩ (by simp)
theorem BMap.lt {w : World} {b n : Nat} {S : List Int} (h : BMap w b n S) : b < w.heap.size := by
  obtain ⟨D, h1, h2⟩ := h.out
  exact h1.lt
theorem zero_bool (w : World) : (zeroValue 4).run Try.prog w = .ok (.bool false) w := by kernel_rfl
theorem plainElem_bool_inv {P : Program} {e : TypeId} (he : P.underlying e = some .bool) {v : Value} {z : DataW Unit × List MemPlace} (h : plainElem P e v = some z) : ∃ a, v = .bool a ∧ z = (.lit (.bool a), []) := by
  unfold plainElem at h
  rw [he] at h
  cases v <;> simp at h
  subst h
  exact ⟨_, rfl, rfl⟩
theorem wpList_blook {w : World} {ops : Array Oper} {rest : List Oper} {o : Oper} {a : Act} {Q : Exit → Act → World → Prop}
    (hg : o.guard = none) (m x : Operand) (hop : o.op = Op.lookup 41 m x false) (b n : Nat) (S : List Int) (key : Int)
    (hm : a.eval m = .map (some b)) (hown : BMap w b n S) (hx : a.eval x = .int .i64 key) (hwf : (Lit.int .i64 key).wf = true)
    (hK : wpList Try.prog ops Q rest (a.put o.dst (.bool (decide (key ∈ S)))) w) : wpList Try.prog ops Q (o :: rest) a w := by
  obtain ⟨D, h1, h2, h3⟩ := hown.out
  refine wpList_plain hg fun K' hK' => ?_
  obtain ⟨v, ps, hrun, hv⟩ := h1.lookup law_int Try.underlying41 (zero_bool _) (plainElem_bool Try.underlying4 false) (keyOf_int_mk Try.underlying3 hwf)
  obtain ⟨c, rfl, hc⟩ := plainElem_bool_inv Try.underlying4 hv
  rw [h3] at hc
  simp only [Prod.mk.injEq, DataW.lit.injEq, Lit.bool.injEq] at hc
  rw [hc.1] at hK
  unfold Oper.wp
  simp [execOp, hop, hm, hx, hrun, Result.andThen]
  exact hK' _ _ hK
theorem wpList_bput {w : World} {ops : Array Oper} {rest : List Oper} {o : Oper} {a : Act} {Q : Exit → Act → World → Prop}
    (hg : o.guard = none) (m x v : Operand) (hop : o.op = Op.mapUpdate 41 m x v) (b n : Nat) (S : List Int) (key : Int)
    (hm : a.eval m = .map (some b)) (hown : BMap w b n S) (hn : n < 1000000000) (hx : a.eval x = .int .i64 key) (hwf : (Lit.int .i64 key).wf = true) (hv : a.eval v = .bool true)
    (hK : ∀ w', BMap w' b (n + 1) (S ++ [key]) → w.grownBy w' (some b) → wpList Try.prog ops Q rest (a.put o.dst undef) w') : wpList Try.prog ops Q (o :: rest) a w := by
  obtain ⟨D, h1, h2, h3⟩ := hown.out
  refine wpList_mapUpdate_own w hg m x v 41 hop 3 4 law_int Try.underlying41 _ b n D hm h1 (by unfold maxLen; omega) _ _ (ki key) hx hv (keyOf_int_mk Try.underlying3 hwf) _ [] (plainElem_bool Try.underlying4 true) (fun w' h5 h6 => hK w' ⟨_, h5, h2.put _ _, fun y => ?_⟩ h6)
  by_cases hy : y = key
  · subst hy; rw [atKey_put_same (k := ki y) h2 trivial]; simp
  · rw [atKey_put_other (by intro e; injection e with _ e; exact hy e), h3]; simp [hy]
set_option maxHeartbeats 400000 in
theorem keep_less (x n : Int) (bx b m : Nat) (S : List Int) (w : World) (hc : w.cell? ⟨bx, 0, none⟩ = some (.map (some b))) (hm : BMap w b m S) (hwf : (Lit.int .i64 x).wf = true) :
    Calls Try.prog 35 #[.int .i64 x, .int .i64 n, .pointer (some ⟨bx, 0, none⟩)] w fun e w' => e = .returned (.bool (!decide (x ∈ S))) ∧ w' = w := by
  have HM := Lib.hid hm
  clear hm
  go_enter Try.func35, Try.ntmps35
  go_wp2_with (at_lookup; refine wpList_blook rfl _ _ rfl b m S x rfl HM.out rfl hwf ?_)
  go_ret
  exact ⟨retbool (by simp), rfl⟩
set_option maxRecDepth 100000 in
set_option maxHeartbeats 1000000 in
theorem less_any (va vb : Value) (A B : List Int) (w : World) (ha : RowAt w va (iv A)) (hb : RowAt w vb (iv B)) (wA : InR A) (wB : InR B) :
    Calls Try.prog 23 #[va, vb] w fun e w' => ∃ v', e = .returned v' ∧ Own w w' v' (SP.less A B) ∧ Below w.heap.size w w' := by
  obtain ⟨aa, ac, rfl, _⟩ := ha.out
  obtain ⟨ba, bc, rfl, _⟩ := hb.out
  rw [iv_len] at ha hb ⊢
  rw [iv_len]
  have HA := Lib.hid ha
  have HB := Lib.hid hb
  have hBl := wB.1
  clear ha hb
  have hmm := @run_makeMap Try.prog
  go_enter Try.func23, Try.ntmps23
  go_wp2
  clear hmm
  have hm0 : BMap ((w.alloc (.map #[] 0)).alloc (.cells #[.map (some w.heap.size)] 41)) w.heap.size 0 [] := (BMap.made w).keep (balloc (Below.refl _ _) _)
  go_loopw [11] (fun i wr => ∃ k : Nat, k ≤ B.length ∧ i = .int .i64 k ∧ wr.cell? ⟨w.heap.size + 1, 0, none⟩ = some (.map (some w.heap.size)) ∧ BMap wr w.heap.size k (B.take k) ∧ w.heap.size + 1 < wr.heap.size ∧ Below w.heap.size w wr) (fun i _ => B.length - (intOf i).toNat)
  case atStart => exact ⟨0, Nat.zero_le _, rfl, by simp, by simpa using hm0, by simp, balloc (balloc (Below.refl _ _) _) _⟩
  case round =>
    clear hm0
    obtain ⟨k, hk, rfl, hcb, hm, hsz, hb⟩ := hrel
    by_cases hkl : k < B.length
    · obtain ⟨g, o, rfl, hg, hc⟩ := (HB.out.keep hb).cell (k := k) (by simpa using hkl)
      simp only [List.getElem_map] at hc
      have hki : (k : Int) < (B.length : Int) := by omega
      have hwx := wB.2 B[k] (List.getElem_mem hkl)
      have HN : Hid (B.take (k + 1) = B.take k ++ [B[k]]) := Lib.hid (by rw [List.take_add_one, List.getElem?_eq_getElem hkl]; rfl)
      obtain ⟨x, hx⟩ : ∃ x, B[k] = x := ⟨_, rfl⟩
      rw [hx] at hc HN hwx
      have HM := Lib.hid hm
      have HCB := Lib.hid hcb
      clear hx hm
      have hkn : k < 1000000000 := by omega
      go_wp2_with (at_mapUpdate; refine wpList_bput rfl _ _ _ rfl w.heap.size k _ x rfl HM.out hkn rfl hwx rfl ?_)
      intro w1 m1 g1
      have hcb1 : w1.cell? ⟨w.heap.size + 1, 0, none⟩ = some (.map (some w.heap.size)) := g1.cell HCB.out (by simp)
      have hb1 : Below w.heap.size w w1 := hb.grown g1 hb.size (fun j hj => by cases hj; exact Nat.le_refl _)
      have hsz1 : w.heap.size + 1 < w1.heap.size := Nat.lt_of_lt_of_le hsz g1.size
      have HR : Hid (BMap w1 w.heap.size (k + 1) (B.take (k + 1))) := Lib.hid (by rw [HN.out]; exact m1)
      clear m1 g1 hcb
      go_wp2
      go_roundw
      case rel => exact ⟨k + 1, by omega, by go_num, hcb1, HR.out, hsz1, hb1⟩
      case measure => simp [intOf]; omega
    · rw [List.take_of_length_le (by omega)] at hm
      have HM := Lib.hid hm
      have HCB := Lib.hid hcb
      clear hm hcb
      have hba : Below wr.heap.size wr (wr.alloc (.cells #[.slice aa A.length ac] 22)) := balloc (Below.refl _ _) _
      have HC := Lib.hid (chosen_less (fun x _ => !decide (x ∈ B)) #[.pointer (some ⟨w.heap.size + 1, 0, none⟩)] (.slice (some ⟨wr.heap.size, 0, none⟩) 1 1) _ [A] _ (row_one wr _ _) (rows_one ((HA.out.keep hb).keep hba)) (wf_one wA) (by simp)
        (fun x n ws hbs hwf => keep_less x n (w.heap.size + 1) w.heap.size k B ws ((hbs.cell (p := ⟨w.heap.size + 1, 0, none⟩) (by simp; omega)).trans ((hba.cell (p := ⟨w.heap.size + 1, 0, none⟩) hsz).trans HCB.out)) ((HM.out.keep hba).keep hbs) hwf))
      rw [SP.chosen_less] at HC
      have hws := hb.size
      go_wp2_with (go_at_call 32; refine HC.out.mono ?_; rintro e w1 ⟨v1, rfl, hown, hb1⟩; obtain ⟨a1, c1, rfl⟩ := own_shape hown)
      have HO := Lib.hid hown
      clear hown HC
      go_ret
      exact ⟨_, rfl, own_base HO.out (Nat.le_trans hws hba.size), bnext (bnext hb hba) hb1⟩
end Go.Proofs.Ytamhhbgakaokgaa
