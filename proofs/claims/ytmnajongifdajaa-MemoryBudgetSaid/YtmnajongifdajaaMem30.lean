/- An act, on both. No conditions. -/
import Derived.Test.YtmnajongifdajaaMem29
namespace Go.Proofs.Ytmnajongifdajaa.ME
/-- What an act makes of the keys. -/
def act (bu wh nn sz : Int) (P : List En) : List En :=
  if wh % 6 = 3 then (use (kyE (nn % 9)) P).1 else if wh % 6 = 4 then (pin (kyE (nn % 9)) (decide (sz.tmod 2 = 0)) P).1 else if wh % 6 = 5 then (drop (kyE (nn % 9)) P).1 else (put bu (kyE (nn % 9)) sz P).1
end Go.Proofs.Ytmnajongifdajaa.ME
namespace Go.Proofs.Ytmnajongifdajaa
set_option maxRecDepth 100000
set_option linter.unusedVariables false
open Go.RowKit Go.Deep ME
theorem kyE_ok (n : Int) (h0 : 0 ≤ n) (h1 : n ≤ 1000) : K4ok (kyE n) := by
  unfold K4ok kyE i64ok
  simp only
  omega
section
variable {W w w' : World} {H H' : Nat → Prop} {M mb root r : Nat} {bu : Int} {P1 P2 Q1 Q2 : List En} {k k' : Nat}
theorem PSr.glue (h1 : FrS H W w) (h3 : ∀ b, H' b → H b ∨ W.heap.size ≤ b) (hn : PSr w H' w' M mb root r bu Q1 Q2 k') : PSr W H w' M mb root r bu Q1 Q2 k' := by
  obtain ⟨g1, H'', g2, g3⟩ := hn
  exact ⟨h1.over g1 h3, H'', g2, fun b hb => (g3 b hb).elim (h3 b) (fun z => .inr (Nat.le_trans h1.size z))⟩
theorem PSr.from_below (h : PSr w H w' M mb root r bu P1 P2 k) (hb : Below W.heap.size W w) : PSr W H w' M mb root r bu P1 P2 k := by
  obtain ⟨h1, H'', g2, g3⟩ := h
  exact ⟨(FrS.of hb).trans h1, H'', g2, fun b hb' => (g3 b hb').imp id (fun z => Nat.le_trans hb.size z)⟩
theorem use_mr (ky : K4) (hk : K4ok ky) (h : PSr W H w M mb root r bu P1 P2 k) (hb : k ≤ 100000) : Calls Try.prog 14 #[ptr M, kyV ky] w fun x w' => x = .returned (.bool (ME.use ky P1).2) ∧ PSr W H w' M mb root r bu (ME.use ky P1).1 P2 k := by
  obtain ⟨f, H', hp, hs⟩ := h
  refine (use_m ky hk hp hb).mono ?_
  rintro x w' ⟨rfl, hr⟩
  exact ⟨rfl, PSr.glue f hs hr⟩
theorem use_rr (ky : K4) (hk : K4ok ky) (h : PSr W H w M mb root r bu P1 P2 k) (hb : k ≤ 100000) : Calls Try.prog 35 #[ptr r, kyV ky] w fun x w' => x = .returned (.bool (ME.use ky P2).2) ∧ PSr W H w' M mb root r bu P1 (ME.use ky P2).1 k := by
  obtain ⟨f, H', hp, hs⟩ := h
  refine (use_r ky hk hp hb).mono ?_
  rintro x w' ⟨rfl, hr⟩
  exact ⟨rfl, PSr.glue f hs hr⟩
theorem drop_mr (ky : K4) (hk : K4ok ky) (h : PSr W H w M mb root r bu P1 P2 k) (hb : k ≤ 100000) : Calls Try.prog 16 #[ptr M, kyV ky] w fun x w' => x = .returned (.int .i64 (ME.drop ky P1).2) ∧ PSr W H w' M mb root r bu (ME.drop ky P1).1 P2 k := by
  obtain ⟨f, H', hp, hs⟩ := h
  refine (drop_m ky hk hp hb).mono ?_
  rintro x w' ⟨rfl, hr⟩
  exact ⟨rfl, PSr.glue f hs hr⟩
theorem drop_rr (ky : K4) (hk : K4ok ky) (h : PSr W H w M mb root r bu P1 P2 k) (hb : k ≤ 100000) : Calls Try.prog 37 #[ptr r, kyV ky] w fun x w' => x = .returned (.int .i64 (ME.drop ky P2).2) ∧ PSr W H w' M mb root r bu P1 (ME.drop ky P2).1 k := by
  obtain ⟨f, H', hp, hs⟩ := h
  refine (drop_r ky hk hp hb).mono ?_
  rintro x w' ⟨rfl, hr⟩
  exact ⟨rfl, PSr.glue f hs hr⟩
theorem pin_mr (ky : K4) (on : Bool) (hk : K4ok ky) (h : PSr W H w M mb root r bu P1 P2 k) (hb : k ≤ 100000) : Calls Try.prog 15 #[ptr M, kyV ky, .bool on] w fun x w' => x = .returned (.int .i64 (ME.pin ky on P1).2) ∧ PSr W H w' M mb root r bu (ME.pin ky on P1).1 P2 k := by
  obtain ⟨f, H', hp, hs⟩ := h
  refine (pin_m ky on hk hp hb).mono ?_
  rintro x w' ⟨rfl, hr⟩
  exact ⟨rfl, PSr.glue f hs hr⟩
theorem pin_rr (ky : K4) (on : Bool) (hk : K4ok ky) (h : PSr W H w M mb root r bu P1 P2 k) (hb : k ≤ 100000) : Calls Try.prog 36 #[ptr r, kyV ky, .bool on] w fun x w' => x = .returned (.int .i64 (ME.pin ky on P2).2) ∧ PSr W H w' M mb root r bu P1 (ME.pin ky on P2).1 k := by
  obtain ⟨f, H', hp, hs⟩ := h
  refine (pin_r ky on hk hp hb).mono ?_
  rintro x w' ⟨rfl, hr⟩
  exact ⟨rfl, PSr.glue f hs hr⟩
end
set_option maxHeartbeats 8000000 in
theorem do_any (W : World) (M mb root r : Nat) (bu : Int) (P : List En) (k : Nat) (H : Nat → Prop) (wh nn sz : Int) (hw0 : 0 ≤ wh) (hw1 : wh ≤ 255) (hn0 : 0 ≤ nn) (hn1 : nn ≤ 255) (h : PS W M mb root r bu P P k H) (hk : k ≤ 1000) :
    Calls Try.prog 23 #[ptr M, ptr r, .agg #[.int .u8 wh, .int .u8 nn, .int .i64 sz]] W fun x w' => x = .returned (.bool true) ∧ PSr W H w' M mb root r bu (ME.act bu wh nn sz P) (ME.act bu wh nn sz P) (k + 1) := by
  obtain ⟨ky, hky⟩ : ∃ ky, kyE (nn % 9) = ky := ⟨_, rfl⟩
  have hkk : K4ok ky := by rw [← hky]; exact kyE_ok _ (by omega) (by omega)
  have mixed : Try.prog.follows .mixedOrders = true := by kernel_rfl
  have hb1 := balloc (Below.refl _ W) (.cells #[.int .u8 wh, .int .u8 nn, .int .i64 sz] 37)
  have bx := heap_alloc_new W (.cells #[.int .u8 wh, .int .u8 nn, .int .i64 sz] 37)
  have HKY := Lib.hid fun V => key_any (nn % 9) V (by omega) (by omega)
  rw [hky] at HKY
  have hre : (nn.tmod 9) = nn % 9 := Int.tmod_eq_emod_of_nonneg hn0
  have hact : ∀ Q, ME.act bu wh nn sz Q = if wh % 6 = 3 then (ME.use ky Q).1 else if wh % 6 = 4 then (ME.pin ky (decide (sz.tmod 2 = 0)) Q).1 else if wh % 6 = 5 then (ME.drop ky Q).1 else (ME.put bu ky sz Q).1 := fun Q => by
    unfold ME.act
    rw [hky]
  have HACT := Lib.hid hact
  obtain ⟨Q, hQ⟩ : ∃ Q, ME.act bu wh nn sz P = Q := ⟨_, rfl⟩
  rw [hQ]
  have hq := HACT.out P
  rw [hQ] at hq
  have HQ := Lib.hid hq
  clear hact hky hq hQ HACT
  go_enter Try.func23, Try.ntmps23
  go_upto_region 2 with (go_at_call 13; refine (HKY.out _).mono ?_; rintro e w2 ⟨rfl, hb2⟩)
  obtain ⟨X, hX⟩ : ∃ X, w2.heap.size = X := ⟨_, rfl⟩
  have b5 := (hb2.block W.heap.size (by simp)).trans bx
  have hb4 := balloc (Below.refl _ w2) (.cells #[.int .i64 ky.1, .int .i64 ky.2.1, .int .i64 ky.2.2.1, .int .i64 ky.2.2.2] 34)
  have b7 := heap_alloc_new w2 (.cells #[.int .i64 ky.1, .int .i64 ky.2.1, .int .i64 ky.2.2.1, .int .i64 ky.2.2.2] 34)
  obtain ⟨W4, hW4⟩ : ∃ W4, w2.alloc (.cells #[.int .i64 ky.1, .int .i64 ky.2.1, .int .i64 ky.2.2.1, .int .i64 ky.2.2.2] 34) = W4 := ⟨_, rfl⟩
  rw [hW4] at b7 hb4
  rw [hW4]
  rw [hX] at b7
  try rw [hX]
  have hbW := bnext (bnext hb1 hb2) hb4
  have HBW := Lib.hid hbW
  have b54 := (hb4.block W.heap.size (Array.getElem?_eq_some_iff.1 b5).1).trans b5
  have h4 := h.below hbW
  have hBX : W.heap.size ≤ X := by have := hb2.size; simp at this; omega
  have HNX : Hid (¬ H X ∧ ¬ H W.heap.size) := Lib.hid ⟨fun z => by have := h.lt X z; omega, fun z => by have := h.lt _ z; omega⟩
  have HS : Hid (∀ V, FrS H W4 V → (fun w' => w'.cell? ⟨X, 0, none⟩ = some (.int .i64 ky.1) ∧ w'.cell? ⟨X, 1, none⟩ = some (.int .i64 ky.2.1) ∧ w'.cell? ⟨X, 2, none⟩ = some (.int .i64 ky.2.2.1) ∧ w'.cell? ⟨X, 3, none⟩ = some (.int .i64 ky.2.2.2) ∧ w'.cell? ⟨W.heap.size, 2, none⟩ = some (.int .i64 sz)) V) := Lib.hid fun V hV => by
    have q7 := (hV.block X (Array.getElem?_eq_some_iff.1 b7).1 HNX.out.1).trans b7
    have q5 := (hV.block W.heap.size (Array.getElem?_eq_some_iff.1 b54).1 HNX.out.2).trans b54
    exact ⟨nd_cell q7 rfl, nd_cell q7 rfl, nd_cell q7 rfl, nd_cell q7 rfl, nd_cell q5 rfl⟩
  have w50 : W4.cell? ⟨W.heap.size, 0, none⟩ = some (.int .u8 wh) := nd_cell b54 rfl
  have HPS := Lib.hid (PSr.below h4.here (w' := W4.drew) (Below.drew (Below.refl _ _)))
  have H4 := Lib.hid h4
  have hre6 : wh.tmod 6 = wh % 6 := Int.tmod_eq_emod_of_nonneg hw0
  clear h h4 hb1 bx hb2 b5 hb4 b7 hbW b54 hW4 hX HKY
  by_cases h3 : wh % 6 = 3
  · have HQ2 := HQ.out
    rw [if_pos h3] at HQ2
    have HQ3 := Lib.hid HQ2
    clear HQ2
    go_upto_region 4 with fail
    clear h3 hre6 w50
    refine wp_region_held_drew (S := (fun w' => w'.cell? ⟨X, 0, none⟩ = some (.int .i64 ky.1) ∧ w'.cell? ⟨X, 1, none⟩ = some (.int .i64 ky.2.1) ∧ w'.cell? ⟨X, 2, none⟩ = some (.int .i64 ky.2.2.1) ∧ w'.cell? ⟨X, 3, none⟩ = some (.int .i64 ky.2.2.2) ∧ w'.cell? ⟨W.heap.size, 2, none⟩ = some (.int .i64 sz))) (by kernel_rfl) ?_ (fun hHeld => ?_)
    · exact HS.out _ (FrS.drew _)
    refine wpAnyH_take (i := 0) (oi := { dst := some 22, op := Op.move (Operand.tmp 0), type := 24, pos := "law.go:47", after := #[], guard := none }) (v := ?_) rfl (by kernel_rfl) (by kernel_rfl) (by kernel_rfl) (fun _ _ _ h => h) (Or.inl ⟨by rfl, ?_⟩) (by assumption) ?_
    rotate_left
    · ((intro w hSw; (try dsimp only at hSw); go_simp; (try rw [if_neg (by omega)])); try with_reducible rfl)
    (try simp only [Act.put, List.setIfInBounds_toArray, List.set_cons_zero, List.set_cons_succ])
    refine wpAnyH_take (i := 1) (oi := { dst := some 23, op := Op.load 34 (Operand.tmp 7), type := 34, pos := "law.go:47", after := #[], guard := none }) (v := ?_) rfl (by kernel_rfl) (by kernel_rfl) (by kernel_rfl) (fun _ _ _ h => h) (Or.inl ⟨by rfl, ?_⟩) (by assumption) ?_
    rotate_left
    · ((intro w hSw; (try dsimp only at hSw); go_simp; (try rw [if_neg (by omega)])); try with_reducible rfl)
    (try simp only [Act.put, List.setIfInBounds_toArray, List.set_cons_zero, List.set_cons_succ])
    refine wpAnyH_take (i := 3) (oi := { dst := some 25, op := Op.move (Operand.tmp 1), type := 25, pos := "law.go:47", after := #[], guard := none }) (v := ?_) rfl (by kernel_rfl) (by kernel_rfl) (by kernel_rfl) (fun _ _ _ h => h) (Or.inl ⟨by rfl, ?_⟩) (by assumption) ?_
    rotate_left
    · ((intro w hSw; (try dsimp only at hSw); go_simp; (try rw [if_neg (by omega)])); try with_reducible rfl)
    (try simp only [Act.put, List.setIfInBounds_toArray, List.set_cons_zero, List.set_cons_succ])
    refine wpAnyH_take (i := 4) (oi := { dst := some 26, op := Op.load 34 (Operand.tmp 7), type := 34, pos := "law.go:47", after := #[], guard := none }) (v := ?_) rfl (by kernel_rfl) (by kernel_rfl) (by kernel_rfl) (fun _ _ _ h => h) (Or.inl ⟨by rfl, ?_⟩) (by assumption) ?_
    rotate_left
    · ((intro w hSw; (try dsimp only at hSw); go_simp; (try rw [if_neg (by omega)])); try with_reducible rfl)
    (try simp only [Act.put, List.setIfInBounds_toArray, List.set_cons_zero, List.set_cons_succ])
    refine wpAnyH_ready (rs := [2]) (by kernel_rfl) (by simp) ?_
    refine AllReadyH.cons (o := { dst := some 24, op := Op.call { callee := Callee.value (Operand.func 14), args := #[Operand.tmp 22, Operand.tmp 23], argTypes := #[24, 34] }, type := 4, pos := "law.go:47", after := #[{ on := 0, ground := Ground.data }, { on := 1, ground := Ground.data }], guard := none }) rfl (fun K hK => ?_) ?_
    · (go_simp; go_at_call 14; refine (use_mr ky hkk HPS.out (by omega)).mono ?_; rintro x w5 ⟨rfl, p5⟩; dsimp only)
      refine hK.out _ _ ?_ (fun hHeld => ?_)
      · exact HS.out _ p5.1
      clear hK K
      (try simp only [Act.put, List.setIfInBounds_toArray, List.set_cons_zero, List.set_cons_succ])
      refine wpAnyH_ready (rs := [5]) (by kernel_rfl) (by simp) ?_
      refine AllReadyH.cons (o := { dst := some 27, op := Op.call { callee := Callee.value (Operand.func 35), args := #[Operand.tmp 25, Operand.tmp 26], argTypes := #[25, 34] }, type := 4, pos := "law.go:47", after := #[{ on := 3, ground := Ground.data }, { on := 4, ground := Ground.data }, { on := 2, ground := Ground.chain }], guard := none }) rfl (fun K hK => ?_) ?_
      · (go_simp; go_at_call 35; refine (use_rr ky hkk p5 (by omega)).mono ?_; rintro x w6 ⟨rfl, p6⟩; dsimp only)
        refine hK.out _ _ ?_ (fun hHeld => ?_)
        · exact HS.out _ p6.1
        clear hK K
        (try simp only [Act.put, List.setIfInBounds_toArray, List.set_cons_zero, List.set_cons_succ])
        refine wpAnyH_take (i := 6) (oi := { dst := some 28, op := Op.binOp BinOp.eql 4 (Operand.tmp 24) (Operand.tmp 27) 4, type := 4, pos := "law.go:47", after := #[{ on := 2, ground := Ground.data }, { on := 5, ground := Ground.data }], guard := none }) (v := ?_) rfl (by kernel_rfl) (by kernel_rfl) (by kernel_rfl) (fun _ _ _ h => h) (Or.inl ⟨by rfl, ?_⟩) (by assumption) ?_
        rotate_left
        · ((intro w hSw; (try dsimp only at hSw); go_simp; (try rw [if_neg (by omega)])); try with_reducible rfl)
        (try simp only [Act.put, List.setIfInBounds_toArray, List.set_cons_zero, List.set_cons_succ])
        refine wpAnyH_take (i := 7) (oi := { dst := some 6, op := Op.assign (Operand.tmp 28), type := 4, pos := "law.go:47", after := #[{ on := 6, ground := Ground.data }, { on := 5, ground := Ground.chain }, { on := 0, ground := Ground.phase }, { on := 1, ground := Ground.phase }, { on := 2, ground := Ground.phase }, { on := 3, ground := Ground.phase }, { on := 4, ground := Ground.phase }, { on := 5, ground := Ground.phase }, { on := 6, ground := Ground.phase }], guard := none }) (v := ?_) rfl (by kernel_rfl) (by kernel_rfl) (by kernel_rfl) (fun _ _ _ h => h) (Or.inl ⟨by rfl, ?_⟩) (by assumption) ?_
        rotate_left
        · ((intro w hSw; (try dsimp only at hSw); go_simp; (try rw [if_neg (by omega)])); try with_reducible rfl)
        (try simp only [Act.put, List.setIfInBounds_toArray, List.set_cons_zero, List.set_cons_succ])
        refine wpAnyH_done (by kernel_rfl) ?_ _
        have HP := Lib.hid ((p6.mono (Nat.le_succ k)).from_below HBW.out)
        clear p5 p6
        go_wp2
        go_ret
        exact ⟨by simp, by rw [HQ3.out]; exact HP.out⟩
      exact AllReadyH.nil
    exact AllReadyH.nil
  · by_cases h44 : wh % 6 = 4
    · have HQ2 := HQ.out
      rw [if_neg h3, if_pos h44] at HQ2
      obtain ⟨on, hon⟩ : ∃ on, decide (sz.tmod 2 = 0) = on := ⟨_, rfl⟩
      have hon2 : (sz.tmod 2 == 0) = on := by rw [← hon]; rfl
      rw [hon] at HQ2
      have HQ3 := Lib.hid HQ2
      clear HQ2 hon
      have HON := Lib.hid hon2
      go_upto_region 6 with fail
      clear h3 h44 hre6 w50
      refine wp_region_held_drew (S := (fun w' => w'.cell? ⟨X, 0, none⟩ = some (.int .i64 ky.1) ∧ w'.cell? ⟨X, 1, none⟩ = some (.int .i64 ky.2.1) ∧ w'.cell? ⟨X, 2, none⟩ = some (.int .i64 ky.2.2.1) ∧ w'.cell? ⟨X, 3, none⟩ = some (.int .i64 ky.2.2.2) ∧ w'.cell? ⟨W.heap.size, 2, none⟩ = some (.int .i64 sz))) (by kernel_rfl) ?_ (fun hHeld => ?_)
      · exact HS.out _ (FrS.drew _)
      refine wpAnyH_take (i := 0) (oi := { dst := some 31, op := Op.move (Operand.tmp 0), type := 24, pos := "law.go:49", after := #[], guard := none }) (v := ?_) rfl (by kernel_rfl) (by kernel_rfl) (by kernel_rfl) (fun _ _ _ h => h) (Or.inl ⟨by rfl, ?_⟩) (by assumption) ?_
      rotate_left
      · ((intro w hSw; (try dsimp only at hSw); go_simp; (try rw [if_neg (by omega)])); try with_reducible rfl)
      (try simp only [Act.put, List.setIfInBounds_toArray, List.set_cons_zero, List.set_cons_succ])
      refine wpAnyH_take (i := 1) (oi := { dst := some 32, op := Op.load 34 (Operand.tmp 7), type := 34, pos := "law.go:49", after := #[], guard := none }) (v := ?_) rfl (by kernel_rfl) (by kernel_rfl) (by kernel_rfl) (fun _ _ _ h => h) (Or.inl ⟨by rfl, ?_⟩) (by assumption) ?_
      rotate_left
      · ((intro w hSw; (try dsimp only at hSw); go_simp; (try rw [if_neg (by omega)])); try with_reducible rfl)
      (try simp only [Act.put, List.setIfInBounds_toArray, List.set_cons_zero, List.set_cons_succ])
      refine wpAnyH_take (i := 2) (oi := { dst := some 33, op := Op.fieldAddr 37 (Operand.tmp 5) 2, type := 0, pos := "law.go:49", after := #[], guard := none }) (v := ?_) rfl (by kernel_rfl) (by kernel_rfl) (by kernel_rfl) (fun _ _ _ h => h) (Or.inl ⟨by rfl, ?_⟩) (by assumption) ?_
      rotate_left
      · ((intro w hSw; (try dsimp only at hSw); go_simp; (try rw [if_neg (by omega)])); try with_reducible rfl)
      (try simp only [Act.put, List.setIfInBounds_toArray, List.set_cons_zero, List.set_cons_succ])
      refine wpAnyH_take (i := 3) (oi := { dst := some 34, op := Op.load 3 (Operand.tmp 33), type := 3, pos := "law.go:49", after := #[{ on := 2, ground := Ground.data }], guard := none }) (v := ?_) rfl (by kernel_rfl) (by kernel_rfl) (by kernel_rfl) (fun _ _ _ h => h) (Or.inl ⟨by rfl, ?_⟩) (by assumption) ?_
      rotate_left
      · ((intro w hSw; (try dsimp only at hSw); go_simp; (try rw [if_neg (by omega)])); try with_reducible rfl)
      (try simp only [Act.put, List.setIfInBounds_toArray, List.set_cons_zero, List.set_cons_succ])
      refine wpAnyH_take (i := 4) (oi := { dst := some 35, op := Op.binOp BinOp.rem 3 (Operand.tmp 34) (Operand.const (Value.int IntKind.i64 2)) 3, type := 3, pos := "law.go:49", after := #[{ on := 3, ground := Ground.data }], guard := none }) (v := ?_) rfl (by kernel_rfl) (by kernel_rfl) (by kernel_rfl) (fun _ _ _ h => h) (Or.inl ⟨by rfl, ?_⟩) (by assumption) ?_
      rotate_left
      · ((intro w hSw; (try dsimp only at hSw); go_simp; (try rw [if_neg (by omega)])); try with_reducible rfl)
      (try simp only [Act.put, List.setIfInBounds_toArray, List.set_cons_zero, List.set_cons_succ])
      refine wpAnyH_take (i := 5) (oi := { dst := some 36, op := Op.binOp BinOp.eql 3 (Operand.tmp 35) (Operand.const (Value.int IntKind.i64 0)) 3, type := 4, pos := "law.go:49", after := #[{ on := 4, ground := Ground.data }], guard := none }) (v := ?_) rfl (by kernel_rfl) (by kernel_rfl) (by kernel_rfl) (fun _ _ _ h => h) (Or.inl ⟨by rfl, ?_⟩) (by assumption) ?_
      rotate_left
      · ((intro w hSw; (try dsimp only at hSw); go_simp; (try rw [if_neg (by omega)])); try with_reducible rfl)
      (try simp only [Act.put, List.setIfInBounds_toArray, List.set_cons_zero, List.set_cons_succ])
      refine wpAnyH_take (i := 7) (oi := { dst := some 38, op := Op.move (Operand.tmp 1), type := 25, pos := "law.go:49", after := #[], guard := none }) (v := ?_) rfl (by kernel_rfl) (by kernel_rfl) (by kernel_rfl) (fun _ _ _ h => h) (Or.inl ⟨by rfl, ?_⟩) (by assumption) ?_
      rotate_left
      · ((intro w hSw; (try dsimp only at hSw); go_simp; (try rw [if_neg (by omega)])); try with_reducible rfl)
      (try simp only [Act.put, List.setIfInBounds_toArray, List.set_cons_zero, List.set_cons_succ])
      refine wpAnyH_take (i := 8) (oi := { dst := some 39, op := Op.load 34 (Operand.tmp 7), type := 34, pos := "law.go:49", after := #[], guard := none }) (v := ?_) rfl (by kernel_rfl) (by kernel_rfl) (by kernel_rfl) (fun _ _ _ h => h) (Or.inl ⟨by rfl, ?_⟩) (by assumption) ?_
      rotate_left
      · ((intro w hSw; (try dsimp only at hSw); go_simp; (try rw [if_neg (by omega)])); try with_reducible rfl)
      (try simp only [Act.put, List.setIfInBounds_toArray, List.set_cons_zero, List.set_cons_succ])
      refine wpAnyH_take (i := 9) (oi := { dst := some 40, op := Op.fieldAddr 37 (Operand.tmp 5) 2, type := 0, pos := "law.go:49", after := #[], guard := none }) (v := ?_) rfl (by kernel_rfl) (by kernel_rfl) (by kernel_rfl) (fun _ _ _ h => h) (Or.inl ⟨by rfl, ?_⟩) (by assumption) ?_
      rotate_left
      · ((intro w hSw; (try dsimp only at hSw); go_simp; (try rw [if_neg (by omega)])); try with_reducible rfl)
      (try simp only [Act.put, List.setIfInBounds_toArray, List.set_cons_zero, List.set_cons_succ])
      refine wpAnyH_take (i := 10) (oi := { dst := some 41, op := Op.load 3 (Operand.tmp 40), type := 3, pos := "law.go:49", after := #[{ on := 9, ground := Ground.data }], guard := none }) (v := ?_) rfl (by kernel_rfl) (by kernel_rfl) (by kernel_rfl) (fun _ _ _ h => h) (Or.inl ⟨by rfl, ?_⟩) (by assumption) ?_
      rotate_left
      · ((intro w hSw; (try dsimp only at hSw); go_simp; (try rw [if_neg (by omega)])); try with_reducible rfl)
      (try simp only [Act.put, List.setIfInBounds_toArray, List.set_cons_zero, List.set_cons_succ])
      refine wpAnyH_take (i := 11) (oi := { dst := some 42, op := Op.binOp BinOp.rem 3 (Operand.tmp 41) (Operand.const (Value.int IntKind.i64 2)) 3, type := 3, pos := "law.go:49", after := #[{ on := 10, ground := Ground.data }], guard := none }) (v := ?_) rfl (by kernel_rfl) (by kernel_rfl) (by kernel_rfl) (fun _ _ _ h => h) (Or.inl ⟨by rfl, ?_⟩) (by assumption) ?_
      rotate_left
      · ((intro w hSw; (try dsimp only at hSw); go_simp; (try rw [if_neg (by omega)])); try with_reducible rfl)
      (try simp only [Act.put, List.setIfInBounds_toArray, List.set_cons_zero, List.set_cons_succ])
      refine wpAnyH_take (i := 12) (oi := { dst := some 43, op := Op.binOp BinOp.eql 3 (Operand.tmp 42) (Operand.const (Value.int IntKind.i64 0)) 3, type := 4, pos := "law.go:49", after := #[{ on := 11, ground := Ground.data }], guard := none }) (v := ?_) rfl (by kernel_rfl) (by kernel_rfl) (by kernel_rfl) (fun _ _ _ h => h) (Or.inl ⟨by rfl, ?_⟩) (by assumption) ?_
      rotate_left
      · ((intro w hSw; (try dsimp only at hSw); go_simp; (try rw [if_neg (by omega)])); try with_reducible rfl)
      (try simp only [Act.put, List.setIfInBounds_toArray, List.set_cons_zero, List.set_cons_succ])
      refine wpAnyH_ready (rs := [6]) (by kernel_rfl) (by simp) ?_
      refine AllReadyH.cons (o := { dst := some 37, op := Op.call { callee := Callee.value (Operand.func 15), args := #[Operand.tmp 31, Operand.tmp 32, Operand.tmp 36], argTypes := #[24, 34, 4] }, type := 40, pos := "law.go:49", after := #[{ on := 0, ground := Ground.data }, { on := 1, ground := Ground.data }, { on := 5, ground := Ground.data }], guard := none }) rfl (fun K hK => ?_) ?_
      · (go_simp; go_at_call 15; refine (pin_mr ky on hkk HPS.out (by omega)).mono ?_; rintro x w5 ⟨rfl, p5⟩; dsimp only)
        refine hK.out _ _ ?_ (fun hHeld => ?_)
        · exact HS.out _ p5.1
        clear hK K
        (try simp only [Act.put, List.setIfInBounds_toArray, List.set_cons_zero, List.set_cons_succ])
        refine wpAnyH_ready (rs := [13]) (by kernel_rfl) (by simp) ?_
        refine AllReadyH.cons (o := { dst := some 44, op := Op.call { callee := Callee.value (Operand.func 36), args := #[Operand.tmp 38, Operand.tmp 39, Operand.tmp 43], argTypes := #[25, 34, 4] }, type := 40, pos := "law.go:49", after := #[{ on := 7, ground := Ground.data }, { on := 8, ground := Ground.data }, { on := 12, ground := Ground.data }, { on := 6, ground := Ground.chain }], guard := none }) rfl (fun K hK => ?_) ?_
        · (go_simp; go_at_call 36; refine (pin_rr ky on hkk p5 (by omega)).mono ?_; rintro x w6 ⟨rfl, p6⟩; dsimp only)
          refine hK.out _ _ ?_ (fun hHeld => ?_)
          · exact HS.out _ p6.1
          clear hK K
          (try simp only [Act.put, List.setIfInBounds_toArray, List.set_cons_zero, List.set_cons_succ])
          refine wpAnyH_take (i := 14) (oi := { dst := some 45, op := Op.binOp BinOp.eql 40 (Operand.tmp 37) (Operand.tmp 44) 40, type := 4, pos := "law.go:49", after := #[{ on := 6, ground := Ground.data }, { on := 13, ground := Ground.data }], guard := none }) (v := ?_) rfl (by kernel_rfl) (by kernel_rfl) (by kernel_rfl) (fun _ _ _ h => h) (Or.inl ⟨by rfl, ?_⟩) (by assumption) ?_
          rotate_left
          · ((intro w hSw; (try dsimp only at hSw); go_simp; (try rw [if_neg (by omega)])); try with_reducible rfl)
          (try simp only [Act.put, List.setIfInBounds_toArray, List.set_cons_zero, List.set_cons_succ])
          refine wpAnyH_take (i := 15) (oi := { dst := some 6, op := Op.assign (Operand.tmp 45), type := 4, pos := "law.go:49", after := #[{ on := 14, ground := Ground.data }, { on := 13, ground := Ground.chain }, { on := 0, ground := Ground.phase }, { on := 1, ground := Ground.phase }, { on := 2, ground := Ground.phase }, { on := 3, ground := Ground.phase }, { on := 4, ground := Ground.phase }, { on := 5, ground := Ground.phase }, { on := 6, ground := Ground.phase }, { on := 7, ground := Ground.phase }, { on := 8, ground := Ground.phase }, { on := 9, ground := Ground.phase }, { on := 10, ground := Ground.phase }, { on := 11, ground := Ground.phase }, { on := 12, ground := Ground.phase }, { on := 13, ground := Ground.phase }, { on := 14, ground := Ground.phase }], guard := none }) (v := ?_) rfl (by kernel_rfl) (by kernel_rfl) (by kernel_rfl) (fun _ _ _ h => h) (Or.inl ⟨by rfl, ?_⟩) (by assumption) ?_
          rotate_left
          · ((intro w hSw; (try dsimp only at hSw); go_simp; (try rw [if_neg (by omega)])); try with_reducible rfl)
          (try simp only [Act.put, List.setIfInBounds_toArray, List.set_cons_zero, List.set_cons_succ])
          refine wpAnyH_done (by kernel_rfl) ?_ _
          have HP := Lib.hid ((p6.mono (Nat.le_succ k)).from_below HBW.out)
          clear p5 p6
          go_wp2
          go_ret
          exact ⟨by simp, by rw [HQ3.out]; exact HP.out⟩
        exact AllReadyH.nil
      exact AllReadyH.nil
    · by_cases h5 : wh % 6 = 5
      · have HQ2 := HQ.out
        rw [if_neg h3, if_neg h44, if_pos h5] at HQ2
        have HQ3 := Lib.hid HQ2
        clear HQ2
        go_upto_region 8 with fail
        clear h3 h5 h44 hre6 w50
        refine wp_region_held_drew (S := (fun w' => w'.cell? ⟨X, 0, none⟩ = some (.int .i64 ky.1) ∧ w'.cell? ⟨X, 1, none⟩ = some (.int .i64 ky.2.1) ∧ w'.cell? ⟨X, 2, none⟩ = some (.int .i64 ky.2.2.1) ∧ w'.cell? ⟨X, 3, none⟩ = some (.int .i64 ky.2.2.2) ∧ w'.cell? ⟨W.heap.size, 2, none⟩ = some (.int .i64 sz))) (by kernel_rfl) ?_ (fun hHeld => ?_)
        · exact HS.out _ (FrS.drew _)
        refine wpAnyH_take (i := 0) (oi := { dst := some 48, op := Op.move (Operand.tmp 0), type := 24, pos := "law.go:51", after := #[], guard := none }) (v := ?_) rfl (by kernel_rfl) (by kernel_rfl) (by kernel_rfl) (fun _ _ _ h => h) (Or.inl ⟨by rfl, ?_⟩) (by assumption) ?_
        rotate_left
        · ((intro w hSw; (try dsimp only at hSw); go_simp; (try rw [if_neg (by omega)])); try with_reducible rfl)
        (try simp only [Act.put, List.setIfInBounds_toArray, List.set_cons_zero, List.set_cons_succ])
        refine wpAnyH_take (i := 1) (oi := { dst := some 49, op := Op.load 34 (Operand.tmp 7), type := 34, pos := "law.go:51", after := #[], guard := none }) (v := ?_) rfl (by kernel_rfl) (by kernel_rfl) (by kernel_rfl) (fun _ _ _ h => h) (Or.inl ⟨by rfl, ?_⟩) (by assumption) ?_
        rotate_left
        · ((intro w hSw; (try dsimp only at hSw); go_simp; (try rw [if_neg (by omega)])); try with_reducible rfl)
        (try simp only [Act.put, List.setIfInBounds_toArray, List.set_cons_zero, List.set_cons_succ])
        refine wpAnyH_take (i := 3) (oi := { dst := some 51, op := Op.move (Operand.tmp 1), type := 25, pos := "law.go:51", after := #[], guard := none }) (v := ?_) rfl (by kernel_rfl) (by kernel_rfl) (by kernel_rfl) (fun _ _ _ h => h) (Or.inl ⟨by rfl, ?_⟩) (by assumption) ?_
        rotate_left
        · ((intro w hSw; (try dsimp only at hSw); go_simp; (try rw [if_neg (by omega)])); try with_reducible rfl)
        (try simp only [Act.put, List.setIfInBounds_toArray, List.set_cons_zero, List.set_cons_succ])
        refine wpAnyH_take (i := 4) (oi := { dst := some 52, op := Op.load 34 (Operand.tmp 7), type := 34, pos := "law.go:51", after := #[], guard := none }) (v := ?_) rfl (by kernel_rfl) (by kernel_rfl) (by kernel_rfl) (fun _ _ _ h => h) (Or.inl ⟨by rfl, ?_⟩) (by assumption) ?_
        rotate_left
        · ((intro w hSw; (try dsimp only at hSw); go_simp; (try rw [if_neg (by omega)])); try with_reducible rfl)
        (try simp only [Act.put, List.setIfInBounds_toArray, List.set_cons_zero, List.set_cons_succ])
        refine wpAnyH_ready (rs := [2]) (by kernel_rfl) (by simp) ?_
        refine AllReadyH.cons (o := { dst := some 50, op := Op.call { callee := Callee.value (Operand.func 16), args := #[Operand.tmp 48, Operand.tmp 49], argTypes := #[24, 34] }, type := 40, pos := "law.go:51", after := #[{ on := 0, ground := Ground.data }, { on := 1, ground := Ground.data }], guard := none }) rfl (fun K hK => ?_) ?_
        · (go_simp; go_at_call 16; refine (drop_mr ky hkk HPS.out (by omega)).mono ?_; rintro x w5 ⟨rfl, p5⟩; dsimp only)
          refine hK.out _ _ ?_ (fun hHeld => ?_)
          · exact HS.out _ p5.1
          clear hK K
          (try simp only [Act.put, List.setIfInBounds_toArray, List.set_cons_zero, List.set_cons_succ])
          refine wpAnyH_ready (rs := [5]) (by kernel_rfl) (by simp) ?_
          refine AllReadyH.cons (o := { dst := some 53, op := Op.call { callee := Callee.value (Operand.func 37), args := #[Operand.tmp 51, Operand.tmp 52], argTypes := #[25, 34] }, type := 40, pos := "law.go:51", after := #[{ on := 3, ground := Ground.data }, { on := 4, ground := Ground.data }, { on := 2, ground := Ground.chain }], guard := none }) rfl (fun K hK => ?_) ?_
          · (go_simp; go_at_call 37; refine (drop_rr ky hkk p5 (by omega)).mono ?_; rintro x w6 ⟨rfl, p6⟩; dsimp only)
            refine hK.out _ _ ?_ (fun hHeld => ?_)
            · exact HS.out _ p6.1
            clear hK K
            (try simp only [Act.put, List.setIfInBounds_toArray, List.set_cons_zero, List.set_cons_succ])
            refine wpAnyH_take (i := 6) (oi := { dst := some 54, op := Op.binOp BinOp.eql 40 (Operand.tmp 50) (Operand.tmp 53) 40, type := 4, pos := "law.go:51", after := #[{ on := 2, ground := Ground.data }, { on := 5, ground := Ground.data }], guard := none }) (v := ?_) rfl (by kernel_rfl) (by kernel_rfl) (by kernel_rfl) (fun _ _ _ h => h) (Or.inl ⟨by rfl, ?_⟩) (by assumption) ?_
            rotate_left
            · ((intro w hSw; (try dsimp only at hSw); go_simp; (try rw [if_neg (by omega)])); try with_reducible rfl)
            (try simp only [Act.put, List.setIfInBounds_toArray, List.set_cons_zero, List.set_cons_succ])
            refine wpAnyH_take (i := 7) (oi := { dst := some 6, op := Op.assign (Operand.tmp 54), type := 4, pos := "law.go:51", after := #[{ on := 6, ground := Ground.data }, { on := 5, ground := Ground.chain }, { on := 0, ground := Ground.phase }, { on := 1, ground := Ground.phase }, { on := 2, ground := Ground.phase }, { on := 3, ground := Ground.phase }, { on := 4, ground := Ground.phase }, { on := 5, ground := Ground.phase }, { on := 6, ground := Ground.phase }], guard := none }) (v := ?_) rfl (by kernel_rfl) (by kernel_rfl) (by kernel_rfl) (fun _ _ _ h => h) (Or.inl ⟨by rfl, ?_⟩) (by assumption) ?_
            rotate_left
            · ((intro w hSw; (try dsimp only at hSw); go_simp; (try rw [if_neg (by omega)])); try with_reducible rfl)
            (try simp only [Act.put, List.setIfInBounds_toArray, List.set_cons_zero, List.set_cons_succ])
            refine wpAnyH_done (by kernel_rfl) ?_ _
            have HP := Lib.hid ((p6.mono (Nat.le_succ k)).from_below HBW.out)
            clear p5 p6
            go_wp2
            go_ret
            exact ⟨by simp, by rw [HQ3.out]; exact HP.out⟩
          exact AllReadyH.nil
        exact AllReadyH.nil
      · have HQ2 := HQ.out
        rw [if_neg h3, if_neg h44, if_neg h5] at HQ2
        have HQ3 := Lib.hid HQ2
        clear HQ2
        go_upto_region 9 with fail
        obtain ⟨⟨L, n, F, G, hL, hn, hm, hr, hd, hF, hG⟩, o1, o2, l1, l2, lt⟩ := H4.out
        have HPM := Lib.hid (put_any W4 M mb root bu sz L n F ky hkk hm (by rw [hL]; exact o1) (by omega) (by rw [← List.length_map (f := Prod.snd), hL]; omega))
        rw [hL] at HPM
        have HRR := Lib.hid fun V (hV : RrAt V r bu P G) => rput_any V r bu sz P G ky hV o2 (by omega)
        have hll := ME.put_len bu ky sz P
        have hps := o1.put ky sz hkk
        obtain ⟨PP, hPP⟩ : ∃ PP, ME.put bu ky sz P = PP := ⟨_, rfl⟩
        rw [hPP] at HPM HRR HQ3 hll hps
        obtain ⟨t70, t71, t72, t73, t52⟩ := HS.out W4 (FrS.refl _ _)
        clear hPP h3 h5 h44 hre6
        go_wp2_with fail
        go_at_call 17
        refine HPM.out.mono ?_
        rintro x w5 ⟨⟨v5, rfl, hrow5⟩, ⟨L', n', F', hL', hn', hm5, ok5, hF5⟩, hf5⟩
        go_upto_region 10 with fail
        clear w50 t70 t71 t72 t73 t52
        have hr5 := hr.kept hf5 (fun b hb x => hd b x hb)
        obtain ⟨t70, t71, t72, t73, t52⟩ := HS.out w5 (hf5.mono hF)
        have HR5 := Lib.hid (HRR.out w5 hr5)
        go_upto_region 11 with (go_at_call 38; refine HR5.out.mono ?_; rintro x w6 ⟨v6, rfl, hrow6, hp6⟩)
        clear t70 t71 t72 t73 t52
        have hfG := hp6.2
        have hrow56 := hfG.own hrow5 (fun q e z => by have := hrow5.lt q e; have := hr.lt q z; omega)
        have HSM := Lib.hid (same_any w6 v5 v6 PP.2.1 PP.2.1 (own_srcN hrow56) (own_srcN hrow6) (by omega) (by omega))
        rw [decide_eq_true rfl] at HSM
        have hfin : PSr W4 H w6 M mb root r bu PP.1 PP.1 (k + 1) := PSr.glue (H' := fun b => F' b ∨ G b) (hf5.mono hF) (fun b hb => hb.elim (fun z => (hF5 b z).imp (hF b) id) (fun z => .inl (hG b z)))
          (PSr.of_r hp6 hL' (by omega) hm5 (fun b hb hg => (hF5 b hb).elim (fun z => hd b z hg) (fun z => by have := hr.lt b hg; omega)) (fun b hb => .inl hb) (fun b hb => .inr hb) (by rw [← hL']; exact ok5) hps (by omega) (by omega))
        have HFI := Lib.hid (hfin.from_below HBW.out)
        clear hfin hp6 hfG hrow5 hrow6 hrow56 hm5 hf5 hr5 hm hr hd hF hG hL hL' hF5 ok5 HRR HPM HR5
        have heq : (PP.2.2 == PP.2.2) = true := by simp
        go_wp2_with fail
        go_at_call 20
        refine HSM.out.mono ?_
        rintro x w7 ⟨rfl, nq, rfl⟩
        have HFJ := Lib.hid (HFI.out.below (w' := w6.drewN nq) ⟨rfl, rfl, rfl, Nat.le_refl _, fun _ _ => rfl⟩)
        go_wp2
        go_ret
        exact ⟨by simp, by rw [HQ3.out]; exact HFJ.out⟩
end Go.Proofs.Ytmnajongifdajaa
