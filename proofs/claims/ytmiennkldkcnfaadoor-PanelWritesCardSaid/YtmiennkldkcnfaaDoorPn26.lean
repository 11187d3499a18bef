/- Something is done with a panel and with the reference's. No conditions. -/
import Derived.Test.YtmiennkldkcnfaaDoorPn25
namespace Go.Proofs.YtmiennkldkcnfaaDoor
set_option maxRecDepth 100000
set_option linter.unusedVariables false
open Go.ChangeShapes Go.WideShapes Go.ChangeAt Go.RowKit Go.Joins Go.Deep
theorem FrS.of_below {S : Nat → Prop} {V V' : World} (h : Below V.heap.size V V') : FrS S V V' := ⟨h.size, fun b hb _ => h.block b hb, fun U hU _ => bnext hU h⟩
theorem FrS.below' {S : Nat → Prop} {A B C : World} (h : FrS S B C) (k : FrS S A B) : FrS S A C := k.trans h
theorem FrS.trans' {S : Nat → Prop} {A B C : World} (k : FrS S A B) (h : Below B.heap.size B C) : FrS S A C := k.trans (FrS.of_below h)
section
variable {V : World} {b g b2 g2 : Nat} {P : Pn}
set_option maxHeartbeats 8000000 in
theorem do_any (h : TwP V b g b2 g2 P) (hu : P.upd < 1000000) (z : Cl) (hz : ClOk V z) (pw ph : Int) (hw1 : 1 ≤ pw) (hw2 : pw ≤ 64) (hh1 : 1 ≤ ph) (hh2 : ph ≤ 64) :
    Calls Tryd.prog 14 #[.agg (clv z).toArray, .pointer (some ⟨b, 0, none⟩), .pointer (some ⟨b2, 0, none⟩), .int .i64 pw, .int .i64 ph] V fun e w' => ∃ P', e = .returned (.bool true) ∧ TwP w' b g b2 g2 P' ∧ P'.upd ≤ P.upd + 1 ∧ FrS (FT b g b2 g2) V w' := by
  obtain ⟨wh, qa, qb, qc, qd, raw, v, R, fl⟩ := z
  obtain ⟨⟨k0, k1⟩, hq, hraw, hus, hfl⟩ := hz
  dsimp only at k0 k1 hq hraw hus hfl
  obtain ⟨va, vc, rfl⟩ := hus.ua.shape
  obtain ⟨hcl, hcm⟩ := hus.cap va R.length vc rfl
  have HUS := Lib.hid hus
  have HUPD := Lib.hid hu
  have HFL := Lib.hid hfl
  have HRAW := Lib.hid hraw
  have HPL := Lib.hid h.pl
  have hin := mkR_in hq hw1 hh1
  have hok := wi_ok hin (by omega) (by omega)
  obtain ⟨X1, X2, X3, X4, X5, X6, X7, X8⟩ := id hin
  obtain ⟨W, hW⟩ : ∃ W : Nat, (mkR qa qb qc qd pw ph).w = (W : Int) := ⟨(mkR qa qb qc qd pw ph).w.toNat, by omega⟩
  obtain ⟨H, hH⟩ : ∃ H : Nat, (mkR qa qb qc qd pw ph).h = (H : Int) := ⟨(mkR qa qb qc qd pw ph).h.toNat, by omega⟩
  have hWH : W ≤ 64 ∧ H ≤ 64 := by omega
  have HWH := Lib.hid hWH
  have hmr := fun U => mrect_any U qa qb qc qd pw ph hq hw1 (by omega) hh1 (by omega)
  obtain ⟨ch, hch⟩ : ∃ ch, mkR qa qb qc qd pw ph = ch := ⟨_, rfl⟩
  rw [hch] at hmr hok hW hH
  have HMR := Lib.hid hmr
  have HOK := Lib.hid hok
  have HHW := Lib.hid hW
  have HHH := Lib.hid hH
  clear hin X1 X2 X3 X4 X5 X6 X7 X8 hch hmr hok hW hH hWH hraw hfl hq
  obtain ⟨B, hB⟩ : ∃ B, V.heap.size = B := ⟨_, rfl⟩
  have hx1 := heap_alloc_new V (.cells #[.int .u8 wh, .int .u8 qa, .int .u8 qb, .int .u8 qc, .int .u8 qd, .int .i64 raw.x, .int .i64 raw.y, .int .i64 raw.w, .int .i64 raw.h, .slice va R.length vc, .int .i64 fl] 34)
  have hb1 := balloc (Below.refl _ V) (.cells #[.int .u8 wh, .int .u8 qa, .int .u8 qb, .int .u8 qc, .int .u8 qd, .int .i64 raw.x, .int .i64 raw.y, .int .i64 raw.w, .int .i64 raw.h, .slice va R.length vc, .int .i64 fl] 34)
  obtain ⟨w1, hw1'⟩ : ∃ w1, V.alloc (.cells #[.int .u8 wh, .int .u8 qa, .int .u8 qb, .int .u8 qc, .int .u8 qd, .int .i64 raw.x, .int .i64 raw.y, .int .i64 raw.w, .int .i64 raw.h, .slice va R.length vc, .int .i64 fl] 34) = w1 := ⟨_, rfl⟩
  rw [hw1', hB] at hx1
  rw [hw1'] at hb1
  have HX1 := Lib.hid hx1
  have HB1 := Lib.hid hb1
  have HBB := Lib.hid hB
  have HTV := Lib.hid h
  have x1 : w1.cell? ⟨B, 1, none⟩ = some (.int .u8 qa) := nd_cell hx1 rfl
  have x2 : w1.cell? ⟨B, 2, none⟩ = some (.int .u8 qb) := nd_cell hx1 rfl
  have x3 : w1.cell? ⟨B, 3, none⟩ = some (.int .u8 qc) := nd_cell hx1 rfl
  have x4 : w1.cell? ⟨B, 4, none⟩ = some (.int .u8 qd) := nd_cell hx1 rfl
  clear hx1 hb1 h hus hu
  obtain ⟨K, hK⟩ : ∃ K, wh % 5 = K := ⟨_, rfl⟩
  have hk5 : K = 0 ∨ K = 1 ∨ K = 2 ∨ K = 3 ∨ K = 4 := by omega
  have ht5 : wh.tmod 5 = K := by rw [Int.tmod_eq_emod_of_nonneg k0, hK]
  have hu8 : IntKind.u8.wrap K = K := by rw [IntKind.wrap_u8]; omega
  have hu8t : IntKind.u8.wrap (wh.tmod 5) = K := by rw [ht5, hu8]
  have HK := Lib.hid (And.intro ht5 (And.intro hK (And.intro hu8 hu8t)))
  clear hK ht5 hu8 hu8t
  change Calls Tryd.prog 14 #[.agg #[.int .u8 wh, .int .u8 qa, .int .u8 qb, .int .u8 qc, .int .u8 qd, .int .i64 raw.x, .int .i64 raw.y, .int .i64 raw.w, .int .i64 raw.h, .slice va R.length vc, .int .i64 fl], .pointer (some ⟨b, 0, none⟩), .pointer (some ⟨b2, 0, none⟩), .int .i64 pw, .int .i64 ph] V _
  go_enter Tryd.func14, Tryd.ntmps14
  go_upto_region 1 with fail
  try rw [hw1']
  try rw [hB]
  clear hw1' hB
  go_wp2_with fail
  go_at_call 24
  refine (HMR.out _).mono ?_
  rintro e w5 ⟨rfl, kb⟩
  clear x1 x2 x3 x4
  have HB5 := Lib.hid kb
  have hxn := heap_alloc_new w5 (.cells #[.int .i64 0, .int .i64 0, .int .i64 0, .int .i64 0] 31)
  have hbn := balloc (Below.refl _ w5) (.cells #[.int .i64 0, .int .i64 0, .int .i64 0, .int .i64 0] 31)
  obtain ⟨X, hX⟩ : ∃ X, w5.heap.size = X := ⟨_, rfl⟩
  obtain ⟨wa, hwa⟩ : ∃ wa, w5.alloc (.cells #[.int .i64 0, .int .i64 0, .int .i64 0, .int .i64 0] 31) = wa := ⟨_, rfl⟩
  have HXo : Hid (X = w5.heap.size) := Lib.hid hX.symm
  rw [hX, hwa] at hxn
  rw [hwa] at hbn
  have y0 : wa.cell? ⟨X, 0, none⟩ = some (.int .i64 0) := nd_cell hxn rfl
  have y1 : wa.cell? ⟨X, 1, none⟩ = some (.int .i64 0) := nd_cell hxn rfl
  have y2 : wa.cell? ⟨X, 2, none⟩ = some (.int .i64 0) := nd_cell hxn rfl
  have y3 : wa.cell? ⟨X, 3, none⟩ = some (.int .i64 0) := nd_cell hxn rfl
  have z0 := nd_froz hxn 0
  have z1 := nd_froz hxn 1
  have z2 := nd_froz hxn 2
  have z3 := nd_froz hxn 3
  obtain ⟨wx, hwx, hxx, hfx⟩ := set4 hxn (.int .i64 ch.x) (.int .i64 ch.y) (.int .i64 ch.w) (.int .i64 ch.h)
  have HXX := Lib.hid hxx
  have HBX := Lib.hid (bnext HB5.out (hfx.below w5 hbn (fun b hb => by rw [hb, HXo.out]; exact Nat.le_refl _)))
  clear hxx hfx hbn hxn kb
  go_upto_region 2 with fail
  try rw [hwx]
  clear y0 y1 y2 y3 z0 z1 z2 z3 hwx hX hwa
  have HCB : Hid (∀ U, Below w1.heap.size w1 U → U.heap[B]? = some (.cells #[.int .u8 wh, .int .u8 qa, .int .u8 qb, .int .u8 qc, .int .u8 qd, .int .i64 raw.x, .int .i64 raw.y, .int .i64 raw.w, .int .i64 raw.h, .slice va R.length vc, .int .i64 fl] 34)) := Lib.hid fun U hU => (hU.block B (Array.getElem?_eq_some_iff.1 HX1.out).1).trans HX1.out
  have hxb := HCB.out wx HBX.out
  have a9 : wx.cell? ⟨B, 9, none⟩ = some (.slice va R.length vc) := nd_cell hxb rfl
  have y2 : wx.cell? ⟨X, 2, none⟩ = some (.int .i64 (W : Int)) := by rw [← HHW.out]; exact nd_cell HXX.out rfl
  have y3 : wx.cell? ⟨X, 3, none⟩ = some (.int .i64 (H : Int)) := by rw [← HHH.out]; exact nd_cell HXX.out rfl
  have HMD := Lib.hid (made_any wx R (.slice va R.length vc) W H HWH.out.1 (by have := HWH.out.2; omega) (HUS.out.ua.keep (bnext HB1.out HBX.out)) HUS.out.len HUS.out.lt)
  clear hxb
  go_wp2_with fail
  go_at_call 34
  refine HMD.out.mono ?_
  rintro e w6 ⟨vr, rfl, ko, kb⟩
  clear a9 y2 y3 HMD
  have HB6 := Lib.hid (bnext HBX.out kb)
  obtain ⟨ra, rc, rfl⟩ := own_shape ko
  have HKO := Lib.hid ko
  have HX6 := Lib.hid ((kb.block X (Array.getElem?_eq_some_iff.1 HXX.out).1).trans HXX.out)
  have HBB6 := Lib.hid (HCB.out w6 HB6.out)
  have HXV : Hid (V.heap.size < X ∧ B = V.heap.size) := Lib.hid (by
    have h1 := (Array.getElem?_eq_some_iff.1 HX1.out).1
    have h2 := HB5.out.size
    have h3 := HXo.out
    have h4 := HBB.out
    omega)
  have a0 : w6.cell? ⟨B, 0, none⟩ = some (.int .u8 wh) := nd_cell HBB6.out rfl
  have a10 : w6.cell? ⟨B, 10, none⟩ = some (.int .i64 fl) := nd_cell HBB6.out rfl
  have HF6 := Lib.hid (FrS.of_below (S := FT b g b2 g2) (bnext HB1.out HB6.out))
  have HT6 := Lib.hid (HTV.out.below (bnext HB1.out HB6.out))
  clear ko kb
  obtain ⟨t5, t6, t7, t8⟩ := HK.out
  rcases hk5 with rfl | rfl | rfl | rfl | rfl
  · go_upto_region 5 with fail
    have HC := Lib.hid (two_fail HT6.out fl HFL.out.2)
    go_wp2_with fail
    go_at_call 31
    refine HC.out.mono ?_
    rintro e w7 ⟨rfl, f7, hnx⟩
    have a10' : w7.cell? ⟨B, 10, none⟩ = some (.int .i64 fl) := nd_cell (f7.nd HBB6.out (fun e => by have q1 := HXV.out; have q2 := HPL.out; rcases e with e | e <;> omega)) rfl
    clear a0 a10 HC f7
    have HNX := hnx
    clear hnx
    go_upto_region 6 with fail
    go_wp2_with fail
    go_at_call 35
    refine HNX.out.mono ?_
    rintro e w8 ⟨rfl, ht8, f8⟩
    clear a10' HNX
    have HT := Lib.hid ht8
    have HFV := Lib.hid (HF6.out.trans f8)
    have HBLK := Lib.hid (f8.nd HX6.out (fun e => by have q1 := HXV.out; have q2 := HPL.out; rcases e with (e | e) | (e | e) <;> omega))
    have HPU : Hid (({ P with fa := decide (0 ≤ fl), left := fl.toNat } : Pn).upd ≤ P.upd) := Lib.hid (Nat.le_refl _)
    have HSL : Hid ((mkRow R W H).length ≤ 1000000 ∧ ∀ r ∈ mkRow R W H, r < 18446744073709551616) := Lib.hid ⟨by rw [mkRow_len]; have := HWH.out; omega, fun r hr => Nat.lt_of_lt_of_le (mkRow_lt r hr) (Nat.pow_le_pow_right (n := 2) (by decide) HWH.out.1)⟩
    have HRB : Hid (∀ q, (Value.slice ra H rc).ownBlock = some q → V.heap.size ≤ q) := Lib.hid fun q hq => Nat.le_trans (bnext HB1.out HBX.out).size (HKO.out.lt q hq).1
    have hu8 := (own_ua HKO.out).frame f8 (fun q hq e => by have q1 := HRB.out q hq; have q2 := HPL.out; rcases e with (e | e) | (e | e) <;> omega)
    have HU := Lib.hid (fun (U : World) (hU : Below w8.heap.size w8 U) => hu8.keep hU)
    clear hu8 ht8 f8
    go_upto_region 13 with fail
    obtain ⟨wd, hwd⟩ : ∃ wd, w8.drew = wd := ⟨_, rfl⟩
    have HWD := Lib.hid hwd
    have hbd : Below w8.heap.size w8 wd := by rw [← hwd]; exact Below.drew (Below.refl _ w8)
    have hcc := two_write (HT.out.below hbd) (by have := HPU.out; have := HUPD.out; omega) ch HOK.out (mkRow R W H) (.slice ra H rc) (HU.out _ hbd) (fun q hq => by have q1 := HRB.out q hq; have q2 := HPL.out; omega) HSL.out.1 HSL.out.2
    have hup := (wr_ok HT.out.ok (by have := HPU.out; have := HUPD.out; omega) ch (mkRow R W H)).2
    obtain ⟨er, her⟩ : ∃ er, (Pn.wr ({ P with fa := decide (0 ≤ fl), left := fl.toNat } : Pn) ch (mkRow R W H)).1 = er := ⟨_, rfl⟩
    obtain ⟨PN', hPN⟩ : ∃ PN', (Pn.wr ({ P with fa := decide (0 ≤ fl), left := fl.toNat } : Pn) ch (mkRow R W H)).2 = PN' := ⟨_, rfl⟩
    rw [her, hPN] at hcc
    rw [hPN] at hup
    have HUP := Lib.hid hup
    have HC := Lib.hid hcc
    have HKX : Hid (∀ U, FrS (FT b g b2 g2) wd U → U.cell? ⟨X, 0, none⟩ = some (.int .i64 ch.x) ∧ U.cell? ⟨X, 1, none⟩ = some (.int .i64 ch.y) ∧ U.cell? ⟨X, 2, none⟩ = some (.int .i64 ch.w) ∧ U.cell? ⟨X, 3, none⟩ = some (.int .i64 ch.h)) := Lib.hid fun U hU => by
      have h1 := hU.nd ((hbd.block X (Array.getElem?_eq_some_iff.1 HBLK.out).1).trans HBLK.out) (fun e => by have q1 := HXV.out; have q2 := HPL.out; rcases e with (e | e) | (e | e) <;> omega)
      exact ⟨nd_cell h1 rfl, nd_cell h1 rfl, nd_cell h1 rfl, nd_cell h1 rfl⟩
    have HBV := Lib.hid (HFV.out.trans' hbd)
    clear hwd hbd hcc hup her hPN
    refine wp_region_held_drew (S := (fun U => U.cell? ⟨X, 0, none⟩ = some (.int .i64 ch.x) ∧ U.cell? ⟨X, 1, none⟩ = some (.int .i64 ch.y) ∧ U.cell? ⟨X, 2, none⟩ = some (.int .i64 ch.w) ∧ U.cell? ⟨X, 3, none⟩ = some (.int .i64 ch.h))) (by kernel_rfl) ?_ (fun hHeld => ?_)
    · (rw [HWD.out]; exact HKX.out _ (FrS.refl _ _))
    rw [HWD.out] at hHeld ⊢
    refine wpAnyH_take (i := 0) (oi := { dst := some 80, op := Op.move (Operand.tmp 1), type := 25, pos := "law.go:54", after := #[], guard := none }) (v := ?_) rfl (by kernel_rfl) (by kernel_rfl) (by kernel_rfl) (fun _ _ _ h => h) (Or.inl ⟨by rfl, ?_⟩) (by assumption) ?_
    rotate_left
    · ((intro w hSw; (try dsimp only at hSw); go_simp; (try rw [if_neg (by omega)])); try with_reducible rfl)
    (try simp only [Act.put, List.setIfInBounds_toArray, List.set_cons_zero, List.set_cons_succ])
    refine wpAnyH_take (i := 1) (oi := { dst := some 81, op := Op.load 31 (Operand.tmp 11), type := 31, pos := "law.go:54", after := #[], guard := none }) (v := ?_) rfl (by kernel_rfl) (by kernel_rfl) (by kernel_rfl) (fun _ _ _ h => h) (Or.inl ⟨by rfl, ?_⟩) (by assumption) ?_
    rotate_left
    · ((intro w hSw; (try dsimp only at hSw); go_simp; (try rw [if_neg (by omega)])); try with_reducible rfl)
    (try simp only [Act.put, List.setIfInBounds_toArray, List.set_cons_zero, List.set_cons_succ])
    refine wpAnyH_take (i := 2) (oi := { dst := some 82, op := Op.move (Operand.tmp 12), type := 32, pos := "law.go:54", after := #[], guard := none }) (v := ?_) rfl (by kernel_rfl) (by kernel_rfl) (by kernel_rfl) (fun _ _ _ h => h) (Or.inl ⟨by rfl, ?_⟩) (by assumption) ?_
    rotate_left
    · ((intro w hSw; (try dsimp only at hSw); go_simp; (try rw [if_neg (by omega)])); try with_reducible rfl)
    (try simp only [Act.put, List.setIfInBounds_toArray, List.set_cons_zero, List.set_cons_succ])
    refine wpAnyH_take (i := 4) (oi := { dst := some 84, op := Op.move (Operand.tmp 2), type := 27, pos := "law.go:54", after := #[], guard := none }) (v := ?_) rfl (by kernel_rfl) (by kernel_rfl) (by kernel_rfl) (fun _ _ _ h => h) (Or.inl ⟨by rfl, ?_⟩) (by assumption) ?_
    rotate_left
    · ((intro w hSw; (try dsimp only at hSw); go_simp; (try rw [if_neg (by omega)])); try with_reducible rfl)
    (try simp only [Act.put, List.setIfInBounds_toArray, List.set_cons_zero, List.set_cons_succ])
    refine wpAnyH_take (i := 5) (oi := { dst := some 85, op := Op.load 31 (Operand.tmp 11), type := 31, pos := "law.go:54", after := #[], guard := none }) (v := ?_) rfl (by kernel_rfl) (by kernel_rfl) (by kernel_rfl) (fun _ _ _ h => h) (Or.inl ⟨by rfl, ?_⟩) (by assumption) ?_
    rotate_left
    · ((intro w hSw; (try dsimp only at hSw); go_simp; (try rw [if_neg (by omega)])); try with_reducible rfl)
    (try simp only [Act.put, List.setIfInBounds_toArray, List.set_cons_zero, List.set_cons_succ])
    refine wpAnyH_take (i := 6) (oi := { dst := some 86, op := Op.move (Operand.tmp 12), type := 32, pos := "law.go:54", after := #[], guard := none }) (v := ?_) rfl (by kernel_rfl) (by kernel_rfl) (by kernel_rfl) (fun _ _ _ h => h) (Or.inl ⟨by rfl, ?_⟩) (by assumption) ?_
    rotate_left
    · ((intro w hSw; (try dsimp only at hSw); go_simp; (try rw [if_neg (by omega)])); try with_reducible rfl)
    (try simp only [Act.put, List.setIfInBounds_toArray, List.set_cons_zero, List.set_cons_succ])
    refine wpAnyH_ready (rs := [3]) (by kernel_rfl) (by simp) ?_
    refine AllReadyH.cons (o := { dst := some 83, op := Op.call { callee := Callee.value (Operand.func 30), args := #[Operand.tmp 80, Operand.tmp 81, Operand.tmp 82], argTypes := #[25, 31, 32] }, type := 59, pos := "law.go:54", after := #[{ on := 0, ground := Ground.data }, { on := 1, ground := Ground.data }, { on := 2, ground := Ground.data }], guard := none }) rfl (fun K hK => ?_) ?_
    · (go_simp; go_at_call 30; refine HC.out.mono ?_; rintro u wz1 ⟨rfl, f1, hnx⟩; dsimp only)
      refine hK.out _ _ ?_ (fun hHeld => ?_)
      · exact HKX.out _ (f1.mono fun q hq => .inl hq)
      clear hK K
      (try simp only [Act.put, List.setIfInBounds_toArray, List.set_cons_zero, List.set_cons_succ])
      refine wpAnyH_ready (rs := [7]) (by kernel_rfl) (by simp) ?_
      refine AllReadyH.cons (o := { dst := some 87, op := Op.call { callee := Callee.value (Operand.func 36), args := #[Operand.tmp 84, Operand.tmp 85, Operand.tmp 86], argTypes := #[27, 31, 32] }, type := 59, pos := "law.go:54", after := #[{ on := 4, ground := Ground.data }, { on := 5, ground := Ground.data }, { on := 6, ground := Ground.data }, { on := 3, ground := Ground.chain }], guard := none }) rfl (fun K hK => ?_) ?_
      · (go_simp; go_at_call 36; refine hnx.out.mono ?_; rintro u wz2 ⟨rfl, ht2, f2⟩; dsimp only)
        refine hK.out _ _ ?_ (fun hHeld => ?_)
        · exact HKX.out _ f2
        clear hK K
        (try simp only [Act.put, List.setIfInBounds_toArray, List.set_cons_zero, List.set_cons_succ])
        refine wpAnyH_take (i := 8) (oi := { dst := some 88, op := Op.binOp BinOp.eql 59 (Operand.tmp 83) (Operand.tmp 87) 59, type := 4, pos := "law.go:54", after := #[{ on := 3, ground := Ground.data }, { on := 7, ground := Ground.data }], guard := none }) (v := ?_) rfl (by kernel_rfl) (by kernel_rfl) (by kernel_rfl) (fun _ _ _ h => h) (Or.inl ⟨by rfl, ?_⟩) (by assumption) ?_
        rotate_left
        · ((intro w hSw; (try dsimp only at hSw); go_simp; (try rw [if_neg (by omega)])); try with_reducible rfl)
        (try simp only [Act.put, List.setIfInBounds_toArray, List.set_cons_zero, List.set_cons_succ])
        refine wpAnyH_take (i := 9) (oi := { dst := some 10, op := Op.assign (Operand.tmp 88), type := 4, pos := "law.go:54", after := #[{ on := 8, ground := Ground.data }, { on := 7, ground := Ground.chain }, { on := 0, ground := Ground.phase }, { on := 1, ground := Ground.phase }, { on := 2, ground := Ground.phase }, { on := 3, ground := Ground.phase }, { on := 4, ground := Ground.phase }, { on := 5, ground := Ground.phase }, { on := 6, ground := Ground.phase }, { on := 7, ground := Ground.phase }, { on := 8, ground := Ground.phase }], guard := none }) (v := ?_) rfl (by kernel_rfl) (by kernel_rfl) (by kernel_rfl) (fun _ _ _ h => h) (Or.inl ⟨by rfl, ?_⟩) (by assumption) ?_
        rotate_left
        · ((intro w hSw; (try dsimp only at hSw); go_simp; (try rw [if_neg (by omega)])); try with_reducible rfl)
        (try simp only [Act.put, List.setIfInBounds_toArray, List.set_cons_zero, List.set_cons_succ])
        refine wpAnyH_done (by kernel_rfl) ?_ _
        clear hHeld
        have HT2 := Lib.hid ht2
        have HF2 := Lib.hid (HBV.out.trans f2)
        clear f1 f2 hnx ht2
        go_simp
        go_wp2
        go_ret
        have hfin : PN'.upd ≤ P.upd + 1 := by have := HUP.out; have := HPU.out; omega
        first | exact ⟨_, rfl, HT2.out, hfin, HF2.out⟩ | exact ⟨rfl, _, HT2.out, hfin, HF2.out⟩ | (trace_state; sorry)
      exact AllReadyH.nil
    exact AllReadyH.nil
  · obtain ⟨i0, hi0, hz0, hz1, hz2⟩ := info_parts info_u64
    have hBlt := (Array.getElem?_eq_some_iff.1 HBB6.out).1
    have a9 : (w6.alloc (.cells #[] 63)).cell? ⟨B, 9, none⟩ = some (.slice va R.length vc) := nd_cell (((balloc (Below.refl _ w6) (.cells #[] 63)).block B hBlt).trans HBB6.out) rfl
    obtain ⟨m, hm⟩ : ∃ m : Nat, min (R.length : Int) 8 = (m : Int) := ⟨min R.length 8, by omega⟩
    have hm5 : m ≤ 8 ∧ m ≤ R.length := by omega
    have hmc : m ≤ vc := by omega
    have hm0 : (0 : Int) ≤ (m : Int) := by omega
    have hml : (R.take 8).length = m := by rw [List.length_take]; omega
    have htk : R.take m = R.take 8 := by rw [← hml, List.length_take, ← List.take_take, List.take_length]
    have hs := SrcN.take (HUS.out.ua.keep (bnext HB1.out HB6.out)) hm5.2
    rw [Nat.mul_one, ← List.map_take, htk] at hs
    have htl : ∀ r ∈ R.take 8, r < 18446744073709551616 := fun x hx => HUS.out.lt x (List.mem_of_mem_take hx)
    obtain ⟨T, hT⟩ : ∃ T, R.take 8 = T := ⟨_, rfl⟩
    rw [hT] at hs hml htl
    have HS := Lib.hid (fun (U : World) (hU : Below w6.heap.size w6 U) => SrcN.keep hs hU)
    have HSL : Hid (T.length ≤ 1000000 ∧ ∀ r ∈ T, r < 18446744073709551616) := Lib.hid ⟨by omega, htl⟩
    have HM5 := Lib.hid hm5
    clear hs htk hT htl hm5 hml
    go_upto_region 9 with (at_builtin; refine wpList_appN _ rfl _ _ 32 rfl w6.heap.size 63 i0 _ 1 8 Tryd.underlying32 hi0 hz0 hz1 hz2 rfl (by decide) _ 0 [] rfl (own_empty w6 63 1 w6.heap.size (Nat.le_refl _)) _ m (T.map U6) (by rfl) (HS.out _ (balloc (Below.refl _ _) _)) (u64_cells T) (by unfold maxLen; omega) (by have := HM5.out; omega) (by simp) ?_; intro v' w7 hown hgrow _; obtain ⟨va7, vc7, rfl⟩ := own_shape hown)
    have hb7 : Below w6.heap.size w6 w7 := (balloc (Below.refl _ w6) (.cells #[] 63)).grown hgrow (by simp) (fun k e => by have : w6.heap.size = k := Option.some.inj e; omega)
    rw [Nat.zero_add, List.nil_append] at hown
    try rw [Nat.zero_add]
    have HO7 := Lib.hid hown
    have HB7 := Lib.hid hb7
    clear hown hgrow hb7 a9 a10 a0 hm0 hBlt
    have HT := Lib.hid (HT6.out.below HB7.out)
    have HFV := Lib.hid (HF6.out.trans' HB7.out)
    have HBLK := Lib.hid ((HB7.out.block X (Array.getElem?_eq_some_iff.1 HX6.out).1).trans HX6.out)
    have HPU : Hid (P.upd ≤ P.upd) := Lib.hid (Nat.le_refl _)
    have HRB : Hid (∀ q, (Value.slice va7 m vc7).ownBlock = some q → V.heap.size ≤ q) := Lib.hid fun q hq => Nat.le_trans (bnext HB1.out HB6.out).size (HO7.out.lt q hq).1
    have HU := Lib.hid (fun (U : World) (hU : Below w7.heap.size w7 U) => (own_ua HO7.out).keep hU)
    obtain ⟨wd, hwd⟩ : ∃ wd, w7.drew = wd := ⟨_, rfl⟩
    have HWD := Lib.hid hwd
    have hbd : Below w7.heap.size w7 wd := by rw [← hwd]; exact Below.drew (Below.refl _ w7)
    have hcc := two_write (HT.out.below hbd) (by have := HPU.out; have := HUPD.out; omega) ch HOK.out T (.slice va7 m vc7) (HU.out _ hbd) (fun q hq => by have q1 := HRB.out q hq; have q2 := HPL.out; omega) HSL.out.1 HSL.out.2
    have hup := (wr_ok HT.out.ok (by have := HPU.out; have := HUPD.out; omega) ch T).2
    obtain ⟨er, her⟩ : ∃ er, (Pn.wr P ch T).1 = er := ⟨_, rfl⟩
    obtain ⟨PN', hPN⟩ : ∃ PN', (Pn.wr P ch T).2 = PN' := ⟨_, rfl⟩
    rw [her, hPN] at hcc
    rw [hPN] at hup
    have HUP := Lib.hid hup
    have HC := Lib.hid hcc
    have HKX : Hid (∀ U, FrS (FT b g b2 g2) wd U → U.cell? ⟨X, 0, none⟩ = some (.int .i64 ch.x) ∧ U.cell? ⟨X, 1, none⟩ = some (.int .i64 ch.y) ∧ U.cell? ⟨X, 2, none⟩ = some (.int .i64 ch.w) ∧ U.cell? ⟨X, 3, none⟩ = some (.int .i64 ch.h)) := Lib.hid fun U hU => by
      have h1 := hU.nd ((hbd.block X (Array.getElem?_eq_some_iff.1 HBLK.out).1).trans HBLK.out) (fun e => by have q1 := HXV.out; have q2 := HPL.out; rcases e with (e | e) | (e | e) <;> omega)
      exact ⟨nd_cell h1 rfl, nd_cell h1 rfl, nd_cell h1 rfl, nd_cell h1 rfl⟩
    have HBV := Lib.hid (HFV.out.trans' hbd)
    clear hwd hbd hcc hup her hPN
    refine wp_region_held_drew (S := (fun U => U.cell? ⟨X, 0, none⟩ = some (.int .i64 ch.x) ∧ U.cell? ⟨X, 1, none⟩ = some (.int .i64 ch.y) ∧ U.cell? ⟨X, 2, none⟩ = some (.int .i64 ch.w) ∧ U.cell? ⟨X, 3, none⟩ = some (.int .i64 ch.h))) (by kernel_rfl) ?_ (fun hHeld => ?_)
    · (rw [HWD.out]; exact HKX.out _ (FrS.refl _ _))
    rw [HWD.out] at hHeld ⊢
    refine wpAnyH_take (i := 0) (oi := { dst := some 49, op := Op.move (Operand.tmp 1), type := 25, pos := "law.go:49", after := #[], guard := none }) (v := ?_) rfl (by kernel_rfl) (by kernel_rfl) (by kernel_rfl) (fun _ _ _ h => h) (Or.inl ⟨by rfl, ?_⟩) (by assumption) ?_
    rotate_left
    · ((intro w hSw; (try dsimp only at hSw); go_simp; (try rw [if_neg (by omega)])); try with_reducible rfl)
    (try simp only [Act.put, List.setIfInBounds_toArray, List.set_cons_zero, List.set_cons_succ])
    refine wpAnyH_take (i := 1) (oi := { dst := some 50, op := Op.load 31 (Operand.tmp 11), type := 31, pos := "law.go:49", after := #[], guard := none }) (v := ?_) rfl (by kernel_rfl) (by kernel_rfl) (by kernel_rfl) (fun _ _ _ h => h) (Or.inl ⟨by rfl, ?_⟩) (by assumption) ?_
    rotate_left
    · ((intro w hSw; (try dsimp only at hSw); go_simp; (try rw [if_neg (by omega)])); try with_reducible rfl)
    (try simp only [Act.put, List.setIfInBounds_toArray, List.set_cons_zero, List.set_cons_succ])
    refine wpAnyH_take (i := 2) (oi := { dst := some 51, op := Op.move (Operand.tmp 12), type := 32, pos := "law.go:49", after := #[], guard := none }) (v := ?_) rfl (by kernel_rfl) (by kernel_rfl) (by kernel_rfl) (fun _ _ _ h => h) (Or.inl ⟨by rfl, ?_⟩) (by assumption) ?_
    rotate_left
    · ((intro w hSw; (try dsimp only at hSw); go_simp; (try rw [if_neg (by omega)])); try with_reducible rfl)
    (try simp only [Act.put, List.setIfInBounds_toArray, List.set_cons_zero, List.set_cons_succ])
    refine wpAnyH_take (i := 4) (oi := { dst := some 53, op := Op.move (Operand.tmp 2), type := 27, pos := "law.go:49", after := #[], guard := none }) (v := ?_) rfl (by kernel_rfl) (by kernel_rfl) (by kernel_rfl) (fun _ _ _ h => h) (Or.inl ⟨by rfl, ?_⟩) (by assumption) ?_
    rotate_left
    · ((intro w hSw; (try dsimp only at hSw); go_simp; (try rw [if_neg (by omega)])); try with_reducible rfl)
    (try simp only [Act.put, List.setIfInBounds_toArray, List.set_cons_zero, List.set_cons_succ])
    refine wpAnyH_take (i := 5) (oi := { dst := some 54, op := Op.load 31 (Operand.tmp 11), type := 31, pos := "law.go:49", after := #[], guard := none }) (v := ?_) rfl (by kernel_rfl) (by kernel_rfl) (by kernel_rfl) (fun _ _ _ h => h) (Or.inl ⟨by rfl, ?_⟩) (by assumption) ?_
    rotate_left
    · ((intro w hSw; (try dsimp only at hSw); go_simp; (try rw [if_neg (by omega)])); try with_reducible rfl)
    (try simp only [Act.put, List.setIfInBounds_toArray, List.set_cons_zero, List.set_cons_succ])
    refine wpAnyH_take (i := 6) (oi := { dst := some 55, op := Op.move (Operand.tmp 12), type := 32, pos := "law.go:49", after := #[], guard := none }) (v := ?_) rfl (by kernel_rfl) (by kernel_rfl) (by kernel_rfl) (fun _ _ _ h => h) (Or.inl ⟨by rfl, ?_⟩) (by assumption) ?_
    rotate_left
    · ((intro w hSw; (try dsimp only at hSw); go_simp; (try rw [if_neg (by omega)])); try with_reducible rfl)
    (try simp only [Act.put, List.setIfInBounds_toArray, List.set_cons_zero, List.set_cons_succ])
    refine wpAnyH_ready (rs := [3]) (by kernel_rfl) (by simp) ?_
    refine AllReadyH.cons (o := { dst := some 52, op := Op.call { callee := Callee.value (Operand.func 30), args := #[Operand.tmp 49, Operand.tmp 50, Operand.tmp 51], argTypes := #[25, 31, 32] }, type := 59, pos := "law.go:49", after := #[{ on := 0, ground := Ground.data }, { on := 1, ground := Ground.data }, { on := 2, ground := Ground.data }], guard := none }) rfl (fun K hK => ?_) ?_
    · (go_simp; go_at_call 30; refine HC.out.mono ?_; rintro u wz1 ⟨rfl, f1, hnx⟩; dsimp only)
      refine hK.out _ _ ?_ (fun hHeld => ?_)
      · exact HKX.out _ (f1.mono fun q hq => .inl hq)
      clear hK K
      (try simp only [Act.put, List.setIfInBounds_toArray, List.set_cons_zero, List.set_cons_succ])
      refine wpAnyH_ready (rs := [7]) (by kernel_rfl) (by simp) ?_
      refine AllReadyH.cons (o := { dst := some 56, op := Op.call { callee := Callee.value (Operand.func 36), args := #[Operand.tmp 53, Operand.tmp 54, Operand.tmp 55], argTypes := #[27, 31, 32] }, type := 59, pos := "law.go:49", after := #[{ on := 4, ground := Ground.data }, { on := 5, ground := Ground.data }, { on := 6, ground := Ground.data }, { on := 3, ground := Ground.chain }], guard := none }) rfl (fun K hK => ?_) ?_
      · (go_simp; go_at_call 36; refine hnx.out.mono ?_; rintro u wz2 ⟨rfl, ht2, f2⟩; dsimp only)
        refine hK.out _ _ ?_ (fun hHeld => ?_)
        · exact HKX.out _ f2
        clear hK K
        (try simp only [Act.put, List.setIfInBounds_toArray, List.set_cons_zero, List.set_cons_succ])
        refine wpAnyH_take (i := 8) (oi := { dst := some 57, op := Op.binOp BinOp.eql 59 (Operand.tmp 52) (Operand.tmp 56) 59, type := 4, pos := "law.go:49", after := #[{ on := 3, ground := Ground.data }, { on := 7, ground := Ground.data }], guard := none }) (v := ?_) rfl (by kernel_rfl) (by kernel_rfl) (by kernel_rfl) (fun _ _ _ h => h) (Or.inl ⟨by rfl, ?_⟩) (by assumption) ?_
        rotate_left
        · ((intro w hSw; (try dsimp only at hSw); go_simp; (try rw [if_neg (by omega)])); try with_reducible rfl)
        (try simp only [Act.put, List.setIfInBounds_toArray, List.set_cons_zero, List.set_cons_succ])
        refine wpAnyH_take (i := 9) (oi := { dst := some 10, op := Op.assign (Operand.tmp 57), type := 4, pos := "law.go:49", after := #[{ on := 8, ground := Ground.data }, { on := 7, ground := Ground.chain }, { on := 0, ground := Ground.phase }, { on := 1, ground := Ground.phase }, { on := 2, ground := Ground.phase }, { on := 3, ground := Ground.phase }, { on := 4, ground := Ground.phase }, { on := 5, ground := Ground.phase }, { on := 6, ground := Ground.phase }, { on := 7, ground := Ground.phase }, { on := 8, ground := Ground.phase }], guard := none }) (v := ?_) rfl (by kernel_rfl) (by kernel_rfl) (by kernel_rfl) (fun _ _ _ h => h) (Or.inl ⟨by rfl, ?_⟩) (by assumption) ?_
        rotate_left
        · ((intro w hSw; (try dsimp only at hSw); go_simp; (try rw [if_neg (by omega)])); try with_reducible rfl)
        (try simp only [Act.put, List.setIfInBounds_toArray, List.set_cons_zero, List.set_cons_succ])
        refine wpAnyH_done (by kernel_rfl) ?_ _
        clear hHeld
        have HT2 := Lib.hid ht2
        have HF2 := Lib.hid (HBV.out.trans f2)
        clear f1 f2 hnx ht2
        go_simp
        go_wp2
        go_ret
        have hfin : PN'.upd ≤ P.upd + 1 := by have := HUP.out; have := HPU.out; omega
        first | exact ⟨_, rfl, HT2.out, hfin, HF2.out⟩ | exact ⟨rfl, _, HT2.out, hfin, HF2.out⟩ | (trace_state; sorry)
      exact AllReadyH.nil
    exact AllReadyH.nil
  · obtain ⟨i0, hi0, hz0, hz1, hz2⟩ := info_parts info_u64
    have hBlt := (Array.getElem?_eq_some_iff.1 HBB6.out).1
    have a9 : (w6.alloc (.cells #[] 63)).cell? ⟨B, 9, none⟩ = some (.slice va R.length vc) := nd_cell (((balloc (Below.refl _ w6) (.cells #[] 63)).block B hBlt).trans HBB6.out) rfl
    obtain ⟨m, hm⟩ : ∃ m : Nat, min (R.length : Int) 8 = (m : Int) := ⟨min R.length 8, by omega⟩
    have hm5 : m ≤ 8 ∧ m ≤ R.length := by omega
    have hmc : m ≤ vc := by omega
    have hm0 : (0 : Int) ≤ (m : Int) := by omega
    have hml : (R.take 8).length = m := by rw [List.length_take]; omega
    have htk : R.take m = R.take 8 := by rw [← hml, List.length_take, ← List.take_take, List.take_length]
    have hs := SrcN.take (HUS.out.ua.keep (bnext HB1.out HB6.out)) hm5.2
    rw [Nat.mul_one, ← List.map_take, htk] at hs
    have htl : ∀ r ∈ R.take 8, r < 18446744073709551616 := fun x hx => HUS.out.lt x (List.mem_of_mem_take hx)
    obtain ⟨T, hT⟩ : ∃ T, R.take 8 = T := ⟨_, rfl⟩
    rw [hT] at hs hml htl
    have HS := Lib.hid (fun (U : World) (hU : Below w6.heap.size w6 U) => SrcN.keep hs hU)
    have HSL : Hid (T.length ≤ 1000000 ∧ ∀ r ∈ T, r < 18446744073709551616) := Lib.hid ⟨by omega, htl⟩
    have HM5 := Lib.hid hm5
    clear hs htk hT htl hm5 hml
    go_upto_region 12 with (at_builtin; refine wpList_appN _ rfl _ _ 32 rfl w6.heap.size 63 i0 _ 1 8 Tryd.underlying32 hi0 hz0 hz1 hz2 rfl (by decide) _ 0 [] rfl (own_empty w6 63 1 w6.heap.size (Nat.le_refl _)) _ m (T.map U6) (by rfl) (HS.out _ (balloc (Below.refl _ _) _)) (u64_cells T) (by unfold maxLen; omega) (by have := HM5.out; omega) (by simp) ?_; intro v' w7 hown hgrow _; obtain ⟨va7, vc7, rfl⟩ := own_shape hown)
    have hb7 : Below w6.heap.size w6 w7 := (balloc (Below.refl _ w6) (.cells #[] 63)).grown hgrow (by simp) (fun k e => by have : w6.heap.size = k := Option.some.inj e; omega)
    rw [Nat.zero_add, List.nil_append] at hown
    try rw [Nat.zero_add]
    have HO7 := Lib.hid hown
    have HB7 := Lib.hid hb7
    clear hown hgrow hb7 a9 a10 a0 hm0 hBlt
    have HT := Lib.hid (HT6.out.below HB7.out)
    have HFV := Lib.hid (HF6.out.trans' HB7.out)
    have HBLK := Lib.hid ((HB7.out.block B (Array.getElem?_eq_some_iff.1 HBB6.out).1).trans HBB6.out)
    have HPU : Hid (P.upd ≤ P.upd) := Lib.hid (Nat.le_refl _)
    have HRB : Hid (∀ q, (Value.slice va7 m vc7).ownBlock = some q → V.heap.size ≤ q) := Lib.hid fun q hq => Nat.le_trans (bnext HB1.out HB6.out).size (HO7.out.lt q hq).1
    have HU := Lib.hid (fun (U : World) (hU : Below w7.heap.size w7 U) => (own_ua HO7.out).keep hU)
    obtain ⟨wd, hwd⟩ : ∃ wd, w7.drew = wd := ⟨_, rfl⟩
    have HWD := Lib.hid hwd
    have hbd : Below w7.heap.size w7 wd := by rw [← hwd]; exact Below.drew (Below.refl _ w7)
    have hcc := two_write (HT.out.below hbd) (by have := HPU.out; have := HUPD.out; omega) raw HRAW.out T (.slice va7 m vc7) (HU.out _ hbd) (fun q hq => by have q1 := HRB.out q hq; have q2 := HPL.out; omega) HSL.out.1 HSL.out.2
    have hup := (wr_ok HT.out.ok (by have := HPU.out; have := HUPD.out; omega) raw T).2
    obtain ⟨er, her⟩ : ∃ er, (Pn.wr P raw T).1 = er := ⟨_, rfl⟩
    obtain ⟨PN', hPN⟩ : ∃ PN', (Pn.wr P raw T).2 = PN' := ⟨_, rfl⟩
    rw [her, hPN] at hcc
    rw [hPN] at hup
    have HUP := Lib.hid hup
    have HC := Lib.hid hcc
    have HKX : Hid (∀ U, FrS (FT b g b2 g2) wd U → U.cell? ⟨B, 5, none⟩ = some (.int .i64 raw.x) ∧ U.cell? ⟨B, 6, none⟩ = some (.int .i64 raw.y) ∧ U.cell? ⟨B, 7, none⟩ = some (.int .i64 raw.w) ∧ U.cell? ⟨B, 8, none⟩ = some (.int .i64 raw.h)) := Lib.hid fun U hU => by
      have h1 := hU.nd ((hbd.block B (Array.getElem?_eq_some_iff.1 HBLK.out).1).trans HBLK.out) (fun e => by have q1 := HXV.out; have q2 := HPL.out; rcases e with (e | e) | (e | e) <;> omega)
      exact ⟨nd_cell h1 rfl, nd_cell h1 rfl, nd_cell h1 rfl, nd_cell h1 rfl⟩
    have HBV := Lib.hid (HFV.out.trans' hbd)
    clear hwd hbd hcc hup her hPN
    refine wp_region_held_drew (S := (fun U => U.cell? ⟨B, 5, none⟩ = some (.int .i64 raw.x) ∧ U.cell? ⟨B, 6, none⟩ = some (.int .i64 raw.y) ∧ U.cell? ⟨B, 7, none⟩ = some (.int .i64 raw.w) ∧ U.cell? ⟨B, 8, none⟩ = some (.int .i64 raw.h))) (by kernel_rfl) ?_ (fun hHeld => ?_)
    · (rw [HWD.out]; exact HKX.out _ (FrS.refl _ _))
    rw [HWD.out] at hHeld ⊢
    refine wpAnyH_take (i := 0) (oi := { dst := some 69, op := Op.move (Operand.tmp 1), type := 25, pos := "law.go:52", after := #[], guard := none }) (v := ?_) rfl (by kernel_rfl) (by kernel_rfl) (by kernel_rfl) (fun _ _ _ h => h) (Or.inl ⟨by rfl, ?_⟩) (by assumption) ?_
    rotate_left
    · ((intro w hSw; (try dsimp only at hSw); go_simp; (try rw [if_neg (by omega)])); try with_reducible rfl)
    (try simp only [Act.put, List.setIfInBounds_toArray, List.set_cons_zero, List.set_cons_succ])
    refine wpAnyH_take (i := 1) (oi := { dst := some 70, op := Op.fieldAddr 34 (Operand.tmp 5) 2, type := 0, pos := "law.go:52", after := #[], guard := none }) (v := ?_) rfl (by kernel_rfl) (by kernel_rfl) (by kernel_rfl) (fun _ _ _ h => h) (Or.inl ⟨by rfl, ?_⟩) (by assumption) ?_
    rotate_left
    · ((intro w hSw; (try dsimp only at hSw); go_simp; (try rw [if_neg (by omega)])); try with_reducible rfl)
    (try simp only [Act.put, List.setIfInBounds_toArray, List.set_cons_zero, List.set_cons_succ])
    refine wpAnyH_take (i := 2) (oi := { dst := some 71, op := Op.load 31 (Operand.tmp 70), type := 31, pos := "law.go:52", after := #[{ on := 1, ground := Ground.data }], guard := none }) (v := ?_) rfl (by kernel_rfl) (by kernel_rfl) (by kernel_rfl) (fun _ _ _ h => h) (Or.inl ⟨by rfl, ?_⟩) (by assumption) ?_
    rotate_left
    · ((intro w hSw; (try dsimp only at hSw); go_simp; (try rw [if_neg (by omega)])); try with_reducible rfl)
    (try simp only [Act.put, List.setIfInBounds_toArray, List.set_cons_zero, List.set_cons_succ])
    refine wpAnyH_take (i := 3) (oi := { dst := some 72, op := Op.move (Operand.tmp 12), type := 32, pos := "law.go:52", after := #[], guard := none }) (v := ?_) rfl (by kernel_rfl) (by kernel_rfl) (by kernel_rfl) (fun _ _ _ h => h) (Or.inl ⟨by rfl, ?_⟩) (by assumption) ?_
    rotate_left
    · ((intro w hSw; (try dsimp only at hSw); go_simp; (try rw [if_neg (by omega)])); try with_reducible rfl)
    (try simp only [Act.put, List.setIfInBounds_toArray, List.set_cons_zero, List.set_cons_succ])
    refine wpAnyH_take (i := 5) (oi := { dst := some 74, op := Op.move (Operand.tmp 2), type := 27, pos := "law.go:52", after := #[], guard := none }) (v := ?_) rfl (by kernel_rfl) (by kernel_rfl) (by kernel_rfl) (fun _ _ _ h => h) (Or.inl ⟨by rfl, ?_⟩) (by assumption) ?_
    rotate_left
    · ((intro w hSw; (try dsimp only at hSw); go_simp; (try rw [if_neg (by omega)])); try with_reducible rfl)
    (try simp only [Act.put, List.setIfInBounds_toArray, List.set_cons_zero, List.set_cons_succ])
    refine wpAnyH_take (i := 6) (oi := { dst := some 75, op := Op.fieldAddr 34 (Operand.tmp 5) 2, type := 0, pos := "law.go:52", after := #[], guard := none }) (v := ?_) rfl (by kernel_rfl) (by kernel_rfl) (by kernel_rfl) (fun _ _ _ h => h) (Or.inl ⟨by rfl, ?_⟩) (by assumption) ?_
    rotate_left
    · ((intro w hSw; (try dsimp only at hSw); go_simp; (try rw [if_neg (by omega)])); try with_reducible rfl)
    (try simp only [Act.put, List.setIfInBounds_toArray, List.set_cons_zero, List.set_cons_succ])
    refine wpAnyH_take (i := 7) (oi := { dst := some 76, op := Op.load 31 (Operand.tmp 75), type := 31, pos := "law.go:52", after := #[{ on := 6, ground := Ground.data }], guard := none }) (v := ?_) rfl (by kernel_rfl) (by kernel_rfl) (by kernel_rfl) (fun _ _ _ h => h) (Or.inl ⟨by rfl, ?_⟩) (by assumption) ?_
    rotate_left
    · ((intro w hSw; (try dsimp only at hSw); go_simp; (try rw [if_neg (by omega)])); try with_reducible rfl)
    (try simp only [Act.put, List.setIfInBounds_toArray, List.set_cons_zero, List.set_cons_succ])
    refine wpAnyH_take (i := 8) (oi := { dst := some 77, op := Op.move (Operand.tmp 12), type := 32, pos := "law.go:52", after := #[], guard := none }) (v := ?_) rfl (by kernel_rfl) (by kernel_rfl) (by kernel_rfl) (fun _ _ _ h => h) (Or.inl ⟨by rfl, ?_⟩) (by assumption) ?_
    rotate_left
    · ((intro w hSw; (try dsimp only at hSw); go_simp; (try rw [if_neg (by omega)])); try with_reducible rfl)
    (try simp only [Act.put, List.setIfInBounds_toArray, List.set_cons_zero, List.set_cons_succ])
    refine wpAnyH_ready (rs := [4]) (by kernel_rfl) (by simp) ?_
    refine AllReadyH.cons (o := { dst := some 73, op := Op.call { callee := Callee.value (Operand.func 30), args := #[Operand.tmp 69, Operand.tmp 71, Operand.tmp 72], argTypes := #[25, 31, 32] }, type := 59, pos := "law.go:52", after := #[{ on := 0, ground := Ground.data }, { on := 2, ground := Ground.data }, { on := 3, ground := Ground.data }], guard := none }) rfl (fun K hK => ?_) ?_
    · (go_simp; go_at_call 30; refine HC.out.mono ?_; rintro u wz1 ⟨rfl, f1, hnx⟩; dsimp only)
      refine hK.out _ _ ?_ (fun hHeld => ?_)
      · exact HKX.out _ (f1.mono fun q hq => .inl hq)
      clear hK K
      (try simp only [Act.put, List.setIfInBounds_toArray, List.set_cons_zero, List.set_cons_succ])
      refine wpAnyH_ready (rs := [9]) (by kernel_rfl) (by simp) ?_
      refine AllReadyH.cons (o := { dst := some 78, op := Op.call { callee := Callee.value (Operand.func 36), args := #[Operand.tmp 74, Operand.tmp 76, Operand.tmp 77], argTypes := #[27, 31, 32] }, type := 59, pos := "law.go:52", after := #[{ on := 5, ground := Ground.data }, { on := 7, ground := Ground.data }, { on := 8, ground := Ground.data }, { on := 4, ground := Ground.chain }], guard := none }) rfl (fun K hK => ?_) ?_
      · (go_simp; go_at_call 36; refine hnx.out.mono ?_; rintro u wz2 ⟨rfl, ht2, f2⟩; dsimp only)
        refine hK.out _ _ ?_ (fun hHeld => ?_)
        · exact HKX.out _ f2
        clear hK K
        (try simp only [Act.put, List.setIfInBounds_toArray, List.set_cons_zero, List.set_cons_succ])
        refine wpAnyH_take (i := 10) (oi := { dst := some 79, op := Op.binOp BinOp.eql 59 (Operand.tmp 73) (Operand.tmp 78) 59, type := 4, pos := "law.go:52", after := #[{ on := 4, ground := Ground.data }, { on := 9, ground := Ground.data }], guard := none }) (v := ?_) rfl (by kernel_rfl) (by kernel_rfl) (by kernel_rfl) (fun _ _ _ h => h) (Or.inl ⟨by rfl, ?_⟩) (by assumption) ?_
        rotate_left
        · ((intro w hSw; (try dsimp only at hSw); go_simp; (try rw [if_neg (by omega)])); try with_reducible rfl)
        (try simp only [Act.put, List.setIfInBounds_toArray, List.set_cons_zero, List.set_cons_succ])
        refine wpAnyH_take (i := 11) (oi := { dst := some 10, op := Op.assign (Operand.tmp 79), type := 4, pos := "law.go:52", after := #[{ on := 10, ground := Ground.data }, { on := 9, ground := Ground.chain }, { on := 0, ground := Ground.phase }, { on := 1, ground := Ground.phase }, { on := 2, ground := Ground.phase }, { on := 3, ground := Ground.phase }, { on := 4, ground := Ground.phase }, { on := 5, ground := Ground.phase }, { on := 6, ground := Ground.phase }, { on := 7, ground := Ground.phase }, { on := 8, ground := Ground.phase }, { on := 9, ground := Ground.phase }, { on := 10, ground := Ground.phase }], guard := none }) (v := ?_) rfl (by kernel_rfl) (by kernel_rfl) (by kernel_rfl) (fun _ _ _ h => h) (Or.inl ⟨by rfl, ?_⟩) (by assumption) ?_
        rotate_left
        · ((intro w hSw; (try dsimp only at hSw); go_simp; (try rw [if_neg (by omega)])); try with_reducible rfl)
        (try simp only [Act.put, List.setIfInBounds_toArray, List.set_cons_zero, List.set_cons_succ])
        refine wpAnyH_done (by kernel_rfl) ?_ _
        clear hHeld
        have HT2 := Lib.hid ht2
        have HF2 := Lib.hid (HBV.out.trans f2)
        clear f1 f2 hnx ht2
        go_simp
        go_wp2
        go_ret
        have hfin : PN'.upd ≤ P.upd + 1 := by have := HUP.out; have := HPU.out; omega
        first | exact ⟨_, rfl, HT2.out, hfin, HF2.out⟩ | exact ⟨rfl, _, HT2.out, hfin, HF2.out⟩ | (trace_state; sorry)
      exact AllReadyH.nil
    exact AllReadyH.nil
  · clear a10
    have HSL : Hid ((mkRow R W H).length ≤ 1000000 ∧ ∀ r ∈ mkRow R W H, r < 18446744073709551616) := Lib.hid ⟨by rw [mkRow_len]; have := HWH.out; omega, fun r hr => Nat.lt_of_lt_of_le (mkRow_lt r hr) (Nat.pow_le_pow_right (n := 2) (by decide) HWH.out.1)⟩
    have HRB : Hid (∀ q, (Value.slice ra H rc).ownBlock = some q → V.heap.size ≤ q) := Lib.hid fun q hq => Nat.le_trans (bnext HB1.out HBX.out).size (HKO.out.lt q hq).1
    have HT := HT6
    have HFV := HF6
    have HBLK := HX6
    have HPU : Hid (P.upd ≤ P.upd) := Lib.hid (Nat.le_refl _)
    have HU := Lib.hid (fun (U : World) (hU : Below w6.heap.size w6 U) => (own_ua HKO.out).keep hU)
    go_upto_region 13 with fail
    clear a0
    obtain ⟨wd, hwd⟩ : ∃ wd, w6.drew = wd := ⟨_, rfl⟩
    have HWD := Lib.hid hwd
    have hbd : Below w6.heap.size w6 wd := by rw [← hwd]; exact Below.drew (Below.refl _ w6)
    have hcc := two_write (HT.out.below hbd) (by have := HPU.out; have := HUPD.out; omega) ch HOK.out (mkRow R W H) (.slice ra H rc) (HU.out _ hbd) (fun q hq => by have q1 := HRB.out q hq; have q2 := HPL.out; omega) HSL.out.1 HSL.out.2
    have hup := (wr_ok HT.out.ok (by have := HPU.out; have := HUPD.out; omega) ch (mkRow R W H)).2
    obtain ⟨er, her⟩ : ∃ er, (Pn.wr P ch (mkRow R W H)).1 = er := ⟨_, rfl⟩
    obtain ⟨PN', hPN⟩ : ∃ PN', (Pn.wr P ch (mkRow R W H)).2 = PN' := ⟨_, rfl⟩
    rw [her, hPN] at hcc
    rw [hPN] at hup
    have HUP := Lib.hid hup
    have HC := Lib.hid hcc
    have HKX : Hid (∀ U, FrS (FT b g b2 g2) wd U → U.cell? ⟨X, 0, none⟩ = some (.int .i64 ch.x) ∧ U.cell? ⟨X, 1, none⟩ = some (.int .i64 ch.y) ∧ U.cell? ⟨X, 2, none⟩ = some (.int .i64 ch.w) ∧ U.cell? ⟨X, 3, none⟩ = some (.int .i64 ch.h)) := Lib.hid fun U hU => by
      have h1 := hU.nd ((hbd.block X (Array.getElem?_eq_some_iff.1 HBLK.out).1).trans HBLK.out) (fun e => by have q1 := HXV.out; have q2 := HPL.out; rcases e with (e | e) | (e | e) <;> omega)
      exact ⟨nd_cell h1 rfl, nd_cell h1 rfl, nd_cell h1 rfl, nd_cell h1 rfl⟩
    have HBV := Lib.hid (HFV.out.trans' hbd)
    clear hwd hbd hcc hup her hPN
    refine wp_region_held_drew (S := (fun U => U.cell? ⟨X, 0, none⟩ = some (.int .i64 ch.x) ∧ U.cell? ⟨X, 1, none⟩ = some (.int .i64 ch.y) ∧ U.cell? ⟨X, 2, none⟩ = some (.int .i64 ch.w) ∧ U.cell? ⟨X, 3, none⟩ = some (.int .i64 ch.h))) (by kernel_rfl) ?_ (fun hHeld => ?_)
    · (rw [HWD.out]; exact HKX.out _ (FrS.refl _ _))
    rw [HWD.out] at hHeld ⊢
    refine wpAnyH_take (i := 0) (oi := { dst := some 80, op := Op.move (Operand.tmp 1), type := 25, pos := "law.go:54", after := #[], guard := none }) (v := ?_) rfl (by kernel_rfl) (by kernel_rfl) (by kernel_rfl) (fun _ _ _ h => h) (Or.inl ⟨by rfl, ?_⟩) (by assumption) ?_
    rotate_left
    · ((intro w hSw; (try dsimp only at hSw); go_simp; (try rw [if_neg (by omega)])); try with_reducible rfl)
    (try simp only [Act.put, List.setIfInBounds_toArray, List.set_cons_zero, List.set_cons_succ])
    refine wpAnyH_take (i := 1) (oi := { dst := some 81, op := Op.load 31 (Operand.tmp 11), type := 31, pos := "law.go:54", after := #[], guard := none }) (v := ?_) rfl (by kernel_rfl) (by kernel_rfl) (by kernel_rfl) (fun _ _ _ h => h) (Or.inl ⟨by rfl, ?_⟩) (by assumption) ?_
    rotate_left
    · ((intro w hSw; (try dsimp only at hSw); go_simp; (try rw [if_neg (by omega)])); try with_reducible rfl)
    (try simp only [Act.put, List.setIfInBounds_toArray, List.set_cons_zero, List.set_cons_succ])
    refine wpAnyH_take (i := 2) (oi := { dst := some 82, op := Op.move (Operand.tmp 12), type := 32, pos := "law.go:54", after := #[], guard := none }) (v := ?_) rfl (by kernel_rfl) (by kernel_rfl) (by kernel_rfl) (fun _ _ _ h => h) (Or.inl ⟨by rfl, ?_⟩) (by assumption) ?_
    rotate_left
    · ((intro w hSw; (try dsimp only at hSw); go_simp; (try rw [if_neg (by omega)])); try with_reducible rfl)
    (try simp only [Act.put, List.setIfInBounds_toArray, List.set_cons_zero, List.set_cons_succ])
    refine wpAnyH_take (i := 4) (oi := { dst := some 84, op := Op.move (Operand.tmp 2), type := 27, pos := "law.go:54", after := #[], guard := none }) (v := ?_) rfl (by kernel_rfl) (by kernel_rfl) (by kernel_rfl) (fun _ _ _ h => h) (Or.inl ⟨by rfl, ?_⟩) (by assumption) ?_
    rotate_left
    · ((intro w hSw; (try dsimp only at hSw); go_simp; (try rw [if_neg (by omega)])); try with_reducible rfl)
    (try simp only [Act.put, List.setIfInBounds_toArray, List.set_cons_zero, List.set_cons_succ])
    refine wpAnyH_take (i := 5) (oi := { dst := some 85, op := Op.load 31 (Operand.tmp 11), type := 31, pos := "law.go:54", after := #[], guard := none }) (v := ?_) rfl (by kernel_rfl) (by kernel_rfl) (by kernel_rfl) (fun _ _ _ h => h) (Or.inl ⟨by rfl, ?_⟩) (by assumption) ?_
    rotate_left
    · ((intro w hSw; (try dsimp only at hSw); go_simp; (try rw [if_neg (by omega)])); try with_reducible rfl)
    (try simp only [Act.put, List.setIfInBounds_toArray, List.set_cons_zero, List.set_cons_succ])
    refine wpAnyH_take (i := 6) (oi := { dst := some 86, op := Op.move (Operand.tmp 12), type := 32, pos := "law.go:54", after := #[], guard := none }) (v := ?_) rfl (by kernel_rfl) (by kernel_rfl) (by kernel_rfl) (fun _ _ _ h => h) (Or.inl ⟨by rfl, ?_⟩) (by assumption) ?_
    rotate_left
    · ((intro w hSw; (try dsimp only at hSw); go_simp; (try rw [if_neg (by omega)])); try with_reducible rfl)
    (try simp only [Act.put, List.setIfInBounds_toArray, List.set_cons_zero, List.set_cons_succ])
    refine wpAnyH_ready (rs := [3]) (by kernel_rfl) (by simp) ?_
    refine AllReadyH.cons (o := { dst := some 83, op := Op.call { callee := Callee.value (Operand.func 30), args := #[Operand.tmp 80, Operand.tmp 81, Operand.tmp 82], argTypes := #[25, 31, 32] }, type := 59, pos := "law.go:54", after := #[{ on := 0, ground := Ground.data }, { on := 1, ground := Ground.data }, { on := 2, ground := Ground.data }], guard := none }) rfl (fun K hK => ?_) ?_
    · (go_simp; go_at_call 30; refine HC.out.mono ?_; rintro u wz1 ⟨rfl, f1, hnx⟩; dsimp only)
      refine hK.out _ _ ?_ (fun hHeld => ?_)
      · exact HKX.out _ (f1.mono fun q hq => .inl hq)
      clear hK K
      (try simp only [Act.put, List.setIfInBounds_toArray, List.set_cons_zero, List.set_cons_succ])
      refine wpAnyH_ready (rs := [7]) (by kernel_rfl) (by simp) ?_
      refine AllReadyH.cons (o := { dst := some 87, op := Op.call { callee := Callee.value (Operand.func 36), args := #[Operand.tmp 84, Operand.tmp 85, Operand.tmp 86], argTypes := #[27, 31, 32] }, type := 59, pos := "law.go:54", after := #[{ on := 4, ground := Ground.data }, { on := 5, ground := Ground.data }, { on := 6, ground := Ground.data }, { on := 3, ground := Ground.chain }], guard := none }) rfl (fun K hK => ?_) ?_
      · (go_simp; go_at_call 36; refine hnx.out.mono ?_; rintro u wz2 ⟨rfl, ht2, f2⟩; dsimp only)
        refine hK.out _ _ ?_ (fun hHeld => ?_)
        · exact HKX.out _ f2
        clear hK K
        (try simp only [Act.put, List.setIfInBounds_toArray, List.set_cons_zero, List.set_cons_succ])
        refine wpAnyH_take (i := 8) (oi := { dst := some 88, op := Op.binOp BinOp.eql 59 (Operand.tmp 83) (Operand.tmp 87) 59, type := 4, pos := "law.go:54", after := #[{ on := 3, ground := Ground.data }, { on := 7, ground := Ground.data }], guard := none }) (v := ?_) rfl (by kernel_rfl) (by kernel_rfl) (by kernel_rfl) (fun _ _ _ h => h) (Or.inl ⟨by rfl, ?_⟩) (by assumption) ?_
        rotate_left
        · ((intro w hSw; (try dsimp only at hSw); go_simp; (try rw [if_neg (by omega)])); try with_reducible rfl)
        (try simp only [Act.put, List.setIfInBounds_toArray, List.set_cons_zero, List.set_cons_succ])
        refine wpAnyH_take (i := 9) (oi := { dst := some 10, op := Op.assign (Operand.tmp 88), type := 4, pos := "law.go:54", after := #[{ on := 8, ground := Ground.data }, { on := 7, ground := Ground.chain }, { on := 0, ground := Ground.phase }, { on := 1, ground := Ground.phase }, { on := 2, ground := Ground.phase }, { on := 3, ground := Ground.phase }, { on := 4, ground := Ground.phase }, { on := 5, ground := Ground.phase }, { on := 6, ground := Ground.phase }, { on := 7, ground := Ground.phase }, { on := 8, ground := Ground.phase }], guard := none }) (v := ?_) rfl (by kernel_rfl) (by kernel_rfl) (by kernel_rfl) (fun _ _ _ h => h) (Or.inl ⟨by rfl, ?_⟩) (by assumption) ?_
        rotate_left
        · ((intro w hSw; (try dsimp only at hSw); go_simp; (try rw [if_neg (by omega)])); try with_reducible rfl)
        (try simp only [Act.put, List.setIfInBounds_toArray, List.set_cons_zero, List.set_cons_succ])
        refine wpAnyH_done (by kernel_rfl) ?_ _
        clear hHeld
        have HT2 := Lib.hid ht2
        have HF2 := Lib.hid (HBV.out.trans f2)
        clear f1 f2 hnx ht2
        go_simp
        go_wp2
        go_ret
        have hfin : PN'.upd ≤ P.upd + 1 := by have := HUP.out; have := HPU.out; omega
        first | exact ⟨_, rfl, HT2.out, hfin, HF2.out⟩ | exact ⟨rfl, _, HT2.out, hfin, HF2.out⟩ | (trace_state; sorry)
      exact AllReadyH.nil
    exact AllReadyH.nil
  · clear a10
    have HSL : Hid ((mkRow R W H).length ≤ 1000000 ∧ ∀ r ∈ mkRow R W H, r < 18446744073709551616) := Lib.hid ⟨by rw [mkRow_len]; have := HWH.out; omega, fun r hr => Nat.lt_of_lt_of_le (mkRow_lt r hr) (Nat.pow_le_pow_right (n := 2) (by decide) HWH.out.1)⟩
    have HRB : Hid (∀ q, (Value.slice ra H rc).ownBlock = some q → V.heap.size ≤ q) := Lib.hid fun q hq => Nat.le_trans (bnext HB1.out HBX.out).size (HKO.out.lt q hq).1
    have HT := HT6
    have HFV := HF6
    have HBLK := HX6
    have HPU : Hid (P.upd ≤ P.upd) := Lib.hid (Nat.le_refl _)
    have HU := Lib.hid (fun (U : World) (hU : Below w6.heap.size w6 U) => (own_ua HKO.out).keep hU)
    go_upto_region 13 with fail
    clear a0
    obtain ⟨wd, hwd⟩ : ∃ wd, w6.drew = wd := ⟨_, rfl⟩
    have HWD := Lib.hid hwd
    have hbd : Below w6.heap.size w6 wd := by rw [← hwd]; exact Below.drew (Below.refl _ w6)
    have hcc := two_write (HT.out.below hbd) (by have := HPU.out; have := HUPD.out; omega) ch HOK.out (mkRow R W H) (.slice ra H rc) (HU.out _ hbd) (fun q hq => by have q1 := HRB.out q hq; have q2 := HPL.out; omega) HSL.out.1 HSL.out.2
    have hup := (wr_ok HT.out.ok (by have := HPU.out; have := HUPD.out; omega) ch (mkRow R W H)).2
    obtain ⟨er, her⟩ : ∃ er, (Pn.wr P ch (mkRow R W H)).1 = er := ⟨_, rfl⟩
    obtain ⟨PN', hPN⟩ : ∃ PN', (Pn.wr P ch (mkRow R W H)).2 = PN' := ⟨_, rfl⟩
    rw [her, hPN] at hcc
    rw [hPN] at hup
    have HUP := Lib.hid hup
    have HC := Lib.hid hcc
    have HKX : Hid (∀ U, FrS (FT b g b2 g2) wd U → U.cell? ⟨X, 0, none⟩ = some (.int .i64 ch.x) ∧ U.cell? ⟨X, 1, none⟩ = some (.int .i64 ch.y) ∧ U.cell? ⟨X, 2, none⟩ = some (.int .i64 ch.w) ∧ U.cell? ⟨X, 3, none⟩ = some (.int .i64 ch.h)) := Lib.hid fun U hU => by
      have h1 := hU.nd ((hbd.block X (Array.getElem?_eq_some_iff.1 HBLK.out).1).trans HBLK.out) (fun e => by have q1 := HXV.out; have q2 := HPL.out; rcases e with (e | e) | (e | e) <;> omega)
      exact ⟨nd_cell h1 rfl, nd_cell h1 rfl, nd_cell h1 rfl, nd_cell h1 rfl⟩
    have HBV := Lib.hid (HFV.out.trans' hbd)
    clear hwd hbd hcc hup her hPN
    refine wp_region_held_drew (S := (fun U => U.cell? ⟨X, 0, none⟩ = some (.int .i64 ch.x) ∧ U.cell? ⟨X, 1, none⟩ = some (.int .i64 ch.y) ∧ U.cell? ⟨X, 2, none⟩ = some (.int .i64 ch.w) ∧ U.cell? ⟨X, 3, none⟩ = some (.int .i64 ch.h))) (by kernel_rfl) ?_ (fun hHeld => ?_)
    · (rw [HWD.out]; exact HKX.out _ (FrS.refl _ _))
    rw [HWD.out] at hHeld ⊢
    refine wpAnyH_take (i := 0) (oi := { dst := some 80, op := Op.move (Operand.tmp 1), type := 25, pos := "law.go:54", after := #[], guard := none }) (v := ?_) rfl (by kernel_rfl) (by kernel_rfl) (by kernel_rfl) (fun _ _ _ h => h) (Or.inl ⟨by rfl, ?_⟩) (by assumption) ?_
    rotate_left
    · ((intro w hSw; (try dsimp only at hSw); go_simp; (try rw [if_neg (by omega)])); try with_reducible rfl)
    (try simp only [Act.put, List.setIfInBounds_toArray, List.set_cons_zero, List.set_cons_succ])
    refine wpAnyH_take (i := 1) (oi := { dst := some 81, op := Op.load 31 (Operand.tmp 11), type := 31, pos := "law.go:54", after := #[], guard := none }) (v := ?_) rfl (by kernel_rfl) (by kernel_rfl) (by kernel_rfl) (fun _ _ _ h => h) (Or.inl ⟨by rfl, ?_⟩) (by assumption) ?_
    rotate_left
    · ((intro w hSw; (try dsimp only at hSw); go_simp; (try rw [if_neg (by omega)])); try with_reducible rfl)
    (try simp only [Act.put, List.setIfInBounds_toArray, List.set_cons_zero, List.set_cons_succ])
    refine wpAnyH_take (i := 2) (oi := { dst := some 82, op := Op.move (Operand.tmp 12), type := 32, pos := "law.go:54", after := #[], guard := none }) (v := ?_) rfl (by kernel_rfl) (by kernel_rfl) (by kernel_rfl) (fun _ _ _ h => h) (Or.inl ⟨by rfl, ?_⟩) (by assumption) ?_
    rotate_left
    · ((intro w hSw; (try dsimp only at hSw); go_simp; (try rw [if_neg (by omega)])); try with_reducible rfl)
    (try simp only [Act.put, List.setIfInBounds_toArray, List.set_cons_zero, List.set_cons_succ])
    refine wpAnyH_take (i := 4) (oi := { dst := some 84, op := Op.move (Operand.tmp 2), type := 27, pos := "law.go:54", after := #[], guard := none }) (v := ?_) rfl (by kernel_rfl) (by kernel_rfl) (by kernel_rfl) (fun _ _ _ h => h) (Or.inl ⟨by rfl, ?_⟩) (by assumption) ?_
    rotate_left
    · ((intro w hSw; (try dsimp only at hSw); go_simp; (try rw [if_neg (by omega)])); try with_reducible rfl)
    (try simp only [Act.put, List.setIfInBounds_toArray, List.set_cons_zero, List.set_cons_succ])
    refine wpAnyH_take (i := 5) (oi := { dst := some 85, op := Op.load 31 (Operand.tmp 11), type := 31, pos := "law.go:54", after := #[], guard := none }) (v := ?_) rfl (by kernel_rfl) (by kernel_rfl) (by kernel_rfl) (fun _ _ _ h => h) (Or.inl ⟨by rfl, ?_⟩) (by assumption) ?_
    rotate_left
    · ((intro w hSw; (try dsimp only at hSw); go_simp; (try rw [if_neg (by omega)])); try with_reducible rfl)
    (try simp only [Act.put, List.setIfInBounds_toArray, List.set_cons_zero, List.set_cons_succ])
    refine wpAnyH_take (i := 6) (oi := { dst := some 86, op := Op.move (Operand.tmp 12), type := 32, pos := "law.go:54", after := #[], guard := none }) (v := ?_) rfl (by kernel_rfl) (by kernel_rfl) (by kernel_rfl) (fun _ _ _ h => h) (Or.inl ⟨by rfl, ?_⟩) (by assumption) ?_
    rotate_left
    · ((intro w hSw; (try dsimp only at hSw); go_simp; (try rw [if_neg (by omega)])); try with_reducible rfl)
    (try simp only [Act.put, List.setIfInBounds_toArray, List.set_cons_zero, List.set_cons_succ])
    refine wpAnyH_ready (rs := [3]) (by kernel_rfl) (by simp) ?_
    refine AllReadyH.cons (o := { dst := some 83, op := Op.call { callee := Callee.value (Operand.func 30), args := #[Operand.tmp 80, Operand.tmp 81, Operand.tmp 82], argTypes := #[25, 31, 32] }, type := 59, pos := "law.go:54", after := #[{ on := 0, ground := Ground.data }, { on := 1, ground := Ground.data }, { on := 2, ground := Ground.data }], guard := none }) rfl (fun K hK => ?_) ?_
    · (go_simp; go_at_call 30; refine HC.out.mono ?_; rintro u wz1 ⟨rfl, f1, hnx⟩; dsimp only)
      refine hK.out _ _ ?_ (fun hHeld => ?_)
      · exact HKX.out _ (f1.mono fun q hq => .inl hq)
      clear hK K
      (try simp only [Act.put, List.setIfInBounds_toArray, List.set_cons_zero, List.set_cons_succ])
      refine wpAnyH_ready (rs := [7]) (by kernel_rfl) (by simp) ?_
      refine AllReadyH.cons (o := { dst := some 87, op := Op.call { callee := Callee.value (Operand.func 36), args := #[Operand.tmp 84, Operand.tmp 85, Operand.tmp 86], argTypes := #[27, 31, 32] }, type := 59, pos := "law.go:54", after := #[{ on := 4, ground := Ground.data }, { on := 5, ground := Ground.data }, { on := 6, ground := Ground.data }, { on := 3, ground := Ground.chain }], guard := none }) rfl (fun K hK => ?_) ?_
      · (go_simp; go_at_call 36; refine hnx.out.mono ?_; rintro u wz2 ⟨rfl, ht2, f2⟩; dsimp only)
        refine hK.out _ _ ?_ (fun hHeld => ?_)
        · exact HKX.out _ f2
        clear hK K
        (try simp only [Act.put, List.setIfInBounds_toArray, List.set_cons_zero, List.set_cons_succ])
        refine wpAnyH_take (i := 8) (oi := { dst := some 88, op := Op.binOp BinOp.eql 59 (Operand.tmp 83) (Operand.tmp 87) 59, type := 4, pos := "law.go:54", after := #[{ on := 3, ground := Ground.data }, { on := 7, ground := Ground.data }], guard := none }) (v := ?_) rfl (by kernel_rfl) (by kernel_rfl) (by kernel_rfl) (fun _ _ _ h => h) (Or.inl ⟨by rfl, ?_⟩) (by assumption) ?_
        rotate_left
        · ((intro w hSw; (try dsimp only at hSw); go_simp; (try rw [if_neg (by omega)])); try with_reducible rfl)
        (try simp only [Act.put, List.setIfInBounds_toArray, List.set_cons_zero, List.set_cons_succ])
        refine wpAnyH_take (i := 9) (oi := { dst := some 10, op := Op.assign (Operand.tmp 88), type := 4, pos := "law.go:54", after := #[{ on := 8, ground := Ground.data }, { on := 7, ground := Ground.chain }, { on := 0, ground := Ground.phase }, { on := 1, ground := Ground.phase }, { on := 2, ground := Ground.phase }, { on := 3, ground := Ground.phase }, { on := 4, ground := Ground.phase }, { on := 5, ground := Ground.phase }, { on := 6, ground := Ground.phase }, { on := 7, ground := Ground.phase }, { on := 8, ground := Ground.phase }], guard := none }) (v := ?_) rfl (by kernel_rfl) (by kernel_rfl) (by kernel_rfl) (fun _ _ _ h => h) (Or.inl ⟨by rfl, ?_⟩) (by assumption) ?_
        rotate_left
        · ((intro w hSw; (try dsimp only at hSw); go_simp; (try rw [if_neg (by omega)])); try with_reducible rfl)
        (try simp only [Act.put, List.setIfInBounds_toArray, List.set_cons_zero, List.set_cons_succ])
        refine wpAnyH_done (by kernel_rfl) ?_ _
        clear hHeld
        have HT2 := Lib.hid ht2
        have HF2 := Lib.hid (HBV.out.trans f2)
        clear f1 f2 hnx ht2
        go_simp
        go_wp2
        go_ret
        have hfin : PN'.upd ≤ P.upd + 1 := by have := HUP.out; have := HPU.out; omega
        first | exact ⟨_, rfl, HT2.out, hfin, HF2.out⟩ | exact ⟨rfl, _, HT2.out, hfin, HF2.out⟩ | (trace_state; sorry)
      exact AllReadyH.nil
    exact AllReadyH.nil
end
end Go.Proofs.YtmiennkldkcnfaaDoor
