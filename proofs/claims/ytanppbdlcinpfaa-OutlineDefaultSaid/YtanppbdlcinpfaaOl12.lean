/- The sum at a place. No conditions. -/
import Derived.Test.YtanppbdlcinpfaaAx31
import Derived.Deep.RegionHeld3
set_option linter.unusedSimpArgs false
set_option linter.unusedVariables false
namespace Go.Proofs.Ytanppbdlcinpfaa
set_option maxRecDepth 100000
set_option linter.unusedVariables false
open Go.RowKit Go.Deep
theorem info_gr : (Try.prog.info? 96).map (fun i => (i.zero, i.size, i.bytes)) = some (some (.agg #[.int .i64 0, .int .i64 0]), 2, 16) := by kernel_rfl
def OL.mv (k q : Nat) (d : Dl) : Int := if q = 0 then (d.m.getD k (0, 0)).1 else (d.m.getD k (0, 0)).2
def OL.av (d : Dl) : Int := d.a
theorem OL.mv_some {k q : Nat} {d : Dl} {m : Int × Int} (h : d.m[k]? = some m) : OL.mv k q d = if q = 0 then m.1 else m.2 := by
  unfold OL.mv
  rw [List.getD_eq_getElem?_getD, h]
  rfl
set_option maxHeartbeats 4000000 in
theorem psum_move (W : World) (vr va vd : Value) (R : List (List AX.Tn)) (at' : List Int) (D : List Dl) (num : Int) (K Q k q : Nat) (hD : DsAt W vd D) (hl : D.length ≤ 1000) (hr : RgAt W vr R) (ha : InAt W va at') (hR : R.length ≤ 1000) (hRR : ∀ r ∈ R, r.length ≤ 1000) (hal : at'.length ≤ 1000) (hk : ∀ d ∈ D, k < d.m.length) (hk9 : k < 10000) (hq : q < 2) (h1 : W.cell? ⟨K, 0, none⟩ = some (.int .i64 (k : Int))) (h2 : W.cell? ⟨Q, 0, none⟩ = some (.int .i64 (q : Int))) (hKl : K < W.heap.size) (hQl : Q < W.heap.size) :
    Calls Try.prog 36 #[.agg #[vr, va, vd], .int .i64 num, .func (.func 75) #[] #[.pointer (some ⟨K, 0, none⟩), .pointer (some ⟨Q, 0, none⟩)]] W fun e w' => e = .returned (.int .i64 (AX.sum num (D.map fun d => (d.r, OL.mv k q d)) R at').1) ∧ Below W.heap.size W w' := by
  obtain ⟨ig, hig, hg0, hg1, hg2⟩ := info_parts info_gr
  obtain ⟨da, dk, rfl⟩ := hD.shape
  obtain ⟨n, hn⟩ : ∃ n, D.length = n := ⟨_, rfl⟩
  have HN := Lib.hid hn
  rw [hn] at hD hl ⊢
  have HV := Lib.hid hD
  have HRA := Lib.hid (And.intro hr ha)
  have HRL := Lib.hid (And.intro hR (And.intro hRR hal))
  have HKQ := Lib.hid (And.intro hk (And.intro hk9 (And.intro hq (And.intro h1 (And.intro h2 (And.intro hKl hQl))))))
  clear hk hk9 hq h1 h2 hKl hQl
  clear hD hn hr ha hR hRR hal
  obtain ⟨B, hB⟩ : ∃ B, W.heap.size = B := ⟨_, rfl⟩
  have hx1 := heap_alloc_new W (.cells #[vr, va, .slice da n dk] 89)
  have hb1 := balloc (Below.refl _ W) (.cells #[vr, va, .slice da n dk] 89)
  obtain ⟨w1, hw1⟩ : ∃ w1, W.alloc (.cells #[vr, va, .slice da n dk] 89) = w1 := ⟨_, rfl⟩
  rw [hw1, hB] at hx1
  rw [hw1] at hb1
  have HB1 := Lib.hid hb1
  have HX1 := Lib.hid hx1
  have x2 : w1.cell? ⟨B, 2, none⟩ = some (.slice da n dk) := nd_cell hx1 rfl
  have HWB := Lib.hid hB
  clear hx1 hb1
  go_enter Try.func36, Try.ntmps36
  go_upto_region 1 with fail
  try rw [hw1]
  try rw [hB]
  clear hw1 hB
  go_upto_region 3 with fail
  clear x2
  go_loopw [7, 15] (fun v7 v15 wr => ∃ i : Nat, v15 = .int .i64 (i : Int) ∧ i ≤ n ∧ (∃ oa oc, v7 = .slice oa i oc) ∧ Hid (wr.ownsRow w1.heap.size 96 2 v7 i (AX.prc ((D.take i).map fun d => (d.r, OL.mv k q d)))) ∧ Hid (Below w1.heap.size w1 wr)) (fun v7 v15 _ => n - (intOf v15).toNat)
  case atStart => exact ⟨0, rfl, Nat.zero_le _, ⟨none, 0, rfl⟩, Lib.hid ⟨rfl, .inl ⟨rfl, rfl⟩⟩, Lib.hid (Below.refl _ _)⟩
  case round =>
    obtain ⟨i, rfl, hi, ⟨oa, oc, rfl⟩, HOW, HB⟩ := hrel
    by_cases hin : i < n
    · have hii : (i : Int) < (n : Int) := by omega
      have hi0 : (0 : Int) ≤ (i : Int) := by omega
      have hi8 : i + 1 ≤ 1001 := by omega
      obtain ⟨d, hd⟩ : ∃ d, D[i]? = some d := ⟨_, List.getElem?_eq_getElem (by rw [HN.out]; exact hin)⟩
      obtain ⟨g, o, ma, mk, rfl, hg, c0, c1, c2, hmv⟩ := (HV.out.keep (bnext HB1.out HB.out)).cell hd
      have HDI := Lib.hid hd
      have HMV := Lib.hid hmv
      clear hd hg hmv
      have hxn := heap_alloc_new wr (.cells #[.int .i64 0, .int .i64 0, .slice none 0 0] 70)
      have hbn := balloc (Below.refl _ wr) (.cells #[.int .i64 0, .int .i64 0, .slice none 0 0] 70)
      obtain ⟨X, hX⟩ : ∃ X, wr.heap.size = X := ⟨_, rfl⟩
      obtain ⟨wa, hwa⟩ : ∃ wa, wr.alloc (.cells #[.int .i64 0, .int .i64 0, .slice none 0 0] 70) = wa := ⟨_, rfl⟩
      have HXo : Hid (X = wr.heap.size) := Lib.hid hX.symm
      rw [hX, hwa] at hxn
      rw [hwa] at hbn
      have bc0 : wa.cell? ⟨X, 0, none⟩ = some (.int .i64 0) := nd_cell hxn rfl
      have bc1 : wa.cell? ⟨X, 1, none⟩ = some (.int .i64 0) := nd_cell hxn rfl
      have bc2 : wa.cell? ⟨X, 2, none⟩ = some (.slice none 0 0) := nd_cell hxn rfl
      have bf0 := nd_froz hxn 0
      have bf1 := nd_froz hxn 1
      have bf2 := nd_froz hxn 2
      obtain ⟨wx, hwx, hxx, hfx⟩ := sto3 hxn (.int .i64 d.r) (.int .i64 d.a) (.slice ma d.m.length mk)
      have HXX := Lib.hid hxx
      have HBX := Lib.hid (hfx.below wr hbn (fun b hb => by rw [hb, HXo.out]; exact Nat.le_refl _))
      clear hxx hfx hbn hxn
      go_upto_region 5 with fail
      try rw [hwx]
      clear bc0 bf0 bc1 bf1 bc2 bf2 hwx hX hwa
      clear c0 c1 c2
      obtain ⟨wd, hwd⟩ : ∃ wd, wx.drew = wd := ⟨_, rfl⟩
      have HWD := Lib.hid hwd
      have hbd : Below wx.heap.size wx wd := by rw [← hwd]; exact Below.drew (Below.refl _ wx)
      have HBD := Lib.hid (bnext HBX.out hbd)
      have HXD := Lib.hid ((hbd.block X (Array.getElem?_eq_some_iff.1 HXX.out).1).trans HXX.out)
      clear hwd hbd
      have HKS : Hid (∀ U : World, U.heap[X]? = wd.heap[X]? → U.cell? ⟨X, 0, none⟩ = some (.int .i64 d.r) ∧ U.cell? ⟨X, 1, none⟩ = some (.int .i64 d.a) ∧ U.cell? ⟨X, 2, none⟩ = some (.slice ma d.m.length mk)) := Lib.hid fun U hU => by
        have h1 := hU.trans HXD.out
        exact ⟨nd_cell h1 rfl, nd_cell h1 rfl, nd_cell h1 rfl⟩
      have HXL : Hid (X < wd.heap.size) := Lib.hid (Array.getElem?_eq_some_iff.1 HXD.out).1
      have HOD := Lib.hid (own_below HOW.out HBD.out)
      have HQX : Hid (∀ q, (Value.slice oa i oc).ownBlock = some q → q ≠ X) := Lib.hid fun q hq e => by
        have h1 := (own_lt HOW.out hq).2
        have h2 := HXo.out
        omega
      have HCC : Hid (Calls Try.prog 75 #[.agg #[.int .i64 d.r, .int .i64 d.a, .slice ma d.m.length mk], .pointer (some ⟨K, 0, none⟩), .pointer (some ⟨Q, 0, none⟩)] wd fun e w' => e = .returned (.int .i64 (OL.mv k q d)) ∧ Below wd.heap.size wd w') := Lib.hid (by
        have hbw : Below W.heap.size W wd := bnext HB1.out (bnext HB.out HBD.out)
        obtain ⟨hk, hk9, hq, h1, h2, hKl, hQl⟩ := HKQ.out
        obtain ⟨m, hm⟩ : ∃ m, d.m[k]? = some m := ⟨_, List.getElem?_eq_getElem (hk d (List.mem_of_getElem? HDI.out))⟩
        have := moved_any wd d (.slice ma d.m.length mk) K Q k q m (HMV.out.keep HBD.out) hm hk9 hq ((hbw.cell (p := ⟨K, 0, none⟩) hKl).trans h1) ((hbw.cell (p := ⟨Q, 0, none⟩) hQl).trans h2) (Nat.lt_of_lt_of_le hKl hbw.size) (Nat.lt_of_lt_of_le hQl hbw.size)
        rw [OL.mv_some hm]
        exact this)
      obtain ⟨val, hval⟩ : ∃ val, OL.mv k q d = val := ⟨_, rfl⟩
      have HVAL := Lib.hid hval
      rw [hval] at HCC
      clear hval
      refine wp_region_held_drew (S := (fun U => U.cell? ⟨X, 0, none⟩ = some (.int .i64 d.r) ∧ U.cell? ⟨X, 1, none⟩ = some (.int .i64 d.a) ∧ U.cell? ⟨X, 2, none⟩ = some (.slice ma d.m.length mk))) (by kernel_rfl) ?_ (fun hHeld => ?_)
      · (rw [HWD.out]; exact HKS.out _ rfl)
      rw [HWD.out] at hHeld ⊢
      refine wpAnyH_take (i := 0) (oi := { dst := some 19, op := Op.move (Operand.tmp 7), type := 94, pos := "outline.go:154", after := #[], guard := none }) (v := ?_) rfl (by kernel_rfl) (by kernel_rfl) (by kernel_rfl) (fun _ _ _ h => h) (Or.inl ⟨by rfl, ?_⟩) (by assumption) ?_
      rotate_left
      · ((intro w hSw; (try dsimp only at hSw); go_simp; (try rw [if_neg (by omega)])); try with_reducible rfl)
      (try simp only [Act.put, List.setIfInBounds_toArray, List.set_cons_zero, List.set_cons_succ])
      refine wpAnyH_take (i := 1) (oi := { dst := some 20, op := Op.fieldAddr 70 (Operand.tmp 9) 0, type := 0, pos := "outline.go:154", after := #[], guard := none }) (v := ?_) rfl (by kernel_rfl) (by kernel_rfl) (by kernel_rfl) (fun _ _ _ h => h) (Or.inl ⟨by rfl, ?_⟩) (by assumption) ?_
      rotate_left
      · ((intro w hSw; (try dsimp only at hSw); go_simp; (try rw [if_neg (by omega)])); try with_reducible rfl)
      (try simp only [Act.put, List.setIfInBounds_toArray, List.set_cons_zero, List.set_cons_succ])
      refine wpAnyH_take (i := 2) (oi := { dst := some 21, op := Op.load 3 (Operand.tmp 20), type := 3, pos := "outline.go:154", after := #[{ on := 1, ground := Ground.data }], guard := none }) (v := ?_) rfl (by kernel_rfl) (by kernel_rfl) (by kernel_rfl) (fun _ _ _ h => h) (Or.inl ⟨by rfl, ?_⟩) (by assumption) ?_
      rotate_left
      · ((intro w hSw; (try dsimp only at hSw); go_simp; (try rw [if_neg (by omega)])); try with_reducible rfl)
      (try simp only [Act.put, List.setIfInBounds_toArray, List.set_cons_zero, List.set_cons_succ])
      refine wpAnyH_take (i := 3) (oi := { dst := some 22, op := Op.move (Operand.tmp 2), type := 136, pos := "outline.go:154", after := #[], guard := none }) (v := ?_) rfl (by kernel_rfl) (by kernel_rfl) (by kernel_rfl) (fun _ _ _ h => h) (Or.inl ⟨by rfl, ?_⟩) (by assumption) ?_
      rotate_left
      · ((intro w hSw; (try dsimp only at hSw); go_simp; (try rw [if_neg (by omega)])); try with_reducible rfl)
      (try simp only [Act.put, List.setIfInBounds_toArray, List.set_cons_zero, List.set_cons_succ])
      refine wpAnyH_take (i := 4) (oi := { dst := some 23, op := Op.load 70 (Operand.tmp 9), type := 70, pos := "outline.go:154", after := #[], guard := none }) (v := ?_) rfl (by kernel_rfl) (by kernel_rfl) (by kernel_rfl) (fun _ _ _ h => h) (Or.inl ⟨by rfl, ?_⟩) (by assumption) ?_
      rotate_left
      · ((intro w hSw; (try dsimp only at hSw); go_simp; (try rw [if_neg (by omega)])); try with_reducible rfl)
      (try simp only [Act.put, List.setIfInBounds_toArray, List.set_cons_zero, List.set_cons_succ])
      refine wpAnyH_ready (rs := [5]) (by kernel_rfl) (by simp) ?_
      refine AllReadyH.cons (o := { dst := some 24, op := Op.call { callee := Callee.value (Operand.tmp 22), args := #[Operand.tmp 23], argTypes := #[70] }, type := 3, pos := "outline.go:154", after := #[{ on := 3, ground := Ground.data }, { on := 4, ground := Ground.data }], guard := none }) rfl (fun K hK => ?_) ?_
      · (go_simp; go_at_call 75; refine HCC.out.mono ?_; rintro u wz1 ⟨rfl, bz1⟩; dsimp only)
        refine hK.out _ _ ?_ (fun hHeld => ?_)
        · exact HKS.out _ (bz1.block X HXL.out)
        clear hK K
        (try simp only [Act.put, List.setIfInBounds_toArray, List.set_cons_zero, List.set_cons_succ])
        refine wpAnyH_take (i := 6) (oi := { dst := some 25, op := Op.build 96 #[(0, Operand.tmp 21), (1, Operand.tmp 24)], type := 96, pos := "outline.go:154", after := #[{ on := 2, ground := Ground.data }, { on := 5, ground := Ground.data }], guard := none }) (v := ?_) rfl (by kernel_rfl) (by kernel_rfl) (by kernel_rfl) (fun _ _ _ h => h) (Or.inl ⟨by rfl, ?_⟩) (by assumption) ?_
        rotate_left
        · ((intro w hSw; (try dsimp only at hSw); go_simp; (try rw [if_neg (by omega)])); try with_reducible rfl)
        (try simp only [Act.put, List.setIfInBounds_toArray, List.set_cons_zero, List.set_cons_succ])
        refine wpAnyH_ready (rs := [7]) (by kernel_rfl) (by simp) ?_
        refine AllReadyH.cons (o := { dst := some 26, op := Op.buildSlice 94 1 #[(0, Operand.tmp 25)], type := 94, pos := "outline.go:154", after := #[{ on := 6, ground := Ground.data }], guard := none }) rfl (fun K hK => ?_) ?_
        · (go_simp; have bz2 := balloc bz1 (.cells #[.int .i64 d.r, .int .i64 val] 96))
          refine hK.out _ _ ?_ (fun hHeld => ?_)
          · exact HKS.out _ (bz2.block X HXL.out)
          clear hK K
          (try simp only [Act.put, List.setIfInBounds_toArray, List.set_cons_zero, List.set_cons_succ])
          refine wpAnyH_ready (rs := [8]) (by kernel_rfl) (by simp) ?_
          refine AllReadyH.cons (o := { dst := some 27, op := Op.call { callee := Callee.builtin Builtin.append, args := #[Operand.tmp 19, Operand.tmp 26], argTypes := #[94, 94] }, type := 94, pos := "outline.go:154", after := #[{ on := 0, ground := Ground.data }, { on := 7, ground := Ground.data }, { on := 5, ground := Ground.chain }], guard := none }) rfl (fun K hK => ?_) ?_
          · (refine step_appN (by rfl) _ _ _ (by rfl) w1.heap.size 96 ig _ 2 16 Try.underlying94 hig hg0 hg1 hg2 rfl (by decide) (.slice oa i oc) i _ (by rfl) (own_below HOD.out bz2) _ 1 (AX.prc [(d.r, val)]) (by rfl) (srcN_new wz1 (AX.prc [(d.r, val)]) _ 2 1 1 rfl) (AX.prc_one _) (by unfold maxLen; omega) (by omega) (by have := HB.out.size; have := HBD.out.size; have := bz2.size; omega) ?_; intro v8 w8 hown hgrow hor; obtain ⟨na, nc, rfl⟩ := own_shape hown; have hk8 := (hgrow.block X (Nat.lt_of_lt_of_le HXL.out bz2.size) (fun e => HQX.out X e.symm rfl)).trans (bz2.block X HXL.out))
            refine hK.out _ _ ?_ (fun hHeld => ?_)
            · exact HKS.out _ hk8
            clear hK K
            (try simp only [Act.put, List.setIfInBounds_toArray, List.set_cons_zero, List.set_cons_succ])
            refine wpAnyH_take (i := 9) (oi := { dst := some 7, op := Op.assign (Operand.tmp 27), type := 94, pos := "outline.go:154", after := #[{ on := 8, ground := Ground.data }, { on := 8, ground := Ground.chain }, { on := 0, ground := Ground.phase }, { on := 1, ground := Ground.phase }, { on := 2, ground := Ground.phase }, { on := 3, ground := Ground.phase }, { on := 4, ground := Ground.phase }, { on := 5, ground := Ground.phase }, { on := 6, ground := Ground.phase }, { on := 7, ground := Ground.phase }, { on := 8, ground := Ground.phase }], guard := none }) (v := ?_) rfl (by kernel_rfl) (by kernel_rfl) (by kernel_rfl) (fun _ _ _ h => h) (Or.inl ⟨by rfl, ?_⟩) (by assumption) ?_
            rotate_left
            · ((intro w hSw; (try dsimp only at hSw); go_simp; (try rw [if_neg (by omega)])); try with_reducible rfl)
            (try simp only [Act.put, List.setIfInBounds_toArray, List.set_cons_zero, List.set_cons_succ])
            refine wpAnyH_done (by kernel_rfl) ?_ _
            clear hHeld
            have HOW9 : Hid (w8.ownsRow w1.heap.size 96 2 (.slice na (i + 1) nc) (i + 1) (AX.prc ((D.take (i + 1)).map fun d => (d.r, OL.mv k q d)))) := Lib.hid (by
              rw [List.take_add_one, HDI.out, List.map_append]
              show w8.ownsRow _ _ _ _ _ (AX.prc (_ ++ [(d.r, _)]))
              rw [HVAL.out, AX.prc_app]
              exact hown)
            have HB9 : Hid (Below w1.heap.size w1 w8) := Lib.hid (Below.grown (bnext HB.out (bnext HBD.out bz2)) hgrow (by have := HB.out.size; have := HBD.out.size; have := bz2.size; omega) (fun q e => (own_lt HOW.out e).1))
            clear hown hgrow hor hk8 bz1 bz2
            go_simp
            go_wp2
            go_roundw
            case rel => exact ⟨i + 1, by go_num, by omega, ⟨_, _, rfl⟩, HOW9, HB9⟩
            case measure => simp [intOf]; omega
          exact AllReadyH.nil
        exact AllReadyH.nil
      exact AllReadyH.nil
    · have hii : ¬ (i : Int) < (n : Int) := by omega
      have hown := HOW.out
      rw [List.take_of_length_le (by rw [HN.out]; omega)] at hown
      have hil : i = D.length := by have := HN.out; omega
      have hx1 := (HB.out.block B (Array.getElem?_eq_some_iff.1 HX1.out).1).trans HX1.out
      have y0 : wr.cell? ⟨B, 0, none⟩ = some vr := nd_cell hx1 rfl
      have y1 : wr.cell? ⟨B, 1, none⟩ = some va := nd_cell hx1 rfl
      have hml : (D.map fun d => (d.r, OL.mv k q d)).length = i := by rw [List.length_map]; exact hil.symm
      have hsrc := own_srcN hown
      have hpr : PrAt wr (.slice oa i oc) (D.map fun d => (d.r, OL.mv k q d)) := SrcN.pr (by rw [hml]; exact hsrc)
      have hs := sum_any num (D.map fun d => (d.r, OL.mv k q d)) R at' (.slice oa i oc) vr va wr (by rw [hml]; omega) (by have := HRL.out.1; omega) (fun r hr => by have := HRL.out.2.1 r hr; omega) (by have := HRL.out.2.2; omega) hpr (HRA.out.1.keep (bnext HB1.out HB.out)) (HRA.out.2.keep (bnext HB1.out HB.out))
      obtain ⟨z, hz⟩ : ∃ z, AX.sum num (D.map fun d => (d.r, OL.mv k q d)) R at' = z := ⟨_, rfl⟩
      have HZ := Lib.hid hz
      rw [hz] at hs
      have HC := Lib.hid hs
      clear hin hown hil hx1 hml hsrc hpr hs hz
      go_wp2_with fail
      go_at_call 72
      refine HC.out.mono ?_
      rintro e w2 ⟨rfl, k2⟩
      have HBW := Lib.hid (bnext HB1.out (bnext HB.out k2))
      clear HC k2 y0 y1
      go_wp2
      go_ret
      exact ⟨by rw [HZ.out]; rfl, HBW.out⟩
set_option maxHeartbeats 4000000 in
theorem psum_adv (W : World) (vr va vd : Value) (R : List (List AX.Tn)) (at' : List Int) (D : List Dl) (num : Int) (hD : DsAt W vd D) (hl : D.length ≤ 1000) (hr : RgAt W vr R) (ha : InAt W va at') (hR : R.length ≤ 1000) (hRR : ∀ r ∈ R, r.length ≤ 1000) (hal : at'.length ≤ 1000) :
    Calls Try.prog 36 #[.agg #[vr, va, vd], .int .i64 num, .func (.func 76) #[] #[]] W fun e w' => e = .returned (.int .i64 (AX.sum num (D.map fun d => (d.r, OL.av d)) R at').1) ∧ Below W.heap.size W w' := by
  obtain ⟨ig, hig, hg0, hg1, hg2⟩ := info_parts info_gr
  obtain ⟨da, dk, rfl⟩ := hD.shape
  obtain ⟨n, hn⟩ : ∃ n, D.length = n := ⟨_, rfl⟩
  have HN := Lib.hid hn
  rw [hn] at hD hl ⊢
  have HV := Lib.hid hD
  have HRA := Lib.hid (And.intro hr ha)
  have HRL := Lib.hid (And.intro hR (And.intro hRR hal))
  
  clear hD hn hr ha hR hRR hal
  obtain ⟨B, hB⟩ : ∃ B, W.heap.size = B := ⟨_, rfl⟩
  have hx1 := heap_alloc_new W (.cells #[vr, va, .slice da n dk] 89)
  have hb1 := balloc (Below.refl _ W) (.cells #[vr, va, .slice da n dk] 89)
  obtain ⟨w1, hw1⟩ : ∃ w1, W.alloc (.cells #[vr, va, .slice da n dk] 89) = w1 := ⟨_, rfl⟩
  rw [hw1, hB] at hx1
  rw [hw1] at hb1
  have HB1 := Lib.hid hb1
  have HX1 := Lib.hid hx1
  have x2 : w1.cell? ⟨B, 2, none⟩ = some (.slice da n dk) := nd_cell hx1 rfl
  have HWB := Lib.hid hB
  clear hx1 hb1
  go_enter Try.func36, Try.ntmps36
  go_upto_region 1 with fail
  try rw [hw1]
  try rw [hB]
  clear hw1 hB
  go_upto_region 3 with fail
  clear x2
  go_loopw [7, 15] (fun v7 v15 wr => ∃ i : Nat, v15 = .int .i64 (i : Int) ∧ i ≤ n ∧ (∃ oa oc, v7 = .slice oa i oc) ∧ Hid (wr.ownsRow w1.heap.size 96 2 v7 i (AX.prc ((D.take i).map fun d => (d.r, OL.av d)))) ∧ Hid (Below w1.heap.size w1 wr)) (fun v7 v15 _ => n - (intOf v15).toNat)
  case atStart => exact ⟨0, rfl, Nat.zero_le _, ⟨none, 0, rfl⟩, Lib.hid ⟨rfl, .inl ⟨rfl, rfl⟩⟩, Lib.hid (Below.refl _ _)⟩
  case round =>
    obtain ⟨i, rfl, hi, ⟨oa, oc, rfl⟩, HOW, HB⟩ := hrel
    by_cases hin : i < n
    · have hii : (i : Int) < (n : Int) := by omega
      have hi0 : (0 : Int) ≤ (i : Int) := by omega
      have hi8 : i + 1 ≤ 1001 := by omega
      obtain ⟨d, hd⟩ : ∃ d, D[i]? = some d := ⟨_, List.getElem?_eq_getElem (by rw [HN.out]; exact hin)⟩
      obtain ⟨g, o, ma, mk, rfl, hg, c0, c1, c2, hmv⟩ := (HV.out.keep (bnext HB1.out HB.out)).cell hd
      have HDI := Lib.hid hd
      have HMV := Lib.hid hmv
      clear hd hg hmv
      have hxn := heap_alloc_new wr (.cells #[.int .i64 0, .int .i64 0, .slice none 0 0] 70)
      have hbn := balloc (Below.refl _ wr) (.cells #[.int .i64 0, .int .i64 0, .slice none 0 0] 70)
      obtain ⟨X, hX⟩ : ∃ X, wr.heap.size = X := ⟨_, rfl⟩
      obtain ⟨wa, hwa⟩ : ∃ wa, wr.alloc (.cells #[.int .i64 0, .int .i64 0, .slice none 0 0] 70) = wa := ⟨_, rfl⟩
      have HXo : Hid (X = wr.heap.size) := Lib.hid hX.symm
      rw [hX, hwa] at hxn
      rw [hwa] at hbn
      have bc0 : wa.cell? ⟨X, 0, none⟩ = some (.int .i64 0) := nd_cell hxn rfl
      have bc1 : wa.cell? ⟨X, 1, none⟩ = some (.int .i64 0) := nd_cell hxn rfl
      have bc2 : wa.cell? ⟨X, 2, none⟩ = some (.slice none 0 0) := nd_cell hxn rfl
      have bf0 := nd_froz hxn 0
      have bf1 := nd_froz hxn 1
      have bf2 := nd_froz hxn 2
      obtain ⟨wx, hwx, hxx, hfx⟩ := sto3 hxn (.int .i64 d.r) (.int .i64 d.a) (.slice ma d.m.length mk)
      have HXX := Lib.hid hxx
      have HBX := Lib.hid (hfx.below wr hbn (fun b hb => by rw [hb, HXo.out]; exact Nat.le_refl _))
      clear hxx hfx hbn hxn
      go_upto_region 5 with fail
      try rw [hwx]
      clear bc0 bf0 bc1 bf1 bc2 bf2 hwx hX hwa
      clear c0 c1 c2
      obtain ⟨wd, hwd⟩ : ∃ wd, wx.drew = wd := ⟨_, rfl⟩
      have HWD := Lib.hid hwd
      have hbd : Below wx.heap.size wx wd := by rw [← hwd]; exact Below.drew (Below.refl _ wx)
      have HBD := Lib.hid (bnext HBX.out hbd)
      have HXD := Lib.hid ((hbd.block X (Array.getElem?_eq_some_iff.1 HXX.out).1).trans HXX.out)
      clear hwd hbd
      have HKS : Hid (∀ U : World, U.heap[X]? = wd.heap[X]? → U.cell? ⟨X, 0, none⟩ = some (.int .i64 d.r) ∧ U.cell? ⟨X, 1, none⟩ = some (.int .i64 d.a) ∧ U.cell? ⟨X, 2, none⟩ = some (.slice ma d.m.length mk)) := Lib.hid fun U hU => by
        have h1 := hU.trans HXD.out
        exact ⟨nd_cell h1 rfl, nd_cell h1 rfl, nd_cell h1 rfl⟩
      have HXL : Hid (X < wd.heap.size) := Lib.hid (Array.getElem?_eq_some_iff.1 HXD.out).1
      have HOD := Lib.hid (own_below HOW.out HBD.out)
      have HQX : Hid (∀ q, (Value.slice oa i oc).ownBlock = some q → q ≠ X) := Lib.hid fun q hq e => by
        have h1 := (own_lt HOW.out hq).2
        have h2 := HXo.out
        omega
      have HCC : Hid (Calls Try.prog 76 #[.agg #[.int .i64 d.r, .int .i64 d.a, .slice ma d.m.length mk]] wd fun e w' => e = .returned (.int .i64 (OL.av d)) ∧ Below wd.heap.size wd w') := Lib.hid (adv_any wd d (.slice ma d.m.length mk))
      obtain ⟨val, hval⟩ : ∃ val, OL.av d = val := ⟨_, rfl⟩
      have HVAL := Lib.hid hval
      rw [hval] at HCC
      clear hval
      refine wp_region_held_drew (S := (fun U => U.cell? ⟨X, 0, none⟩ = some (.int .i64 d.r) ∧ U.cell? ⟨X, 1, none⟩ = some (.int .i64 d.a) ∧ U.cell? ⟨X, 2, none⟩ = some (.slice ma d.m.length mk))) (by kernel_rfl) ?_ (fun hHeld => ?_)
      · (rw [HWD.out]; exact HKS.out _ rfl)
      rw [HWD.out] at hHeld ⊢
      refine wpAnyH_take (i := 0) (oi := { dst := some 19, op := Op.move (Operand.tmp 7), type := 94, pos := "outline.go:154", after := #[], guard := none }) (v := ?_) rfl (by kernel_rfl) (by kernel_rfl) (by kernel_rfl) (fun _ _ _ h => h) (Or.inl ⟨by rfl, ?_⟩) (by assumption) ?_
      rotate_left
      · ((intro w hSw; (try dsimp only at hSw); go_simp; (try rw [if_neg (by omega)])); try with_reducible rfl)
      (try simp only [Act.put, List.setIfInBounds_toArray, List.set_cons_zero, List.set_cons_succ])
      refine wpAnyH_take (i := 1) (oi := { dst := some 20, op := Op.fieldAddr 70 (Operand.tmp 9) 0, type := 0, pos := "outline.go:154", after := #[], guard := none }) (v := ?_) rfl (by kernel_rfl) (by kernel_rfl) (by kernel_rfl) (fun _ _ _ h => h) (Or.inl ⟨by rfl, ?_⟩) (by assumption) ?_
      rotate_left
      · ((intro w hSw; (try dsimp only at hSw); go_simp; (try rw [if_neg (by omega)])); try with_reducible rfl)
      (try simp only [Act.put, List.setIfInBounds_toArray, List.set_cons_zero, List.set_cons_succ])
      refine wpAnyH_take (i := 2) (oi := { dst := some 21, op := Op.load 3 (Operand.tmp 20), type := 3, pos := "outline.go:154", after := #[{ on := 1, ground := Ground.data }], guard := none }) (v := ?_) rfl (by kernel_rfl) (by kernel_rfl) (by kernel_rfl) (fun _ _ _ h => h) (Or.inl ⟨by rfl, ?_⟩) (by assumption) ?_
      rotate_left
      · ((intro w hSw; (try dsimp only at hSw); go_simp; (try rw [if_neg (by omega)])); try with_reducible rfl)
      (try simp only [Act.put, List.setIfInBounds_toArray, List.set_cons_zero, List.set_cons_succ])
      refine wpAnyH_take (i := 3) (oi := { dst := some 22, op := Op.move (Operand.tmp 2), type := 136, pos := "outline.go:154", after := #[], guard := none }) (v := ?_) rfl (by kernel_rfl) (by kernel_rfl) (by kernel_rfl) (fun _ _ _ h => h) (Or.inl ⟨by rfl, ?_⟩) (by assumption) ?_
      rotate_left
      · ((intro w hSw; (try dsimp only at hSw); go_simp; (try rw [if_neg (by omega)])); try with_reducible rfl)
      (try simp only [Act.put, List.setIfInBounds_toArray, List.set_cons_zero, List.set_cons_succ])
      refine wpAnyH_take (i := 4) (oi := { dst := some 23, op := Op.load 70 (Operand.tmp 9), type := 70, pos := "outline.go:154", after := #[], guard := none }) (v := ?_) rfl (by kernel_rfl) (by kernel_rfl) (by kernel_rfl) (fun _ _ _ h => h) (Or.inl ⟨by rfl, ?_⟩) (by assumption) ?_
      rotate_left
      · ((intro w hSw; (try dsimp only at hSw); go_simp; (try rw [if_neg (by omega)])); try with_reducible rfl)
      (try simp only [Act.put, List.setIfInBounds_toArray, List.set_cons_zero, List.set_cons_succ])
      refine wpAnyH_ready (rs := [5]) (by kernel_rfl) (by simp) ?_
      refine AllReadyH.cons (o := { dst := some 24, op := Op.call { callee := Callee.value (Operand.tmp 22), args := #[Operand.tmp 23], argTypes := #[70] }, type := 3, pos := "outline.go:154", after := #[{ on := 3, ground := Ground.data }, { on := 4, ground := Ground.data }], guard := none }) rfl (fun K hK => ?_) ?_
      · (go_simp; go_at_call 76; refine HCC.out.mono ?_; rintro u wz1 ⟨rfl, bz1⟩; dsimp only)
        refine hK.out _ _ ?_ (fun hHeld => ?_)
        · exact HKS.out _ (bz1.block X HXL.out)
        clear hK K
        (try simp only [Act.put, List.setIfInBounds_toArray, List.set_cons_zero, List.set_cons_succ])
        refine wpAnyH_take (i := 6) (oi := { dst := some 25, op := Op.build 96 #[(0, Operand.tmp 21), (1, Operand.tmp 24)], type := 96, pos := "outline.go:154", after := #[{ on := 2, ground := Ground.data }, { on := 5, ground := Ground.data }], guard := none }) (v := ?_) rfl (by kernel_rfl) (by kernel_rfl) (by kernel_rfl) (fun _ _ _ h => h) (Or.inl ⟨by rfl, ?_⟩) (by assumption) ?_
        rotate_left
        · ((intro w hSw; (try dsimp only at hSw); go_simp; (try rw [if_neg (by omega)])); try with_reducible rfl)
        (try simp only [Act.put, List.setIfInBounds_toArray, List.set_cons_zero, List.set_cons_succ])
        refine wpAnyH_ready (rs := [7]) (by kernel_rfl) (by simp) ?_
        refine AllReadyH.cons (o := { dst := some 26, op := Op.buildSlice 94 1 #[(0, Operand.tmp 25)], type := 94, pos := "outline.go:154", after := #[{ on := 6, ground := Ground.data }], guard := none }) rfl (fun K hK => ?_) ?_
        · (go_simp; have bz2 := balloc bz1 (.cells #[.int .i64 d.r, .int .i64 val] 96))
          refine hK.out _ _ ?_ (fun hHeld => ?_)
          · exact HKS.out _ (bz2.block X HXL.out)
          clear hK K
          (try simp only [Act.put, List.setIfInBounds_toArray, List.set_cons_zero, List.set_cons_succ])
          refine wpAnyH_ready (rs := [8]) (by kernel_rfl) (by simp) ?_
          refine AllReadyH.cons (o := { dst := some 27, op := Op.call { callee := Callee.builtin Builtin.append, args := #[Operand.tmp 19, Operand.tmp 26], argTypes := #[94, 94] }, type := 94, pos := "outline.go:154", after := #[{ on := 0, ground := Ground.data }, { on := 7, ground := Ground.data }, { on := 5, ground := Ground.chain }], guard := none }) rfl (fun K hK => ?_) ?_
          · (refine step_appN (by rfl) _ _ _ (by rfl) w1.heap.size 96 ig _ 2 16 Try.underlying94 hig hg0 hg1 hg2 rfl (by decide) (.slice oa i oc) i _ (by rfl) (own_below HOD.out bz2) _ 1 (AX.prc [(d.r, val)]) (by rfl) (srcN_new wz1 (AX.prc [(d.r, val)]) _ 2 1 1 rfl) (AX.prc_one _) (by unfold maxLen; omega) (by omega) (by have := HB.out.size; have := HBD.out.size; have := bz2.size; omega) ?_; intro v8 w8 hown hgrow hor; obtain ⟨na, nc, rfl⟩ := own_shape hown; have hk8 := (hgrow.block X (Nat.lt_of_lt_of_le HXL.out bz2.size) (fun e => HQX.out X e.symm rfl)).trans (bz2.block X HXL.out))
            refine hK.out _ _ ?_ (fun hHeld => ?_)
            · exact HKS.out _ hk8
            clear hK K
            (try simp only [Act.put, List.setIfInBounds_toArray, List.set_cons_zero, List.set_cons_succ])
            refine wpAnyH_take (i := 9) (oi := { dst := some 7, op := Op.assign (Operand.tmp 27), type := 94, pos := "outline.go:154", after := #[{ on := 8, ground := Ground.data }, { on := 8, ground := Ground.chain }, { on := 0, ground := Ground.phase }, { on := 1, ground := Ground.phase }, { on := 2, ground := Ground.phase }, { on := 3, ground := Ground.phase }, { on := 4, ground := Ground.phase }, { on := 5, ground := Ground.phase }, { on := 6, ground := Ground.phase }, { on := 7, ground := Ground.phase }, { on := 8, ground := Ground.phase }], guard := none }) (v := ?_) rfl (by kernel_rfl) (by kernel_rfl) (by kernel_rfl) (fun _ _ _ h => h) (Or.inl ⟨by rfl, ?_⟩) (by assumption) ?_
            rotate_left
            · ((intro w hSw; (try dsimp only at hSw); go_simp; (try rw [if_neg (by omega)])); try with_reducible rfl)
            (try simp only [Act.put, List.setIfInBounds_toArray, List.set_cons_zero, List.set_cons_succ])
            refine wpAnyH_done (by kernel_rfl) ?_ _
            clear hHeld
            have HOW9 : Hid (w8.ownsRow w1.heap.size 96 2 (.slice na (i + 1) nc) (i + 1) (AX.prc ((D.take (i + 1)).map fun d => (d.r, OL.av d)))) := Lib.hid (by
              rw [List.take_add_one, HDI.out, List.map_append]
              show w8.ownsRow _ _ _ _ _ (AX.prc (_ ++ [(d.r, _)]))
              rw [HVAL.out, AX.prc_app]
              exact hown)
            have HB9 : Hid (Below w1.heap.size w1 w8) := Lib.hid (Below.grown (bnext HB.out (bnext HBD.out bz2)) hgrow (by have := HB.out.size; have := HBD.out.size; have := bz2.size; omega) (fun q e => (own_lt HOW.out e).1))
            clear hown hgrow hor hk8 bz1 bz2
            go_simp
            go_wp2
            go_roundw
            case rel => exact ⟨i + 1, by go_num, by omega, ⟨_, _, rfl⟩, HOW9, HB9⟩
            case measure => simp [intOf]; omega
          exact AllReadyH.nil
        exact AllReadyH.nil
      exact AllReadyH.nil
    · have hii : ¬ (i : Int) < (n : Int) := by omega
      have hown := HOW.out
      rw [List.take_of_length_le (by rw [HN.out]; omega)] at hown
      have hil : i = D.length := by have := HN.out; omega
      have hx1 := (HB.out.block B (Array.getElem?_eq_some_iff.1 HX1.out).1).trans HX1.out
      have y0 : wr.cell? ⟨B, 0, none⟩ = some vr := nd_cell hx1 rfl
      have y1 : wr.cell? ⟨B, 1, none⟩ = some va := nd_cell hx1 rfl
      have hml : (D.map fun d => (d.r, OL.av d)).length = i := by rw [List.length_map]; exact hil.symm
      have hsrc := own_srcN hown
      have hpr : PrAt wr (.slice oa i oc) (D.map fun d => (d.r, OL.av d)) := SrcN.pr (by rw [hml]; exact hsrc)
      have hs := sum_any num (D.map fun d => (d.r, OL.av d)) R at' (.slice oa i oc) vr va wr (by rw [hml]; omega) (by have := HRL.out.1; omega) (fun r hr => by have := HRL.out.2.1 r hr; omega) (by have := HRL.out.2.2; omega) hpr (HRA.out.1.keep (bnext HB1.out HB.out)) (HRA.out.2.keep (bnext HB1.out HB.out))
      obtain ⟨z, hz⟩ : ∃ z, AX.sum num (D.map fun d => (d.r, OL.av d)) R at' = z := ⟨_, rfl⟩
      have HZ := Lib.hid hz
      rw [hz] at hs
      have HC := Lib.hid hs
      clear hin hown hil hx1 hml hsrc hpr hs hz
      go_wp2_with fail
      go_at_call 72
      refine HC.out.mono ?_
      rintro e w2 ⟨rfl, k2⟩
      have HBW := Lib.hid (bnext HB1.out (bnext HB.out k2))
      clear HC k2 y0 y1
      go_wp2
      go_ret
      exact ⟨by rw [HZ.out]; rfl, HBW.out⟩
end Go.Proofs.Ytanppbdlcinpfaa
