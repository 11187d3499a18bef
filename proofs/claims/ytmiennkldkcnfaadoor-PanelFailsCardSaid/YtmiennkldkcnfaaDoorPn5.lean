/- Writing rows into a panel. No conditions. -/
import Derived.Test.YtmiennkldkcnfaaDoorPn4
namespace Go.Proofs.YtmiennkldkcnfaaDoor.PN
theorem set_u64 (R : List Nat) (j o : Nat) : ((R.map U6).toArray).setIfInBounds j (U6 o) = ((R.set j o).map U6).toArray := by simp
end Go.Proofs.YtmiennkldkcnfaaDoor.PN
namespace Go.Proofs.YtmiennkldkcnfaaDoor
set_option maxRecDepth 100000
set_option linter.unusedVariables false
open Go.RowKit Go.Deep
/-- A panel into which the first k rows of S were written, at X, Y, W of each. -/
def Pn.pre (P : Pn) (X Y W : Nat) (S : List Nat) (k : Nat) : Pn := ⟨P.w, PN.wrt S k Y X W P.R, P.upd, P.fa, if P.fa = true then P.left - k else P.left⟩
/-- The same, when the power for one more was asked. -/
def Pn.pw (P : Pn) (X Y W : Nat) (S : List Nat) (k : Nat) : Pn := ⟨P.w, PN.wrt S k Y X W P.R, P.upd, P.fa, if P.fa = true then P.left - (k + 1) else P.left⟩
theorem Pn.pw_len (P : Pn) (X Y W : Nat) (S : List Nat) (k : Nat) : (P.pw X Y W S k).R.length = P.R.length := PN.wrt_len _ _ _ _ _ _
theorem Pn.pre_len (P : Pn) (X Y W : Nat) (S : List Nat) (k : Nat) : (P.pre X Y W S k).R.length = P.R.length := PN.wrt_len _ _ _ _ _ _
def Pn.can (P : Pn) (n : Nat) : Nat := if P.fa = true then min P.left n else n
theorem Pn.pre_zero (P : Pn) (X Y W : Nat) (S : List Nat) : P.pre X Y W S 0 = P := by
  unfold Pn.pre
  rw [PN.wrt_zero]
  cases P with
  | mk a b c d e => simp
section
variable {V V' : World} {b g : Nat} {P : Pn}
set_option maxHeartbeats 4000000 in
theorem write_any (h : PnAt V b g P) (ho : PnOk P) (X Y W : Nat) (S : List Nat) (v : Value) (hx : X + W ≤ P.w) (hy : Y + S.length ≤ P.R.length) (hS : UA V v S) (hv : ∀ q, v.ownBlock = some q → q ≠ b ∧ q ≠ g) (hb : ∀ r ∈ S, r < 2 ^ W) :
    Calls Tryd.prog 53 #[.pointer (some ⟨b, 0, none⟩), .agg #[.int .i64 (X : Int), .int .i64 (Y : Int), .int .i64 (W : Int), .int .i64 (S.length : Int)], v, .func (.func 54) #[.pointer (some ⟨b, 0, none⟩)] #[]] V fun e w' =>
      e = .returned (.bool (decide (P.can S.length = S.length))) ∧ PnAt w' b g (P.pre X Y W S (P.can S.length)) ∧ FrS (FP b g) V w' := by
  obtain ⟨va, vc, rfl⟩ := hS.shape
  have hW64 : W ≤ 64 := by have := ho.w64; omega
  have hX64 : X ≤ 64 := by have := ho.w64; omega
  have h64 := ho.h64
  have HPO := Lib.hid ho
  have HBT := Lib.hid hb
  have HV := Lib.hid hv
  have hlt1 := (Array.getElem?_eq_some_iff.1 h.hd).1
  have hlt2 := (Array.getElem?_eq_some_iff.1 h.row).1
  have hy64 : Y + S.length ≤ 64 := by omega
  have HYL := Lib.hid hy
  have HXW := Lib.hid hx
  have hbx := balloc (Below.refl _ V) (.cells #[.int .i64 (X : Int), .int .i64 (Y : Int), .int .i64 (W : Int), .int .i64 (S.length : Int)] 31)
  have hxx := heap_alloc_new V (.cells #[.int .i64 (X : Int), .int .i64 (Y : Int), .int .i64 (W : Int), .int .i64 (S.length : Int)] 31)
  obtain ⟨N, hN⟩ : ∃ N, S.length = N := ⟨_, rfl⟩
  rw [hN] at hbx hxx hy64 HYL hS HV ⊢
  obtain ⟨C, hC⟩ : ∃ C, V.heap.size = C := ⟨_, rfl⟩
  obtain ⟨V1, hV1⟩ : ∃ V1, V.alloc (.cells #[.int .i64 (X : Int), .int .i64 (Y : Int), .int .i64 (W : Int), .int .i64 (N : Int)] 31) = V1 := ⟨_, rfl⟩
  rw [hV1] at hbx hxx
  have HP1 : Hid (PnAt V1 b g (P.pre X Y W S 0)) := Lib.hid (by rw [P.pre_zero]; exact h.below hbx)
  have HS1 : Hid (UA V1 (.slice va N vc) S) := Lib.hid (hS.keep hbx)
  have HF1 : Hid (FrS (FP b g) V V1) := Lib.hid (FrS.of hbx)
  rw [hC] at hxx
  have HX1 := Lib.hid hxx
  have HCB : Hid (C ≠ b ∧ C ≠ g) := Lib.hid ⟨by omega, by omega⟩
  have HN := Lib.hid hN
  have HNE := Lib.hid h.ne
  have hcan : Hid (P.can N ≤ N) := Lib.hid (by unfold Pn.can; split <;> omega)
  clear h hS hb hv hbx hxx hlt1 hlt2 hy hN ho hx
  go_enter Tryd.func53, Tryd.ntmps53
  go_upto_region 1 with fail
  try rw [hV1]
  try rw [hC]
  clear hV1 hC
  go_upto_region 2 with fail
  go_loopw [13] (fun v13 wr => ∃ k : Nat, v13 = .int .i64 (k : Int) ∧ k ≤ N ∧ Hid (k ≤ P.can N) ∧ Hid (PnAt wr b g (P.pre X Y W S k)) ∧ Hid (FrS (FP b g) V1 wr)) (fun v _ => N - (intOf v).toNat)
  case atStart => exact ⟨0, rfl, by omega, Lib.hid (by omega), HP1, Lib.hid (FrS.refl _ _)⟩
  case round =>
    obtain ⟨k, rfl, hk, HK, HP, HF⟩ := hrel
    by_cases hkn : k < N
    · have hkz : (k : Int) < (N : Int) := by omega
      have hk0 : (0 : Int) ≤ (k : Int) := by omega
      obtain ⟨x, hx⟩ : ∃ x, S[k]? = some x := ⟨_, List.getElem?_eq_getElem (by rw [HN.out]; exact hkn)⟩
      obtain ⟨g1, o1, rfl, hg, hcell0⟩ := (HS1.out.frame HF.out (fun q e h => by have := HV.out q e; rcases h with h | h; exact this.1 h; exact this.2 h)).cell hx
      have hxl := HBT.out x (List.mem_of_getElem? hx)
      have HX := Lib.hid hx
      have HXL := Lib.hid hxl
      clear hx hxl
      by_cases hgo : P.fa = true ∧ P.left = k
      · obtain ⟨hfa, hl⟩ := hgo
        have HPW := Lib.hid (hasPower_off HP.out (show (P.pre X Y W S k).fa = true from hfa) (show (if P.fa = true then P.left - k else P.left) = 0 by rw [if_pos hfa]; omega))
        have HKE : Hid (P.can N = k) := Lib.hid (by unfold Pn.can; rw [if_pos hfa]; omega)
        have HD : Hid (decide (P.can N = N) = false) := Lib.hid (decide_eq_false (by rw [HKE.out]; omega))
        clear hfa hl
        go_wp2_with fail
        go_at_call 54
        refine HPW.out.mono ?_
        rintro e wz ⟨rfl, he⟩
        have he' := he.symm
        subst he'
        go_wp2
        go_ret
        exact ⟨retb HD.out.symm, by rw [HKE.out]; exact HP.out, HF1.out.trans HF.out⟩
      · have HPW : Hid (Calls Tryd.prog 54 #[.pointer (some ⟨b, 0, none⟩)] wr fun e w' => e = .returned (.bool true) ∧ PnAt w' b g (P.pw X Y W S k) ∧ FrS (FP b g) wr w') := Lib.hid (by
          cases hfa : P.fa with
          | false =>
            refine (hasPower_on HP.out (show (P.pre X Y W S k).fa = false from hfa)).mono ?_
            rintro e w' ⟨rfl, rfl⟩
            refine ⟨rfl, ?_, FrS.refl _ _⟩
            have h0 := HP.out
            unfold Pn.pre at h0
            unfold Pn.pw
            rw [hfa] at h0 ⊢
            exact h0
          | true =>
            obtain ⟨n, hn⟩ : ∃ n, P.left = k + n + 1 := ⟨P.left - k - 1, by have := HK.out; unfold Pn.can at this; rw [if_pos hfa] at this; have : P.left ≠ k := fun e => hgo ⟨hfa, e⟩; omega⟩
            have hPL := HPO.out.left
            have h0 := hasPower_left HP.out (show (P.pre X Y W S k).fa = true from hfa) n (show (if P.fa = true then P.left - k else P.left) = n + 1 by rw [if_pos hfa]; omega) (by omega)
            refine h0.mono ?_
            rintro e w' ⟨rfl, h1, h2⟩
            refine ⟨rfl, ?_, h2⟩
            unfold Pn.pw
            rw [if_pos hfa, show P.left - (k + 1) = n by omega]
            exact h1)
        have HK2 : Hid (k + 1 ≤ P.can N) := Lib.hid (by
          have h0 := HK.out
          unfold Pn.can at h0 ⊢
          by_cases hfa : P.fa = true
          · rw [if_pos hfa] at h0 ⊢
            have : P.left ≠ k := fun e => hgo ⟨hfa, e⟩
            omega
          · rw [if_neg hfa]
            omega)
        clear hgo
        go_wp2_with fail
        go_at_call 54
        refine HPW.out.mono ?_
        rintro e wz0 ⟨rfl, hp2, hf2⟩
        have HP2 := Lib.hid hp2
        have HF0 := HF
        have HF := Lib.hid (HF0.out.trans hf2)
        clear HF0 HP hp2 hf2 hcell0
        obtain ⟨wc, hwc⟩ : ∃ wc, wc = wz0 := ⟨_, rfl⟩
        subst hwc
        have hrl : Y + k < P.R.length := by have := HYL.out; omega
        obtain ⟨old, hold⟩ : ∃ old, P.R[Y + k]? = some old := ⟨_, List.getElem?_eq_getElem hrl⟩
        have hoB := HPO.out.bits old (List.mem_of_getElem? hold)
        have hw64 := HPO.out.w64
        have hold64 : old < 18446744073709551616 := Nat.lt_of_lt_of_le hoB (Nat.pow_le_pow_right (n := 2) (by decide) hw64)
        have hx64 : x < 18446744073709551616 := Nat.lt_of_lt_of_le HXL.out (Nat.pow_le_pow_right (n := 2) (by decide) hW64)
        have hpW : 2 ^ W ≤ 18446744073709551616 := Nat.pow_le_pow_right (n := 2) (by decide) hW64
        have hpW1 : 1 ≤ 2 ^ W := Nat.one_le_two_pow
        have HXX : Hid (wc.heap[C]? = some (.cells #[.int .i64 (X : Int), .int .i64 (Y : Int), .int .i64 (W : Int), .int .i64 (N : Int)] 31 (0, 0))) := Lib.hid (HF.out.nd HX1.out (fun h => by have := HCB.out; rcases h with h | h; exact this.1 h; exact this.2 h))
        have k0 : wc.cell? ⟨b, 1, none⟩ = some (.slice (some ⟨g, 0, none⟩) P.R.length P.R.length) := by rw [← P.pw_len X Y W S k]; exact nd_cell HP2.out.hd rfl
        have k1 : wc.cell? ⟨C, 0, none⟩ = some (.int .i64 (X : Int)) := nd_cell HXX.out rfl
        have k2 : wc.cell? ⟨C, 1, none⟩ = some (.int .i64 (Y : Int)) := nd_cell HXX.out rfl
        have k3 : wc.cell? ⟨C, 2, none⟩ = some (.int .i64 (W : Int)) := nd_cell HXX.out rfl
        have k4 : wc.cell? ⟨g, Y + k, none⟩ = some (U6 old) := HP2.out.cell (show (PN.wrt S k Y X W P.R)[Y + k]? = some old by rw [PN.wrt_here]; exact hold)
        have k5 : wc.frozen? ⟨g, Y + k, none⟩ = false := nd_froz HP2.out.row _
        obtain ⟨RL, hRL⟩ : ∃ RL, P.R.length = RL := ⟨_, rfl⟩
        rw [hRL] at k0 hrl
        have HRL := Lib.hid hRL
        have hR64 : RL ≤ 64 := by have := HPO.out.h64; omega
        have hdr := Below.drew (Below.refl wc.heap.size wc)
        have hlb := (Array.getElem?_eq_some_iff.1 HP2.out.hd).1
        have hlg := (Array.getElem?_eq_some_iff.1 HP2.out.row).1
        have hlC := (Array.getElem?_eq_some_iff.1 HXX.out).1
        have HKD : Hid (wc.drew.cell? ⟨b, 1, none⟩ = some (.slice (some ⟨g, 0, none⟩) RL RL) ∧ wc.drew.cell? ⟨C, 0, none⟩ = some (.int .i64 (X : Int)) ∧ wc.drew.cell? ⟨C, 1, none⟩ = some (.int .i64 (Y : Int)) ∧ wc.drew.cell? ⟨C, 2, none⟩ = some (.int .i64 (W : Int)) ∧ wc.drew.cell? ⟨g, Y + k, none⟩ = some (U6 old) ∧ wc.drew.frozen? ⟨g, Y + k, none⟩ = false) := Lib.hid ⟨(hdr.cell (p := ⟨b, 1, none⟩) hlb).trans k0, (hdr.cell (p := ⟨C, 0, none⟩) hlC).trans k1, (hdr.cell (p := ⟨C, 1, none⟩) hlC).trans k2, (hdr.cell (p := ⟨C, 2, none⟩) hlC).trans k3, (hdr.cell (p := ⟨g, Y + k, none⟩) hlg).trans k4, (hdr.frozen (p := ⟨g, Y + k, none⟩) hlg).trans k5⟩
        have HPD : Hid (PnAt wc.drew b g (P.pw X Y W S k)) := Lib.hid (HP2.out.below hdr)
        have HFD : Hid (FrS (FP b g) V1 wc.drew) := Lib.hid (HF.out.then hdr)
        have HMK := Lib.hid fun U => mask_any U W hW64
        obtain ⟨m, hm⟩ : ∃ m, 2 ^ W - 1 = m := ⟨_, rfl⟩
        have hml : m < 18446744073709551616 := by omega
        rw [hm] at HMK
        have e1 := shl_val m X
        have e2 := shl_val x X
        have e3 := u64_andNot_nat old (PN.shl m X) hold64 (PN.shl_lt _ _)
        have e4 := u64_or_nat (old &&& (18446744073709551615 - PN.shl m X)) (PN.shl x X) (Nat.lt_of_le_of_lt Nat.and_le_left hold64) (PN.shl_lt _ _)
        have HIN : Hid ((old &&& (18446744073709551615 - PN.shl m X)) ||| PN.shl x X = PN.ins (P.R.getD (Y + k) 0) (S.getD k 0) X W) := Lib.hid (by
          rw [List.getD_eq_getElem?_getD, hold, List.getD_eq_getElem?_getD, HX.out, ← hm]
          rfl)
        obtain ⟨o, ho⟩ : ∃ o, ((old &&& (18446744073709551615 - PN.shl m X)) ||| PN.shl x X) = o := ⟨_, rfl⟩
        rw [ho] at e4 HIN
        obtain ⟨a, ha⟩ : ∃ a, (old &&& (18446744073709551615 - PN.shl m X)) = a := ⟨_, rfl⟩
        rw [ha] at e3 e4
        obtain ⟨s1, hs1⟩ : ∃ s1, PN.shl m X = s1 := ⟨_, rfl⟩
        obtain ⟨s2, hs2⟩ : ∃ s2, PN.shl x X = s2 := ⟨_, rfl⟩
        rw [hs1] at e1 e3
        rw [hs2] at e2 e4
        have HPN : Hid (∀ U : World, U.heap.size = wc.drew.heap.size → PnAt U b g (P.pw X Y W S k) → PnAt (U.setCell ⟨g, Y + k, none⟩ (U6 o)) b g (P.pre X Y W S (k + 1))) := Lib.hid fun U _ hU => by
          refine ⟨?_, ?_, hU.ne⟩
          · rw [Below.heap_setCell U ⟨g, Y + k, none⟩ _ b hU.ne]
            have h1 := hU.hd
            rw [P.pw_len, ← P.pre_len X Y W S (k + 1)] at h1
            exact h1
          · rw [heap_setCell_same _ g (Y + k) _ _ _ hU.row, PN.set_u64]
            show some (Obj.cells (((PN.wrt S k Y X W P.R).set (Y + k) o).map U6).toArray _ _) = some (Obj.cells ((PN.wrt S (k + 1) Y X W P.R).map U6).toArray _ _)
            rw [PN.wrt_succ S k Y X W P.R (by rw [HRL.out]; exact hrl), HIN.out]
        obtain ⟨p, hp⟩ : ∃ p, Y + k = p := ⟨_, rfl⟩
        rw [hp] at HKD HPN hrl
        have hik : ((Y : Int) + (k : Int)) = (p : Int) := by omega
        have hi1 : (0 : Int) ≤ (p : Int) := by omega
        have hi2 : (p : Int) < (RL : Int) := by omega
        have hiw : IntKind.i64.wrap ((Y : Int) + (k : Int)) = (p : Int) := by rw [IntKind.wrap_i64]; omega
        have hip : IntKind.i64.wrap (p : Int) = (p : Int) := by rw [IntKind.wrap_i64]; omega
        have HKN : Hid (k + 1 ≤ N) := Lib.hid hkn
        clear hm hml ho ha hs1 hs2 hold hoB hw64 hold64 hx64 hpW hpW1 k0 k1 k2 k3 k4 k5 hdr hlb hlg hlC hRL HP2 hp
        go_upto_region 6 with fail
        refine wp_region_last #[{ dst := some 21, op := Op.move (Operand.tmp 0), type := 25, pos := "panel.go:77", after := #[], guard := none }, { dst := some 22, op := Op.nilCheck (Operand.tmp 21), type := 0, pos := "panel.go:77", after := #[{ on := 0, ground := Ground.data }], guard := none }, { dst := some 23, op := Op.fieldAddr 70 (Operand.tmp 22) 1, type := 0, pos := "panel.go:77", after := #[{ on := 1, ground := Ground.data }], guard := none }, { dst := some 24, op := Op.load 32 (Operand.tmp 23), type := 32, pos := "panel.go:77", after := #[{ on := 2, ground := Ground.data }], guard := none }, { dst := some 25, op := Op.fieldAddr 31 (Operand.tmp 5) 1, type := 0, pos := "panel.go:77", after := #[], guard := none }, { dst := some 26, op := Op.load 3 (Operand.tmp 25), type := 3, pos := "panel.go:77", after := #[{ on := 4, ground := Ground.data }], guard := none }, { dst := some 27, op := Op.move (Operand.tmp 9), type := 3, pos := "panel.go:77", after := #[], guard := none }, { dst := some 28, op := Op.binOp BinOp.add 3 (Operand.tmp 26) (Operand.tmp 27) 3, type := 3, pos := "panel.go:77", after := #[{ on := 5, ground := Ground.data }, { on := 6, ground := Ground.data }], guard := none }, { dst := some 29, op := Op.move (Operand.tmp 0), type := 25, pos := "panel.go:77", after := #[], guard := none }, { dst := some 30, op := Op.nilCheck (Operand.tmp 29), type := 0, pos := "panel.go:77", after := #[{ on := 8, ground := Ground.data }], guard := none }, { dst := some 31, op := Op.fieldAddr 70 (Operand.tmp 30) 1, type := 0, pos := "panel.go:77", after := #[{ on := 9, ground := Ground.data }], guard := none }, { dst := some 32, op := Op.load 32 (Operand.tmp 31), type := 32, pos := "panel.go:77", after := #[{ on := 10, ground := Ground.data }], guard := none }, { dst := some 33, op := Op.fieldAddr 31 (Operand.tmp 5) 1, type := 0, pos := "panel.go:77", after := #[], guard := none }, { dst := some 34, op := Op.load 3 (Operand.tmp 33), type := 3, pos := "panel.go:77", after := #[{ on := 12, ground := Ground.data }], guard := none }, { dst := some 35, op := Op.move (Operand.tmp 9), type := 3, pos := "panel.go:77", after := #[], guard := none }, { dst := some 36, op := Op.binOp BinOp.add 3 (Operand.tmp 34) (Operand.tmp 35) 3, type := 3, pos := "panel.go:77", after := #[{ on := 13, ground := Ground.data }, { on := 14, ground := Ground.data }], guard := none }, { dst := some 37, op := Op.indexAddr 32 (Operand.tmp 32) (Operand.tmp 36), type := 0, pos := "panel.go:77", after := #[{ on := 11, ground := Ground.data }, { on := 15, ground := Ground.data }], guard := none }, { dst := some 38, op := Op.load 63 (Operand.tmp 37), type := 63, pos := "panel.go:77", after := #[{ on := 16, ground := Ground.data }], guard := none }, { dst := some 39, op := Op.fieldAddr 31 (Operand.tmp 5) 2, type := 0, pos := "panel.go:77", after := #[], guard := none }, { dst := some 40, op := Op.load 3 (Operand.tmp 39), type := 3, pos := "panel.go:77", after := #[{ on := 18, ground := Ground.data }], guard := none }, { dst := some 41, op := Op.call { callee := Callee.value (Operand.func 48), args := #[Operand.tmp 40], argTypes := #[3] }, type := 63, pos := "panel.go:77", after := #[{ on := 19, ground := Ground.data }], guard := none }, { dst := some 42, op := Op.fieldAddr 31 (Operand.tmp 5) 0, type := 0, pos := "panel.go:77", after := #[], guard := none }, { dst := some 43, op := Op.load 3 (Operand.tmp 42), type := 3, pos := "panel.go:77", after := #[{ on := 21, ground := Ground.data }], guard := none }, { dst := some 44, op := Op.binOp BinOp.shl 63 (Operand.tmp 41) (Operand.tmp 43) 3, type := 63, pos := "panel.go:77", after := #[{ on := 20, ground := Ground.data }, { on := 22, ground := Ground.data }], guard := none }, { dst := some 45, op := Op.binOp BinOp.andNot 63 (Operand.tmp 38) (Operand.tmp 44) 63, type := 63, pos := "panel.go:77", after := #[{ on := 17, ground := Ground.data }, { on := 23, ground := Ground.data }], guard := none }, { dst := some 46, op := Op.move (Operand.tmp 10), type := 63, pos := "panel.go:77", after := #[], guard := none }, { dst := some 47, op := Op.fieldAddr 31 (Operand.tmp 5) 0, type := 0, pos := "panel.go:77", after := #[], guard := none }, { dst := some 48, op := Op.load 3 (Operand.tmp 47), type := 3, pos := "panel.go:77", after := #[{ on := 26, ground := Ground.data }], guard := none }, { dst := some 49, op := Op.binOp BinOp.shl 63 (Operand.tmp 46) (Operand.tmp 48) 3, type := 63, pos := "panel.go:77", after := #[{ on := 25, ground := Ground.data }, { on := 27, ground := Ground.data }], guard := none }, { dst := some 50, op := Op.binOp BinOp.or 63 (Operand.tmp 45) (Operand.tmp 49) 63, type := 63, pos := "panel.go:77", after := #[{ on := 24, ground := Ground.data }, { on := 28, ground := Ground.data }], guard := none }, { dst := some 51, op := Op.indexAddr 32 (Operand.tmp 24) (Operand.tmp 28), type := 0, pos := "panel.go:77", after := #[{ on := 3, ground := Ground.data }, { on := 7, ground := Ground.data }, { on := 0, ground := Ground.phase }, { on := 1, ground := Ground.phase }, { on := 2, ground := Ground.phase }, { on := 3, ground := Ground.phase }, { on := 4, ground := Ground.phase }, { on := 5, ground := Ground.phase }, { on := 6, ground := Ground.phase }, { on := 7, ground := Ground.phase }, { on := 8, ground := Ground.phase }, { on := 9, ground := Ground.phase }, { on := 10, ground := Ground.phase }, { on := 11, ground := Ground.phase }, { on := 12, ground := Ground.phase }, { on := 13, ground := Ground.phase }, { on := 14, ground := Ground.phase }, { on := 15, ground := Ground.phase }, { on := 16, ground := Ground.phase }, { on := 17, ground := Ground.phase }, { on := 18, ground := Ground.phase }, { on := 19, ground := Ground.phase }, { on := 20, ground := Ground.phase }, { on := 21, ground := Ground.phase }, { on := 22, ground := Ground.phase }, { on := 23, ground := Ground.phase }, { on := 24, ground := Ground.phase }, { on := 25, ground := Ground.phase }, { on := 26, ground := Ground.phase }, { on := 27, ground := Ground.phase }, { on := 28, ground := Ground.phase }, { on := 29, ground := Ground.phase }], guard := none }] { dst := none, op := Op.store 63 (Operand.tmp 51) (Operand.tmp 50), type := 0, pos := "panel.go:77", after := #[{ on := 30, ground := Ground.data }, { on := 29, ground := Ground.data }, { on := 20, ground := Ground.chain }, { on := 0, ground := Ground.phase }, { on := 1, ground := Ground.phase }, { on := 2, ground := Ground.phase }, { on := 3, ground := Ground.phase }, { on := 4, ground := Ground.phase }, { on := 5, ground := Ground.phase }, { on := 6, ground := Ground.phase }, { on := 7, ground := Ground.phase }, { on := 8, ground := Ground.phase }, { on := 9, ground := Ground.phase }, { on := 10, ground := Ground.phase }, { on := 11, ground := Ground.phase }, { on := 12, ground := Ground.phase }, { on := 13, ground := Ground.phase }, { on := 14, ground := Ground.phase }, { on := 15, ground := Ground.phase }, { on := 16, ground := Ground.phase }, { on := 17, ground := Ground.phase }, { on := 18, ground := Ground.phase }, { on := 19, ground := Ground.phase }, { on := 20, ground := Ground.phase }, { on := 21, ground := Ground.phase }, { on := 22, ground := Ground.phase }, { on := 23, ground := Ground.phase }, { on := 24, ground := Ground.phase }, { on := 25, ground := Ground.phase }, { on := 26, ground := Ground.phase }, { on := 27, ground := Ground.phase }, { on := 28, ground := Ground.phase }, { on := 29, ground := Ground.phase }], guard := none } rfl (by kernel_rfl) (by kernel_rfl) ((fun w' => w'.cell? ⟨b, 1, none⟩ = some (.slice (some ⟨g, 0, none⟩) RL RL) ∧ w'.cell? ⟨C, 0, none⟩ = some (.int .i64 (X : Int)) ∧ w'.cell? ⟨C, 1, none⟩ = some (.int .i64 (Y : Int)) ∧ w'.cell? ⟨C, 2, none⟩ = some (.int .i64 (W : Int)) ∧ w'.cell? ⟨g, p, none⟩ = some (U6 old) ∧ w'.frozen? ⟨g, p, none⟩ = false)) ?_ (fun hHeld => ?_)
        · exact HKD.out
        refine wpAnyH_take (i := 0) (oi := { dst := some 21, op := Op.move (Operand.tmp 0), type := 25, pos := "panel.go:77", after := #[], guard := none }) (v := ?_) rfl (by kernel_rfl) (by kernel_rfl) (by kernel_rfl) (fun _ _ _ h => h) (Or.inl ⟨by rfl, ?_⟩) (by assumption) ?_
        rotate_left
        · ((intro w hSw; (try dsimp only at hSw); go_simp; (try rw [if_neg (by omega)])); try with_reducible rfl)
        (try simp only [Act.put, List.setIfInBounds_toArray, List.set_cons_zero, List.set_cons_succ])
        refine wpAnyH_take (i := 1) (oi := { dst := some 22, op := Op.nilCheck (Operand.tmp 21), type := 0, pos := "panel.go:77", after := #[{ on := 0, ground := Ground.data }], guard := none }) (v := ?_) rfl (by kernel_rfl) (by kernel_rfl) (by kernel_rfl) (fun _ _ _ h => h) (Or.inl ⟨by rfl, ?_⟩) (by assumption) ?_
        rotate_left
        · ((intro w hSw; (try dsimp only at hSw); go_simp; (try rw [if_neg (by omega)])); try with_reducible rfl)
        (try simp only [Act.put, List.setIfInBounds_toArray, List.set_cons_zero, List.set_cons_succ])
        refine wpAnyH_take (i := 2) (oi := { dst := some 23, op := Op.fieldAddr 70 (Operand.tmp 22) 1, type := 0, pos := "panel.go:77", after := #[{ on := 1, ground := Ground.data }], guard := none }) (v := ?_) rfl (by kernel_rfl) (by kernel_rfl) (by kernel_rfl) (fun _ _ _ h => h) (Or.inl ⟨by rfl, ?_⟩) (by assumption) ?_
        rotate_left
        · ((intro w hSw; (try dsimp only at hSw); go_simp; (try rw [if_neg (by omega)])); try with_reducible rfl)
        (try simp only [Act.put, List.setIfInBounds_toArray, List.set_cons_zero, List.set_cons_succ])
        refine wpAnyH_take (i := 3) (oi := { dst := some 24, op := Op.load 32 (Operand.tmp 23), type := 32, pos := "panel.go:77", after := #[{ on := 2, ground := Ground.data }], guard := none }) (v := ?_) rfl (by kernel_rfl) (by kernel_rfl) (by kernel_rfl) (fun _ _ _ h => h) (Or.inl ⟨by rfl, ?_⟩) (by assumption) ?_
        rotate_left
        · ((intro w hSw; (try dsimp only at hSw); go_simp; (try rw [if_neg (by omega)])); try with_reducible rfl)
        (try simp only [Act.put, List.setIfInBounds_toArray, List.set_cons_zero, List.set_cons_succ])
        refine wpAnyH_take (i := 4) (oi := { dst := some 25, op := Op.fieldAddr 31 (Operand.tmp 5) 1, type := 0, pos := "panel.go:77", after := #[], guard := none }) (v := ?_) rfl (by kernel_rfl) (by kernel_rfl) (by kernel_rfl) (fun _ _ _ h => h) (Or.inl ⟨by rfl, ?_⟩) (by assumption) ?_
        rotate_left
        · ((intro w hSw; (try dsimp only at hSw); go_simp; (try rw [if_neg (by omega)])); try with_reducible rfl)
        (try simp only [Act.put, List.setIfInBounds_toArray, List.set_cons_zero, List.set_cons_succ])
        refine wpAnyH_take (i := 5) (oi := { dst := some 26, op := Op.load 3 (Operand.tmp 25), type := 3, pos := "panel.go:77", after := #[{ on := 4, ground := Ground.data }], guard := none }) (v := ?_) rfl (by kernel_rfl) (by kernel_rfl) (by kernel_rfl) (fun _ _ _ h => h) (Or.inl ⟨by rfl, ?_⟩) (by assumption) ?_
        rotate_left
        · ((intro w hSw; (try dsimp only at hSw); go_simp; (try rw [if_neg (by omega)])); try with_reducible rfl)
        (try simp only [Act.put, List.setIfInBounds_toArray, List.set_cons_zero, List.set_cons_succ])
        refine wpAnyH_take (i := 6) (oi := { dst := some 27, op := Op.move (Operand.tmp 9), type := 3, pos := "panel.go:77", after := #[], guard := none }) (v := ?_) rfl (by kernel_rfl) (by kernel_rfl) (by kernel_rfl) (fun _ _ _ h => h) (Or.inl ⟨by rfl, ?_⟩) (by assumption) ?_
        rotate_left
        · ((intro w hSw; (try dsimp only at hSw); go_simp; (try rw [if_neg (by omega)])); try with_reducible rfl)
        (try simp only [Act.put, List.setIfInBounds_toArray, List.set_cons_zero, List.set_cons_succ])
        refine wpAnyH_take (i := 7) (oi := { dst := some 28, op := Op.binOp BinOp.add 3 (Operand.tmp 26) (Operand.tmp 27) 3, type := 3, pos := "panel.go:77", after := #[{ on := 5, ground := Ground.data }, { on := 6, ground := Ground.data }], guard := none }) (v := ?_) rfl (by kernel_rfl) (by kernel_rfl) (by kernel_rfl) (fun _ _ _ h => h) (Or.inl ⟨by rfl, ?_⟩) (by assumption) ?_
        rotate_left
        · ((intro w hSw; (try dsimp only at hSw); go_simp; (try rw [if_neg (by omega)])); try with_reducible rfl)
        (try simp only [Act.put, List.setIfInBounds_toArray, List.set_cons_zero, List.set_cons_succ])
        refine wpAnyH_take (i := 8) (oi := { dst := some 29, op := Op.move (Operand.tmp 0), type := 25, pos := "panel.go:77", after := #[], guard := none }) (v := ?_) rfl (by kernel_rfl) (by kernel_rfl) (by kernel_rfl) (fun _ _ _ h => h) (Or.inl ⟨by rfl, ?_⟩) (by assumption) ?_
        rotate_left
        · ((intro w hSw; (try dsimp only at hSw); go_simp; (try rw [if_neg (by omega)])); try with_reducible rfl)
        (try simp only [Act.put, List.setIfInBounds_toArray, List.set_cons_zero, List.set_cons_succ])
        refine wpAnyH_take (i := 9) (oi := { dst := some 30, op := Op.nilCheck (Operand.tmp 29), type := 0, pos := "panel.go:77", after := #[{ on := 8, ground := Ground.data }], guard := none }) (v := ?_) rfl (by kernel_rfl) (by kernel_rfl) (by kernel_rfl) (fun _ _ _ h => h) (Or.inl ⟨by rfl, ?_⟩) (by assumption) ?_
        rotate_left
        · ((intro w hSw; (try dsimp only at hSw); go_simp; (try rw [if_neg (by omega)])); try with_reducible rfl)
        (try simp only [Act.put, List.setIfInBounds_toArray, List.set_cons_zero, List.set_cons_succ])
        refine wpAnyH_take (i := 10) (oi := { dst := some 31, op := Op.fieldAddr 70 (Operand.tmp 30) 1, type := 0, pos := "panel.go:77", after := #[{ on := 9, ground := Ground.data }], guard := none }) (v := ?_) rfl (by kernel_rfl) (by kernel_rfl) (by kernel_rfl) (fun _ _ _ h => h) (Or.inl ⟨by rfl, ?_⟩) (by assumption) ?_
        rotate_left
        · ((intro w hSw; (try dsimp only at hSw); go_simp; (try rw [if_neg (by omega)])); try with_reducible rfl)
        (try simp only [Act.put, List.setIfInBounds_toArray, List.set_cons_zero, List.set_cons_succ])
        refine wpAnyH_take (i := 11) (oi := { dst := some 32, op := Op.load 32 (Operand.tmp 31), type := 32, pos := "panel.go:77", after := #[{ on := 10, ground := Ground.data }], guard := none }) (v := ?_) rfl (by kernel_rfl) (by kernel_rfl) (by kernel_rfl) (fun _ _ _ h => h) (Or.inl ⟨by rfl, ?_⟩) (by assumption) ?_
        rotate_left
        · ((intro w hSw; (try dsimp only at hSw); go_simp; (try rw [if_neg (by omega)])); try with_reducible rfl)
        (try simp only [Act.put, List.setIfInBounds_toArray, List.set_cons_zero, List.set_cons_succ])
        refine wpAnyH_take (i := 12) (oi := { dst := some 33, op := Op.fieldAddr 31 (Operand.tmp 5) 1, type := 0, pos := "panel.go:77", after := #[], guard := none }) (v := ?_) rfl (by kernel_rfl) (by kernel_rfl) (by kernel_rfl) (fun _ _ _ h => h) (Or.inl ⟨by rfl, ?_⟩) (by assumption) ?_
        rotate_left
        · ((intro w hSw; (try dsimp only at hSw); go_simp; (try rw [if_neg (by omega)])); try with_reducible rfl)
        (try simp only [Act.put, List.setIfInBounds_toArray, List.set_cons_zero, List.set_cons_succ])
        refine wpAnyH_take (i := 13) (oi := { dst := some 34, op := Op.load 3 (Operand.tmp 33), type := 3, pos := "panel.go:77", after := #[{ on := 12, ground := Ground.data }], guard := none }) (v := ?_) rfl (by kernel_rfl) (by kernel_rfl) (by kernel_rfl) (fun _ _ _ h => h) (Or.inl ⟨by rfl, ?_⟩) (by assumption) ?_
        rotate_left
        · ((intro w hSw; (try dsimp only at hSw); go_simp; (try rw [if_neg (by omega)])); try with_reducible rfl)
        (try simp only [Act.put, List.setIfInBounds_toArray, List.set_cons_zero, List.set_cons_succ])
        refine wpAnyH_take (i := 14) (oi := { dst := some 35, op := Op.move (Operand.tmp 9), type := 3, pos := "panel.go:77", after := #[], guard := none }) (v := ?_) rfl (by kernel_rfl) (by kernel_rfl) (by kernel_rfl) (fun _ _ _ h => h) (Or.inl ⟨by rfl, ?_⟩) (by assumption) ?_
        rotate_left
        · ((intro w hSw; (try dsimp only at hSw); go_simp; (try rw [if_neg (by omega)])); try with_reducible rfl)
        (try simp only [Act.put, List.setIfInBounds_toArray, List.set_cons_zero, List.set_cons_succ])
        refine wpAnyH_take (i := 15) (oi := { dst := some 36, op := Op.binOp BinOp.add 3 (Operand.tmp 34) (Operand.tmp 35) 3, type := 3, pos := "panel.go:77", after := #[{ on := 13, ground := Ground.data }, { on := 14, ground := Ground.data }], guard := none }) (v := ?_) rfl (by kernel_rfl) (by kernel_rfl) (by kernel_rfl) (fun _ _ _ h => h) (Or.inl ⟨by rfl, ?_⟩) (by assumption) ?_
        rotate_left
        · ((intro w hSw; (try dsimp only at hSw); go_simp; (try rw [if_neg (by omega)])); try with_reducible rfl)
        (try simp only [Act.put, List.setIfInBounds_toArray, List.set_cons_zero, List.set_cons_succ])
        refine wpAnyH_take (i := 16) (oi := { dst := some 37, op := Op.indexAddr 32 (Operand.tmp 32) (Operand.tmp 36), type := 0, pos := "panel.go:77", after := #[{ on := 11, ground := Ground.data }, { on := 15, ground := Ground.data }], guard := none }) (v := ?_) rfl (by kernel_rfl) (by kernel_rfl) (by kernel_rfl) (fun _ _ _ h => h) (Or.inl ⟨by rfl, ?_⟩) (by assumption) ?_
        rotate_left
        · ((intro w hSw; (try dsimp only at hSw); go_simp; (try rw [if_neg (by omega)])); try with_reducible rfl)
        (try simp only [Act.put, List.setIfInBounds_toArray, List.set_cons_zero, List.set_cons_succ])
        refine wpAnyH_take (i := 17) (oi := { dst := some 38, op := Op.load 63 (Operand.tmp 37), type := 63, pos := "panel.go:77", after := #[{ on := 16, ground := Ground.data }], guard := none }) (v := ?_) rfl (by kernel_rfl) (by kernel_rfl) (by kernel_rfl) (fun _ _ _ h => h) (Or.inl ⟨by rfl, ?_⟩) (by assumption) ?_
        rotate_left
        · ((intro w hSw; (try dsimp only at hSw); go_simp; (try rw [if_neg (by omega)])); try with_reducible rfl)
        (try simp only [Act.put, List.setIfInBounds_toArray, List.set_cons_zero, List.set_cons_succ])
        refine wpAnyH_take (i := 18) (oi := { dst := some 39, op := Op.fieldAddr 31 (Operand.tmp 5) 2, type := 0, pos := "panel.go:77", after := #[], guard := none }) (v := ?_) rfl (by kernel_rfl) (by kernel_rfl) (by kernel_rfl) (fun _ _ _ h => h) (Or.inl ⟨by rfl, ?_⟩) (by assumption) ?_
        rotate_left
        · ((intro w hSw; (try dsimp only at hSw); go_simp; (try rw [if_neg (by omega)])); try with_reducible rfl)
        (try simp only [Act.put, List.setIfInBounds_toArray, List.set_cons_zero, List.set_cons_succ])
        refine wpAnyH_take (i := 19) (oi := { dst := some 40, op := Op.load 3 (Operand.tmp 39), type := 3, pos := "panel.go:77", after := #[{ on := 18, ground := Ground.data }], guard := none }) (v := ?_) rfl (by kernel_rfl) (by kernel_rfl) (by kernel_rfl) (fun _ _ _ h => h) (Or.inl ⟨by rfl, ?_⟩) (by assumption) ?_
        rotate_left
        · ((intro w hSw; (try dsimp only at hSw); go_simp; (try rw [if_neg (by omega)])); try with_reducible rfl)
        (try simp only [Act.put, List.setIfInBounds_toArray, List.set_cons_zero, List.set_cons_succ])
        refine wpAnyH_take (i := 21) (oi := { dst := some 42, op := Op.fieldAddr 31 (Operand.tmp 5) 0, type := 0, pos := "panel.go:77", after := #[], guard := none }) (v := ?_) rfl (by kernel_rfl) (by kernel_rfl) (by kernel_rfl) (fun _ _ _ h => h) (Or.inl ⟨by rfl, ?_⟩) (by assumption) ?_
        rotate_left
        · ((intro w hSw; (try dsimp only at hSw); go_simp; (try rw [if_neg (by omega)])); try with_reducible rfl)
        (try simp only [Act.put, List.setIfInBounds_toArray, List.set_cons_zero, List.set_cons_succ])
        refine wpAnyH_take (i := 22) (oi := { dst := some 43, op := Op.load 3 (Operand.tmp 42), type := 3, pos := "panel.go:77", after := #[{ on := 21, ground := Ground.data }], guard := none }) (v := ?_) rfl (by kernel_rfl) (by kernel_rfl) (by kernel_rfl) (fun _ _ _ h => h) (Or.inl ⟨by rfl, ?_⟩) (by assumption) ?_
        rotate_left
        · ((intro w hSw; (try dsimp only at hSw); go_simp; (try rw [if_neg (by omega)])); try with_reducible rfl)
        (try simp only [Act.put, List.setIfInBounds_toArray, List.set_cons_zero, List.set_cons_succ])
        refine wpAnyH_take (i := 25) (oi := { dst := some 46, op := Op.move (Operand.tmp 10), type := 63, pos := "panel.go:77", after := #[], guard := none }) (v := ?_) rfl (by kernel_rfl) (by kernel_rfl) (by kernel_rfl) (fun _ _ _ h => h) (Or.inl ⟨by rfl, ?_⟩) (by assumption) ?_
        rotate_left
        · ((intro w hSw; (try dsimp only at hSw); go_simp; (try rw [if_neg (by omega)])); try with_reducible rfl)
        (try simp only [Act.put, List.setIfInBounds_toArray, List.set_cons_zero, List.set_cons_succ])
        refine wpAnyH_take (i := 26) (oi := { dst := some 47, op := Op.fieldAddr 31 (Operand.tmp 5) 0, type := 0, pos := "panel.go:77", after := #[], guard := none }) (v := ?_) rfl (by kernel_rfl) (by kernel_rfl) (by kernel_rfl) (fun _ _ _ h => h) (Or.inl ⟨by rfl, ?_⟩) (by assumption) ?_
        rotate_left
        · ((intro w hSw; (try dsimp only at hSw); go_simp; (try rw [if_neg (by omega)])); try with_reducible rfl)
        (try simp only [Act.put, List.setIfInBounds_toArray, List.set_cons_zero, List.set_cons_succ])
        refine wpAnyH_take (i := 27) (oi := { dst := some 48, op := Op.load 3 (Operand.tmp 47), type := 3, pos := "panel.go:77", after := #[{ on := 26, ground := Ground.data }], guard := none }) (v := ?_) rfl (by kernel_rfl) (by kernel_rfl) (by kernel_rfl) (fun _ _ _ h => h) (Or.inl ⟨by rfl, ?_⟩) (by assumption) ?_
        rotate_left
        · ((intro w hSw; (try dsimp only at hSw); go_simp; (try rw [if_neg (by omega)])); try with_reducible rfl)
        (try simp only [Act.put, List.setIfInBounds_toArray, List.set_cons_zero, List.set_cons_succ])
        refine wpAnyH_take (i := 28) (oi := { dst := some 49, op := Op.binOp BinOp.shl 63 (Operand.tmp 46) (Operand.tmp 48) 3, type := 63, pos := "panel.go:77", after := #[{ on := 25, ground := Ground.data }, { on := 27, ground := Ground.data }], guard := none }) (v := ?_) rfl (by kernel_rfl) (by kernel_rfl) (by kernel_rfl) (fun _ _ _ h => h) (Or.inl ⟨by rfl, ?_⟩) (by assumption) ?_
        rotate_left
        · ((intro w hSw; (try dsimp only at hSw); go_simp; (try rw [if_neg (by omega)])); try with_reducible rfl)
        (try simp only [Act.put, List.setIfInBounds_toArray, List.set_cons_zero, List.set_cons_succ])
        refine wpAnyH_ready (rs := [20]) (by kernel_rfl) (by simp) ?_
        refine AllReadyH.cons (o := { dst := some 41, op := Op.call { callee := Callee.value (Operand.func 48), args := #[Operand.tmp 40], argTypes := #[3] }, type := 63, pos := "panel.go:77", after := #[{ on := 19, ground := Ground.data }], guard := none }) rfl (fun K hK => ?_) AllReadyH.nil
        (go_simp; go_at_call 48; refine (HMK.out _).mono ?_; rintro u wz ⟨rfl, he⟩; have he' := he.symm; subst he'; dsimp only)
        refine hK.out _ _ ?_ (fun hHeld => ?_)
        · exact HKD.out
        clear hK K
        (try simp only [Act.put, List.setIfInBounds_toArray, List.set_cons_zero, List.set_cons_succ])
        refine wpAnyH_take (i := 23) (oi := { dst := some 44, op := Op.binOp BinOp.shl 63 (Operand.tmp 41) (Operand.tmp 43) 3, type := 63, pos := "panel.go:77", after := #[{ on := 20, ground := Ground.data }, { on := 22, ground := Ground.data }], guard := none }) (v := ?_) rfl (by kernel_rfl) (by kernel_rfl) (by kernel_rfl) (fun _ _ _ h => h) (Or.inl ⟨by rfl, ?_⟩) (by assumption) ?_
        rotate_left
        · ((intro w hSw; (try dsimp only at hSw); go_simp; (try rw [if_neg (by omega)])); try with_reducible rfl)
        (try simp only [Act.put, List.setIfInBounds_toArray, List.set_cons_zero, List.set_cons_succ])
        refine wpAnyH_take (i := 24) (oi := { dst := some 45, op := Op.binOp BinOp.andNot 63 (Operand.tmp 38) (Operand.tmp 44) 63, type := 63, pos := "panel.go:77", after := #[{ on := 17, ground := Ground.data }, { on := 23, ground := Ground.data }], guard := none }) (v := ?_) rfl (by kernel_rfl) (by kernel_rfl) (by kernel_rfl) (fun _ _ _ h => h) (Or.inl ⟨by rfl, ?_⟩) (by assumption) ?_
        rotate_left
        · ((intro w hSw; (try dsimp only at hSw); go_simp; (try rw [if_neg (by omega)])); try with_reducible rfl)
        (try simp only [Act.put, List.setIfInBounds_toArray, List.set_cons_zero, List.set_cons_succ])
        refine wpAnyH_take (i := 29) (oi := { dst := some 50, op := Op.binOp BinOp.or 63 (Operand.tmp 45) (Operand.tmp 49) 63, type := 63, pos := "panel.go:77", after := #[{ on := 24, ground := Ground.data }, { on := 28, ground := Ground.data }], guard := none }) (v := ?_) rfl (by kernel_rfl) (by kernel_rfl) (by kernel_rfl) (fun _ _ _ h => h) (Or.inl ⟨by rfl, ?_⟩) (by assumption) ?_
        rotate_left
        · ((intro w hSw; (try dsimp only at hSw); go_simp; (try rw [if_neg (by omega)])); try with_reducible rfl)
        (try simp only [Act.put, List.setIfInBounds_toArray, List.set_cons_zero, List.set_cons_succ])
        refine wpAnyH_take (i := 30) (oi := { dst := some 51, op := Op.indexAddr 32 (Operand.tmp 24) (Operand.tmp 28), type := 0, pos := "panel.go:77", after := #[{ on := 3, ground := Ground.data }, { on := 7, ground := Ground.data }, { on := 0, ground := Ground.phase }, { on := 1, ground := Ground.phase }, { on := 2, ground := Ground.phase }, { on := 3, ground := Ground.phase }, { on := 4, ground := Ground.phase }, { on := 5, ground := Ground.phase }, { on := 6, ground := Ground.phase }, { on := 7, ground := Ground.phase }, { on := 8, ground := Ground.phase }, { on := 9, ground := Ground.phase }, { on := 10, ground := Ground.phase }, { on := 11, ground := Ground.phase }, { on := 12, ground := Ground.phase }, { on := 13, ground := Ground.phase }, { on := 14, ground := Ground.phase }, { on := 15, ground := Ground.phase }, { on := 16, ground := Ground.phase }, { on := 17, ground := Ground.phase }, { on := 18, ground := Ground.phase }, { on := 19, ground := Ground.phase }, { on := 20, ground := Ground.phase }, { on := 21, ground := Ground.phase }, { on := 22, ground := Ground.phase }, { on := 23, ground := Ground.phase }, { on := 24, ground := Ground.phase }, { on := 25, ground := Ground.phase }, { on := 26, ground := Ground.phase }, { on := 27, ground := Ground.phase }, { on := 28, ground := Ground.phase }, { on := 29, ground := Ground.phase }], guard := none }) (v := ?_) rfl (by kernel_rfl) (by kernel_rfl) (by kernel_rfl) (fun _ _ _ h => h) (Or.inl ⟨by rfl, ?_⟩) (by assumption) ?_
        rotate_left
        · ((intro w hSw; (try dsimp only at hSw); go_simp; (try rw [if_neg (by omega)])); try with_reducible rfl)
        (try simp only [Act.put, List.setIfInBounds_toArray, List.set_cons_zero, List.set_cons_succ])
        refine wpAnyH_done (by kernel_rfl) ?_ _
        show Oper.wp _ _ _ _ _ _
        have HE := Lib.hid (HPN.out _ rfl HPD.out)
        go_simp
        go_wp2
        go_roundw
        case rel => exact ⟨k + 1, by go_num, HKN.out, HK2, HE, Lib.hid (HFD.out.trans (FrS.set _ (.inr rfl) _))⟩
        case measure => simp [intOf]; omega
    · obtain rfl : k = N := by omega
      have HKE : Hid (P.can k = k) := Lib.hid (by have := HK.out; have := hcan.out; omega)
      have HD : Hid (decide (P.can k = k) = true) := Lib.hid (decide_eq_true HKE.out)
      have hkz : ¬ (k : Int) < (k : Int) := by omega
      clear hkn
      go_wp2
      go_ret
      exact ⟨retb HD.out.symm, by rw [HKE.out]; exact HP.out, HF1.out.trans HF.out⟩
end
end Go.Proofs.YtmiennkldkcnfaaDoor
