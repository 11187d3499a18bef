/- The reference's Write. No conditions. -/
import Derived.Test.YtmiennkldkcnfaaDoorPn7
namespace Go.Proofs.YtmiennkldkcnfaaDoor.PN
theorem ins_zero {old x X : Nat} (ho : old < 2 ^ 64) (hX : X ≤ 64) : ins old (x % 2 ^ 0) X 0 = old := Nat.eq_of_testBit_eq fun i => by
  rw [ins_bit ho (by simp; omega) (by omega), if_neg (by omega)]
theorem ins_step {old x X i : Nat} (ho : old < 2 ^ 64) (hX : X + i < 64) : wit (ins old (x % 2 ^ i) X i) (X + i) (x.testBit i) = ins old (x % 2 ^ (i + 1)) X (i + 1) := Nat.eq_of_testBit_eq fun j => by
  have h1 : x % 2 ^ i < 2 ^ i := Nat.mod_lt _ Nat.one_le_two_pow
  have h2 : x % 2 ^ (i + 1) < 2 ^ (i + 1) := Nat.mod_lt _ Nat.one_le_two_pow
  rw [wit_bit _ (ins_lt ho (by decide) h1 (by omega)) hX, ins_bit ho h1 (by omega), ins_bit ho h2 (by omega), Nat.testBit_mod_two_pow, Nat.testBit_mod_two_pow]
  by_cases e : j = X + i
  · subst e
    rw [if_pos rfl, if_pos (by omega), show X + i - X = i by omega]
    simp
  · rw [if_neg e]
    by_cases h3 : X ≤ j ∧ j < X + i
    · rw [if_pos h3, if_pos (by omega), decide_eq_true (by omega), decide_eq_true (by omega)]
    · rw [if_neg h3, if_neg (by omega)]
end Go.Proofs.YtmiennkldkcnfaaDoor.PN
namespace Go.Proofs.YtmiennkldkcnfaaDoor
set_option maxRecDepth 100000
set_option linter.unusedVariables false
open Go.RowKit Go.Deep
/-- A panel in which the first i pixels of row k are written too. -/
def Pn.pi (P : Pn) (X Y W : Nat) (S : List Nat) (k old x i : Nat) : Pn := ⟨P.w, (PN.wrt S k Y X W P.R).set (Y + k) (PN.ins old (x % 2 ^ i) X i), P.upd, P.fa, if P.fa = true then P.left - (k + 1) else P.left⟩
theorem Pn.pi_len (P : Pn) (X Y W : Nat) (S : List Nat) (k old x i : Nat) : (P.pi X Y W S k old x i).R.length = P.R.length := by
  show ((PN.wrt S k Y X W P.R).set _ _).length = _
  rw [List.length_set, PN.wrt_len]
theorem Pn.pre_lv (P : Pn) (X Y W : Nat) (S : List Nat) (k : Nat) : (P.pre X Y W S k).lv = if P.fa = true then ((P.left - k : Nat) : Int) else -1 := by
  show (if P.fa = true then (((if P.fa = true then P.left - k else P.left : Nat)) : Int) else -1) = _
  by_cases h : P.fa = true
  · rw [if_pos h, if_pos h, if_pos h]
  · rw [if_neg h, if_neg h]
theorem Pn.pw_lv (P : Pn) (X Y W : Nat) (S : List Nat) (k : Nat) : (P.pw X Y W S k).lv = if P.fa = true then ((P.left - (k + 1) : Nat) : Int) else -1 := by
  show (if P.fa = true then (((if P.fa = true then P.left - (k + 1) else P.left : Nat)) : Int) else -1) = _
  by_cases h : P.fa = true
  · rw [if_pos h, if_pos h, if_pos h]
  · rw [if_neg h, if_neg h]
section
variable {V V' : World} {b g : Nat} {P : Pn}
theorem RfAt.same {Q : Pn} (h : RfAt V b g P) (e : P = Q) : RfAt V b g Q := e ▸ h
set_option maxHeartbeats 8000000 in
theorem rwr_any (h : RfAt V b g P) (ho : PnOk P) (hu : P.upd < 1000000) (c : Rc) (hc : rcOk c) (S : List Nat) (v : Value) (hS : UA V v S) (hv : ∀ q, v.ownBlock = some q → q ≠ b ∧ q ≠ g) (hl : S.length ≤ 1000000) (hb : ∀ r ∈ S, r < 18446744073709551616) :
    Calls Tryd.prog 36 #[.pointer (some ⟨b, 0, none⟩), rcV c, v] V fun e w' => e = .returned (.int .i64 (P.wr c S).1) ∧ RfAt w' b g (P.wr c S).2 ∧ FrS (FP b g) V w' := by
  obtain ⟨va, vc, rfl⟩ := hS.shape
  obtain ⟨x, y, cw, ch⟩ := c
  have HPO := Lib.hid ho
  have HBT := Lib.hid hb
  have HV := Lib.hid hv
  have HU := Lib.hid hu
  have hlt1 := (Array.getElem?_eq_some_iff.1 h.hd).1
  have hlt2 := (Array.getElem?_eq_some_iff.1 h.row).1
  have hbx := balloc (Below.refl _ V) (.cells #[.int .i64 x, .int .i64 y, .int .i64 cw, .int .i64 ch] 31)
  have hxx := heap_alloc_new V (.cells #[.int .i64 x, .int .i64 y, .int .i64 cw, .int .i64 ch] 31)
  obtain ⟨N, hN⟩ : ∃ N, S.length = N := ⟨_, rfl⟩
  have HN := Lib.hid hN
  obtain ⟨C, hC⟩ : ∃ C, V.heap.size = C := ⟨_, rfl⟩
  obtain ⟨V1, hV1⟩ : ∃ V1, V.alloc (.cells #[.int .i64 x, .int .i64 y, .int .i64 cw, .int .i64 ch] 31) = V1 := ⟨_, rfl⟩
  rw [hV1] at hbx hxx
  have HP1 : Hid (RfAt V1 b g P) := Lib.hid (h.below hbx)
  have HS1 : Hid (UA V1 (.slice va N vc) S) := Lib.hid (by rw [← hN]; exact hS.keep hbx)
  have HF1 : Hid (FrS (FP b g) V V1) := Lib.hid (FrS.of hbx)
  rw [hC] at hxx
  have HX1 := Lib.hid hxx
  have HCB : Hid (C ≠ b ∧ C ≠ g) := Lib.hid ⟨by omega, by omega⟩
  rw [hN] at hl HV
  have HZ : Hid (Calls Tryd.prog 39 #[.pointer (some ⟨b, 0, none⟩)] V1 fun e w' => e = .returned (.bool false) ∧ w' = V1) := Lib.hid (rnone_any HP1.out ho)
  obtain ⟨RL, hRL⟩ : ∃ RL, P.R.length = RL := ⟨_, rfl⟩
  obtain ⟨PW, hPW⟩ : ∃ PW, P.w = PW := ⟨_, rfl⟩
  have HRL := Lib.hid hRL
  have HPW := Lib.hid hPW
  have hR64 : RL ≤ 64 := by have := ho.h64; omega
  have hP64 : PW ≤ 64 := by have := ho.w64; omega
  have HIW := Lib.hid fun U => within_any U ⟨x, y, cw, ch⟩ (PW : Int) (RL : Int) hc (by omega) (by omega)
  have HK : Hid (∀ U, Below V1.heap.size V1 U → U.cell? ⟨b, 0, none⟩ = some (.int .i64 (PW : Int)) ∧ U.cell? ⟨b, 1, none⟩ = some (.slice (some ⟨g, 0, none⟩) RL RL) ∧ U.cell? ⟨C, 0, none⟩ = some (.int .i64 x) ∧ U.cell? ⟨C, 1, none⟩ = some (.int .i64 y) ∧ U.cell? ⟨C, 2, none⟩ = some (.int .i64 cw) ∧ U.cell? ⟨C, 3, none⟩ = some (.int .i64 ch)) := Lib.hid fun U hU => by
    have h1 := (HP1.out.below hU).hd
    rw [hRL, hPW] at h1
    have h2 := (hU.block C (Array.getElem?_eq_some_iff.1 hxx).1).trans hxx
    exact ⟨nd_cell h1 rfl, nd_cell h1 rfl, nd_cell h2 rfl, nd_cell h2 rfl, nd_cell h2 rfl, nd_cell h2 rfl⟩
  obtain ⟨A, hA⟩ : ∃ A, P.wr ⟨x, y, cw, ch⟩ S = A := ⟨_, rfl⟩
  have HA := Lib.hid hA
  rw [hN, hA]
  clear h hS hb hv hbx hxx hlt1 hlt2 hN ho hc hu hA hRL hPW
  go_enter Tryd.func36, Tryd.ntmps36
  go_upto_region 1 with fail
  try rw [hV1]
  try rw [hC]
  clear hV1 hC
  go_wp2_with fail
  go_at_call 39
  refine HZ.out.mono ?_
  rintro e wz ⟨rfl, he⟩
  have he' := he.symm
  subst he'
  go_upto_region 4 with fail
  have HD1 := Lib.hid (Below.drew (Below.refl V1.heap.size V1))
  obtain ⟨W0, hW0⟩ : ∃ W0, V1.drew = W0 := ⟨_, rfl⟩
  rw [hW0] at HD1
  have HW0 := Lib.hid hW0
  clear hW0
  refine wp_region_held_drew (S := (fun w' => w'.cell? ⟨b, 0, none⟩ = some (.int .i64 (PW : Int)) ∧ w'.cell? ⟨b, 1, none⟩ = some (.slice (some ⟨g, 0, none⟩) RL RL) ∧ w'.cell? ⟨C, 0, none⟩ = some (.int .i64 x) ∧ w'.cell? ⟨C, 1, none⟩ = some (.int .i64 y) ∧ w'.cell? ⟨C, 2, none⟩ = some (.int .i64 cw) ∧ w'.cell? ⟨C, 3, none⟩ = some (.int .i64 ch))) (by kernel_rfl) ?_ (fun hHeld => ?_)
  · (rw [HW0.out]; exact HK.out _ HD1.out)
  rw [HW0.out] at hHeld ⊢
  refine wpAnyH_take (i := 0) (oi := { dst := some 17, op := Op.load 31 (Operand.tmp 4), type := 31, pos := "ref.go:56", after := #[], guard := none }) (v := ?_) rfl (by kernel_rfl) (by kernel_rfl) (by kernel_rfl) (fun _ _ _ h => h) (Or.inl ⟨by rfl, ?_⟩) (by assumption) ?_
  rotate_left
  · ((intro w hSw; (try dsimp only at hSw); go_simp; (try rw [if_neg (by omega)])); try with_reducible rfl)
  (try simp only [Act.put, List.setIfInBounds_toArray, List.set_cons_zero, List.set_cons_succ])
  refine wpAnyH_take (i := 1) (oi := { dst := some 18, op := Op.move (Operand.tmp 0), type := 27, pos := "ref.go:56", after := #[], guard := none }) (v := ?_) rfl (by kernel_rfl) (by kernel_rfl) (by kernel_rfl) (fun _ _ _ h => h) (Or.inl ⟨by rfl, ?_⟩) (by assumption) ?_
  rotate_left
  · ((intro w hSw; (try dsimp only at hSw); go_simp; (try rw [if_neg (by omega)])); try with_reducible rfl)
  (try simp only [Act.put, List.setIfInBounds_toArray, List.set_cons_zero, List.set_cons_succ])
  refine wpAnyH_take (i := 2) (oi := { dst := some 19, op := Op.nilCheck (Operand.tmp 18), type := 0, pos := "ref.go:56", after := #[{ on := 1, ground := Ground.data }], guard := none }) (v := ?_) rfl (by kernel_rfl) (by kernel_rfl) (by kernel_rfl) (fun _ _ _ h => h) (Or.inl ⟨by rfl, ?_⟩) (by assumption) ?_
  rotate_left
  · ((intro w hSw; (try dsimp only at hSw); go_simp; (try rw [if_neg (by omega)])); try with_reducible rfl)
  (try simp only [Act.put, List.setIfInBounds_toArray, List.set_cons_zero, List.set_cons_succ])
  refine wpAnyH_take (i := 3) (oi := { dst := some 20, op := Op.fieldAddr 74 (Operand.tmp 19) 0, type := 0, pos := "ref.go:56", after := #[{ on := 2, ground := Ground.data }], guard := none }) (v := ?_) rfl (by kernel_rfl) (by kernel_rfl) (by kernel_rfl) (fun _ _ _ h => h) (Or.inl ⟨by rfl, ?_⟩) (by assumption) ?_
  rotate_left
  · ((intro w hSw; (try dsimp only at hSw); go_simp; (try rw [if_neg (by omega)])); try with_reducible rfl)
  (try simp only [Act.put, List.setIfInBounds_toArray, List.set_cons_zero, List.set_cons_succ])
  refine wpAnyH_take (i := 4) (oi := { dst := some 21, op := Op.load 3 (Operand.tmp 20), type := 3, pos := "ref.go:56", after := #[{ on := 3, ground := Ground.data }], guard := none }) (v := ?_) rfl (by kernel_rfl) (by kernel_rfl) (by kernel_rfl) (fun _ _ _ h => h) (Or.inl ⟨by rfl, ?_⟩) (by assumption) ?_
  rotate_left
  · ((intro w hSw; (try dsimp only at hSw); go_simp; (try rw [if_neg (by omega)])); try with_reducible rfl)
  (try simp only [Act.put, List.setIfInBounds_toArray, List.set_cons_zero, List.set_cons_succ])
  refine wpAnyH_take (i := 5) (oi := { dst := some 22, op := Op.move (Operand.tmp 0), type := 27, pos := "ref.go:56", after := #[], guard := none }) (v := ?_) rfl (by kernel_rfl) (by kernel_rfl) (by kernel_rfl) (fun _ _ _ h => h) (Or.inl ⟨by rfl, ?_⟩) (by assumption) ?_
  rotate_left
  · ((intro w hSw; (try dsimp only at hSw); go_simp; (try rw [if_neg (by omega)])); try with_reducible rfl)
  (try simp only [Act.put, List.setIfInBounds_toArray, List.set_cons_zero, List.set_cons_succ])
  refine wpAnyH_take (i := 6) (oi := { dst := some 23, op := Op.nilCheck (Operand.tmp 22), type := 0, pos := "ref.go:56", after := #[{ on := 5, ground := Ground.data }], guard := none }) (v := ?_) rfl (by kernel_rfl) (by kernel_rfl) (by kernel_rfl) (fun _ _ _ h => h) (Or.inl ⟨by rfl, ?_⟩) (by assumption) ?_
  rotate_left
  · ((intro w hSw; (try dsimp only at hSw); go_simp; (try rw [if_neg (by omega)])); try with_reducible rfl)
  (try simp only [Act.put, List.setIfInBounds_toArray, List.set_cons_zero, List.set_cons_succ])
  refine wpAnyH_take (i := 7) (oi := { dst := some 24, op := Op.fieldAddr 74 (Operand.tmp 23) 1, type := 0, pos := "ref.go:56", after := #[{ on := 6, ground := Ground.data }], guard := none }) (v := ?_) rfl (by kernel_rfl) (by kernel_rfl) (by kernel_rfl) (fun _ _ _ h => h) (Or.inl ⟨by rfl, ?_⟩) (by assumption) ?_
  rotate_left
  · ((intro w hSw; (try dsimp only at hSw); go_simp; (try rw [if_neg (by omega)])); try with_reducible rfl)
  (try simp only [Act.put, List.setIfInBounds_toArray, List.set_cons_zero, List.set_cons_succ])
  refine wpAnyH_take (i := 8) (oi := { dst := some 25, op := Op.load 32 (Operand.tmp 24), type := 32, pos := "ref.go:56", after := #[{ on := 7, ground := Ground.data }], guard := none }) (v := ?_) rfl (by kernel_rfl) (by kernel_rfl) (by kernel_rfl) (fun _ _ _ h => h) (Or.inl ⟨by rfl, ?_⟩) (by assumption) ?_
  rotate_left
  · ((intro w hSw; (try dsimp only at hSw); go_simp; (try rw [if_neg (by omega)])); try with_reducible rfl)
  (try simp only [Act.put, List.setIfInBounds_toArray, List.set_cons_zero, List.set_cons_succ])
  refine wpAnyH_take (i := 9) (oi := { dst := some 26, op := Op.call { callee := Callee.builtin Builtin.len, args := #[Operand.tmp 25], argTypes := #[32] }, type := 3, pos := "ref.go:56", after := #[{ on := 8, ground := Ground.data }], guard := none }) (v := ?_) rfl (by kernel_rfl) (by kernel_rfl) (by kernel_rfl) (fun _ _ _ h => h) (Or.inl ⟨by rfl, ?_⟩) (by assumption) ?_
  rotate_left
  · ((intro w hSw; (try dsimp only at hSw); go_simp; (try rw [if_neg (by omega)])); try with_reducible rfl)
  (try simp only [Act.put, List.setIfInBounds_toArray, List.set_cons_zero, List.set_cons_succ])
  refine wpAnyH_ready (rs := [10]) (by kernel_rfl) (by simp) ?_
  refine AllReadyH.cons (o := { dst := some 27, op := Op.call { callee := Callee.value (Operand.func 32), args := #[Operand.tmp 17, Operand.tmp 21, Operand.tmp 26], argTypes := #[31, 3, 3] }, type := 4, pos := "ref.go:56", after := #[{ on := 0, ground := Ground.data }, { on := 4, ground := Ground.data }, { on := 9, ground := Ground.data }], guard := none }) rfl (fun K hK => ?_) ?_
  · (go_simp; go_at_call 32; refine (HIW.out _).mono ?_; rintro u wz1 ⟨rfl, bz⟩; dsimp only)
    refine hK.out _ _ ?_ (fun hHeld => ?_)
    · exact HK.out _ (bnext HD1.out bz)
    clear hK K
    (try simp only [Act.put, List.setIfInBounds_toArray, List.set_cons_zero, List.set_cons_succ])
    refine wpAnyH_take (i := 11) (oi := { dst := some 8, op := Op.assign (Operand.tmp 27), type := 4, pos := "ref.go:56", after := #[{ on := 10, ground := Ground.data }, { on := 10, ground := Ground.chain }, { on := 0, ground := Ground.phase }, { on := 1, ground := Ground.phase }, { on := 2, ground := Ground.phase }, { on := 3, ground := Ground.phase }, { on := 4, ground := Ground.phase }, { on := 5, ground := Ground.phase }, { on := 6, ground := Ground.phase }, { on := 7, ground := Ground.phase }, { on := 8, ground := Ground.phase }, { on := 9, ground := Ground.phase }, { on := 10, ground := Ground.phase }], guard := none }) (v := ?_) rfl (by kernel_rfl) (by kernel_rfl) (by kernel_rfl) (fun _ _ _ h => h) (Or.inl ⟨by rfl, ?_⟩) (by assumption) ?_
    rotate_left
    · ((intro w hSw; (try dsimp only at hSw); go_simp; (try rw [if_neg (by omega)])); try with_reducible rfl)
    (try simp only [Act.put, List.setIfInBounds_toArray, List.set_cons_zero, List.set_cons_succ])
    refine wpAnyH_done (by kernel_rfl) ?_ _
    clear hHeld
    have HB1 := Lib.hid (bnext HD1.out bz)
    have HPZ := Lib.hid (HP1.out.below HB1.out)
    have HFZ : Hid (FrS (FP b g) V wz1) := Lib.hid (HF1.out.then HB1.out)
    clear bz HD1 HW0
    obtain ⟨-, -, z2, z3, z4, z5⟩ := HK.out _ HB1.out
    by_cases hw : wiP ⟨x, y, cw, ch⟩ (PW : Int) (RL : Int)
    · have hdw : decide (wiP ⟨x, y, cw, ch⟩ (PW : Int) (RL : Int)) = true := decide_eq_true hw
      rw [hdw]
      obtain ⟨h1, h2, h3, h4, h5, h6, h7, h8⟩ := hw
      dsimp only at h1 h2 h3 h4 h5 h6 h7 h8
      obtain ⟨X, rfl⟩ : ∃ X : Nat, x = (X : Int) := ⟨x.toNat, by omega⟩
      obtain ⟨Y, rfl⟩ : ∃ Y : Nat, y = (Y : Int) := ⟨y.toNat, by omega⟩
      obtain ⟨CW, rfl⟩ : ∃ CW : Nat, cw = (CW : Int) := ⟨cw.toNat, by omega⟩
      obtain ⟨CH, rfl⟩ : ∃ CH : Nat, ch = (CH : Int) := ⟨ch.toNat, by omega⟩
      have HWI : Hid (wiP ⟨(X : Int), (Y : Int), (CW : Int), (CH : Int)⟩ (PW : Int) (RL : Int)) := Lib.hid (of_decide_eq_true hdw)
      have hcw64 : CW ≤ 64 := by omega
      clear hdw HIW
      by_cases hch : N = CH
      · subst hch
        have hng : ((N : Int) != (N : Int)) = false := by simp
        have hN64 : N ≤ 64 := by omega
        have HS2 : Hid (UA wz1 (.slice va N vc) S) := Lib.hid (HS1.out.keep HB1.out)
        go_upto_region 8 with fail
        go_loopw [9] (fun v9 wr => wr = wz1 ∧ ∃ k : Nat, v9 = .int .i64 (k : Int) ∧ k ≤ N ∧ Hid (∀ j r, j < k → S[j]? = some r → r < 2 ^ CW)) (fun v _ => N - (intOf v).toNat)
        case atStart => exact ⟨by trivial, 0, rfl, by omega, Lib.hid fun j r h => by omega⟩
        case round =>
          obtain ⟨hwr, k, rfl, hk, HJ⟩ := hrel
          have hwr' := hwr.symm
          subst hwr'
          by_cases hkn : k < N
          · have hkz : (k : Int) < (N : Int) := by omega
            have hk0 : (0 : Int) ≤ (k : Int) := by omega
            obtain ⟨r, hr⟩ : ∃ r, S[k]? = some r := ⟨_, List.getElem?_eq_getElem (by rw [HN.out]; exact hkn)⟩
            obtain ⟨g1, o1, rfl, hg1, hc1⟩ := HS2.out.cell hr
            have HR := Lib.hid hr
            have HRB := Lib.hid (HBT.out r (List.mem_of_getElem? hr))
            clear hr
            go_upto_region 11 with fail
            go_loopw [10] (fun v10 wr => wr = wz1 ∧ ∃ i : Nat, v10 = .int .i64 (i : Int) ∧ CW ≤ i ∧ i ≤ 64 ∧ Hid (∀ j, CW ≤ j → j < i → r.testBit j = false)) (fun v _ => 64 - (intOf v).toNat)
            case atStart => exact ⟨by trivial, CW, rfl, by omega, by omega, Lib.hid fun j h1 h2 => by omega⟩
            case round =>
              obtain ⟨hwr, i, rfl, hi1, hi2, HI⟩ := hrel
              have hwr' := hwr.symm
              subst hwr'
              by_cases hi : i < 64
              · have hiz : (i : Int) < 64 := by omega
                have HBI := Lib.hid (bit_any wz1 r i HRB.out hi)
                obtain ⟨B, hB⟩ : ∃ B, r.testBit i = B := ⟨_, rfl⟩
                have HBB := Lib.hid hB
                rw [hB] at HBI
                clear hB
                go_wp2_with fail
                go_at_call 50
                refine HBI.out.mono ?_
                rintro e wz ⟨rfl, he⟩
                have he' := he.symm
                subst he'
                cases B with
                | true =>
                  have HA1 : Hid (A = (1, P)) := Lib.hid (by
                    rw [← HA.out]
                    unfold Pn.wr
                    rw [if_neg]
                    intro hg
                    have h1 := List.any_eq_false.1 hg.2.2 r (List.mem_of_getElem? HR.out)
                    rw [show ((CW : Int)).toNat = CW from rfl] at h1
                    have h2 := PN.bit_ge (a := r) (n := CW) (i := i) (by simpa using h1) hi1
                    rw [HBB.out] at h2
                    cases h2)
                  go_wp2
                  go_ret
                  exact ⟨by rw [HA1.out]; rfl, by rw [HA1.out]; exact HPZ.out, HFZ.out⟩
                | false =>
                  have HI2 : Hid (∀ j, CW ≤ j → j < i + 1 → r.testBit j = false) := Lib.hid fun j h1 h2 => by
                    by_cases e : j = i
                    · subst e
                      exact HBB.out
                    · exact HI.out j h1 (by omega)
                  go_wp2
                  go_roundw
                  case rel => exact ⟨by trivial, i + 1, by go_num, by omega, by omega, HI2⟩
                  case measure => simp [intOf]; omega
              · have hiz : ¬ (i : Int) < 64 := by omega
                have HJ2 : Hid (∀ j r, j < k + 1 → S[j]? = some r → r < 2 ^ CW) := Lib.hid fun j s h1 h2 => by
                  by_cases e : j = k
                  · subst e
                    obtain rfl := Option.some.inj (h2.symm.trans HR.out)
                    refine PN.lt_of_bits fun q hq => ?_
                    by_cases h3 : q < 64
                    · exact HI.out q hq (by omega)
                    · exact PN.bit_ge (n := 64) HRB.out (by omega)
                  · exact HJ.out j s (by omega) h2
                clear hi
                go_wp2
                go_roundw
                case rel => exact ⟨by trivial, k + 1, by go_num, hkn, HJ2⟩
                case measure => simp [intOf]; omega
          · have hkz : ¬ (k : Int) < (N : Int) := by omega
            have HSB : Hid (∀ r ∈ S, r < 2 ^ CW) := Lib.hid fun r hr => by
              obtain ⟨j, hj⟩ := List.getElem?_of_mem hr
              have := (List.getElem?_eq_some_iff.1 hj).1
              exact HJ.out j r (by have := HN.out; omega) hj
            have HA1 : Hid (A = if P.can N = N then (0, (P.pre X Y CW S N).done) else (52, P.pre X Y CW S (P.can N))) := Lib.hid (by
              rw [← HA.out]
              unfold Pn.wr
              rw [if_pos ⟨by rw [HPW.out, HRL.out]; exact HWI.out, by rw [HN.out], List.any_eq_false.2 fun r hr => by have := HSB.out r hr; simp; exact this⟩, HN.out]
              rfl)
            clear hkn HJ
            have hcan : Hid (P.can N ≤ N) := Lib.hid (by unfold Pn.can; split <;> omega)
            have HXZ : Hid (wz1.heap[C]? = some (.cells #[.int .i64 (X : Int), .int .i64 (Y : Int), .int .i64 (CW : Int), .int .i64 (N : Int)] 31 (0, 0))) := Lib.hid ((HB1.out.block C (Array.getElem?_eq_some_iff.1 HX1.out).1).trans HX1.out)
            have HY64 : Hid (Y + N ≤ RL) := Lib.hid (by omega)
            have HX64 : Hid (X + CW ≤ PW) := Lib.hid (by omega)
            go_upto_region 17 with fail
            clear z2 z3 z4 z5 h1 h2 h3 h4 h5 h6 h7 h8
            go_loopw [12] (fun v12 wr => ∃ k : Nat, v12 = .int .i64 (k : Int) ∧ k ≤ N ∧ Hid (k ≤ P.can N) ∧ Hid (RfAt wr b g (P.pre X Y CW S k)) ∧ Hid (FrS (FP b g) wz1 wr)) (fun v _ => N - (intOf v).toNat)
            case atStart => exact ⟨0, rfl, by omega, Lib.hid (by omega), Lib.hid (by rw [P.pre_zero]; exact HPZ.out), Lib.hid (FrS.refl _ _)⟩
            case round =>
              obtain ⟨k, rfl, hk, HK2, HP, HF⟩ := hrel
              obtain ⟨wo, hwo⟩ : ∃ wo, wo = wr := ⟨_, rfl⟩
              subst hwo
              have HXO : Hid (∀ U, FrS (FP b g) wo U → U.heap[C]? = some (.cells #[.int .i64 (X : Int), .int .i64 (Y : Int), .int .i64 (CW : Int), .int .i64 (N : Int)] 31 (0, 0))) := Lib.hid fun U hU => (HF.out.trans hU).nd HXZ.out (fun h => by have := HCB.out; rcases h with h | h; exact this.1 h; exact this.2 h)
              have z3 : wo.cell? ⟨C, 3, none⟩ = some (.int .i64 (N : Int)) := nd_cell (HXO.out wo (FrS.refl _ _)) rfl
              by_cases hkn : k < N
              · have hkz : (k : Int) < (N : Int) := by omega
                have hk0 : (0 : Int) ≤ (k : Int) := by omega
                have y2 : wo.cell? ⟨b, 2, none⟩ = some (.int .i64 (P.pre X Y CW S k).lv) := nd_cell HP.out.hd rfl
                by_cases hgo : P.fa = true ∧ P.left = k
                · obtain ⟨hfa, hl2⟩ := hgo
                  have HKE : Hid (P.can N = k) := Lib.hid (by unfold Pn.can; rw [if_pos hfa]; omega)
                  have hlv : (P.pre X Y CW S k).lv = 0 := by
                    rw [P.pre_lv, if_pos hfa]
                    omega
                  have HA2 : Hid (A = (52, P.pre X Y CW S k)) := Lib.hid (by rw [HA1.out, HKE.out, if_neg (by omega)])
                  rw [hlv] at y2
                  clear hfa hl2 hlv
                  go_wp2
                  go_ret
                  exact ⟨by rw [HA2.out]; rfl, by rw [HA2.out]; exact HP.out, HFZ.out.trans HF.out⟩
                · have HK3 : Hid (k + 1 ≤ P.can N) := Lib.hid (by
                    have h0 := HK2.out
                    unfold Pn.can at h0 ⊢
                    by_cases hfa : P.fa = true
                    · rw [if_pos hfa] at h0 ⊢
                      have : P.left ≠ k := fun e => hgo ⟨hfa, e⟩
                      omega
                    · rw [if_neg hfa]
                      omega)
                  cases hfa : P.fa with
                  | false =>
                    have hlv : (P.pre X Y CW S k).lv = -1 := by
                      rw [P.pre_lv, hfa, if_neg Bool.false_ne_true]
                    have HPW2 : Hid (RfAt wo b g (P.pw X Y CW S k)) := Lib.hid (HP.out.same (by unfold Pn.pre Pn.pw; rw [hfa, if_neg Bool.false_ne_true, if_neg Bool.false_ne_true]))
                    have HFW2 := HF
                    rw [hlv] at y2
                    obtain ⟨wq, hwq⟩ : ∃ wq, wq = wo := ⟨_, rfl⟩
                    subst hwq
                    clear hfa hgo hlv
                    go_upto_region 23 with fail
                    have hrl : Y + k < RL := by have := HY64.out; omega
                    obtain ⟨old, hold⟩ : ∃ old, P.R[Y + k]? = some old := ⟨_, List.getElem?_eq_getElem (by rw [HRL.out]; exact hrl)⟩
                    have HOB : Hid (old < 2 ^ 64) := Lib.hid (Nat.lt_of_lt_of_le (HPO.out.bits old (List.mem_of_getElem? hold)) (Nat.pow_le_pow_right (n := 2) (by decide) HPO.out.w64))
                    obtain ⟨r, hr⟩ : ∃ r, S[k]? = some r := ⟨_, List.getElem?_eq_getElem (by rw [HN.out]; exact hkn)⟩
                    have HR := Lib.hid hr
                    have HRB := Lib.hid (HBT.out r (List.mem_of_getElem? hr))
                    have HRW := Lib.hid (HSB.out r (List.mem_of_getElem? hr))
                    have HNV : Hid (∀ q, (Value.slice va N vc).ownBlock = some q → ¬ FP b g q) := Lib.hid (fun q e h => by have := HV.out q e; rcases h with h | h; exact this.1 h; exact this.2 h)
                    obtain ⟨g1, o1, rfl, -, -⟩ := HS2.out.cell hr
                    have HCR : Hid (∀ U, FrS (FP b g) wz1 U → U.cell? ⟨g1, o1 + k, none⟩ = some (U6 r)) := Lib.hid fun U hU => by
                      obtain ⟨g2, o2, e, -, h3⟩ := (HS2.out.frame hU HNV.out).cell HR.out
                      injection e with e
                      injection e with e1 e2
                      subst e1 e2
                      exact h3
                    obtain ⟨p, hp⟩ : ∃ p, Y + k = p := ⟨_, rfl⟩
                    rw [hp] at hrl
                    have HPI0 : Hid (RfAt wq b g (P.pi X Y CW S k old r 0)) := Lib.hid (HPW2.out.same (by
                      unfold Pn.pw Pn.pi
                      rw [PN.ins_zero HOB.out (by have := HX64.out; omega)]
                      congr 1
                      refine List.ext_getElem? fun j => ?_
                      rw [List.getElem?_set]
                      by_cases e : Y + k = j
                      · subst e
                        rw [if_pos rfl, PN.wrt_here, hold, if_pos (by rw [PN.wrt_len, HRL.out]; omega)]
                      · rw [if_neg e]))
                    have HPIE : Hid (P.pi X Y CW S k old r CW = P.pre X Y CW S (k + 1)) := Lib.hid (by
                      unfold Pn.pi Pn.pre
                      rw [PN.wrt_succ S k Y X CW P.R (by rw [HRL.out]; omega), List.getD_eq_getElem?_getD, hold, List.getD_eq_getElem?_getD, HR.out, Nat.mod_eq_of_lt HRW.out]
                      rfl)
                    have HPP := Lib.hid hp
                    have hik : ((Y : Int) + (k : Int)) = (p : Int) := by omega
                    have hi1 : (0 : Int) ≤ (p : Int) := by omega
                    have hi2 : (p : Int) < (RL : Int) := by omega
                    have hiw : IntKind.i64.wrap ((Y : Int) + (k : Int)) = (p : Int) := by rw [IntKind.wrap_i64]; omega
                    have hip : IntKind.i64.wrap (p : Int) = (p : Int) := by rw [IntKind.wrap_i64]; omega
                    clear hr hp hold y2 z3
                    go_upto_region 24 with fail
                    go_loopw [13] (fun v13 wr => ∃ i : Nat, v13 = .int .i64 (i : Int) ∧ i ≤ CW ∧ Hid (RfAt wr b g (P.pi X Y CW S k old r i)) ∧ Hid (FrS (FP b g) wz1 wr)) (fun v _ => CW - (intOf v).toNat)
                    case atStart => exact ⟨0, rfl, by omega, HPI0, HFW2⟩
                    case round =>
                      obtain ⟨i, rfl, hi, HPI, HFI⟩ := hrel
                      have HXX : Hid (wr.heap[C]? = some (.cells #[.int .i64 (X : Int), .int .i64 (Y : Int), .int .i64 (CW : Int), .int .i64 (N : Int)] 31 (0, 0))) := Lib.hid (HFI.out.nd HXZ.out (fun h => by have := HCB.out; rcases h with h | h; exact this.1 h; exact this.2 h))
                      have x2 : wr.cell? ⟨C, 2, none⟩ = some (.int .i64 (CW : Int)) := nd_cell HXX.out rfl
                      by_cases hic : i < CW
                      · have hicz : (i : Int) < (CW : Int) := by omega
                        have hxi64 : X + i < 64 := by have := HX64.out; omega
                        have hi64 : i < 64 := by omega
                        obtain ⟨cur, hcur⟩ : ∃ cur, PN.ins old (r % 2 ^ i) X i = cur := ⟨_, rfl⟩
                        have HCU := Lib.hid hcur
                        have hcur64 : cur < 18446744073709551616 := by
                          rw [← hcur]
                          exact PN.ins_lt HOB.out (by decide) (Nat.mod_lt _ Nat.one_le_two_pow) (by omega)
                        have hdr := Below.drew (Below.refl wr.heap.size wr)
                        have HXD : Hid (wr.drew.heap[C]? = some (.cells #[.int .i64 (X : Int), .int .i64 (Y : Int), .int .i64 (CW : Int), .int .i64 (N : Int)] 31 (0, 0))) := Lib.hid ((hdr.block C (Array.getElem?_eq_some_iff.1 HXX.out).1).trans HXX.out)
                        have HPD := Lib.hid (HPI.out.below hdr)
                        have HFD : Hid (FrS (FP b g) wz1 wr.drew) := Lib.hid (HFI.out.then hdr)
                        have HKD : Hid (wr.drew.cell? ⟨b, 1, none⟩ = some (.slice (some ⟨g, 0, none⟩) RL RL) ∧ wr.drew.cell? ⟨C, 0, none⟩ = some (.int .i64 (X : Int)) ∧ wr.drew.cell? ⟨C, 1, none⟩ = some (.int .i64 (Y : Int)) ∧ wr.drew.cell? ⟨g, p, none⟩ = some (U6 cur) ∧ wr.drew.frozen? ⟨g, p, none⟩ = false ∧ wr.drew.cell? ⟨g1, o1 + k, none⟩ = some (U6 r)) := Lib.hid (by
                          refine ⟨?_, nd_cell HXD.out rfl, nd_cell HXD.out rfl, ?_, nd_froz HPD.out.row _, HCR.out _ HFD.out⟩
                          · have := nd_cell (i := 1) (v := .slice (some ⟨g, 0, none⟩) (P.pi X Y CW S k old r i).R.length (P.pi X Y CW S k old r i).R.length) HPD.out.hd rfl
                            rw [P.pi_len, HRL.out] at this
                            exact this
                          · refine HPD.out.cell ?_
                            show ((PN.wrt S k Y X CW P.R).set (Y + k) _)[p]? = _
                            rw [HPP.out, HCU.out, List.getElem?_set, if_pos rfl, if_pos (by rw [PN.wrt_len, HRL.out]; exact hrl)])
                        have HBI := Lib.hid fun U => bit_any U r i HRB.out hi64
                        obtain ⟨B, hB⟩ : ∃ B, r.testBit i = B := ⟨_, rfl⟩
                        have HWI2 := Lib.hid fun U => with_any U cur (X + i) B hcur64 hxi64
                        have HST : Hid (PN.wit cur (X + i) B = PN.ins old (r % 2 ^ (i + 1)) X (i + 1)) := Lib.hid (by rw [← hcur, ← hB]; exact PN.ins_step HOB.out hxi64)
                        rw [hB] at HBI
                        obtain ⟨o, ho⟩ : ∃ o, PN.wit cur (X + i) B = o := ⟨_, rfl⟩
                        rw [ho] at HWI2 HST
                        have HPN : Hid (∀ U : World, RfAt U b g (P.pi X Y CW S k old r i) → RfAt (U.setCell ⟨g, p, none⟩ (U6 o)) b g (P.pi X Y CW S k old r (i + 1))) := Lib.hid fun U hU => by
                          refine ⟨?_, ?_, hU.ne⟩
                          · rw [Below.heap_setCell U ⟨g, p, none⟩ _ b hU.ne]
                            have h1 := hU.hd
                            rw [P.pi_len, ← P.pi_len X Y CW S k old r (i + 1)] at h1
                            exact h1
                          · rw [heap_setCell_same _ g p _ _ _ hU.row, PN.set_u64, HST.out]
                            show some (Obj.cells (((((PN.wrt S k Y X CW P.R).set (Y + k) _).set p _).map U6).toArray) _ _) = some (Obj.cells ((((PN.wrt S k Y X CW P.R).set (Y + k) _).map U6).toArray) _ _)
                            rw [← HPP.out, List.set_set]
                        obtain ⟨xi, hxi⟩ : ∃ xi, X + i = xi := ⟨_, rfl⟩
                        rw [hxi] at HWI2
                        have hxk : ((X : Int) + (i : Int)) = (xi : Int) := by omega
                        have hxw : IntKind.i64.wrap ((X : Int) + (i : Int)) = (xi : Int) := by rw [IntKind.wrap_i64]; omega
                        have hxv : IntKind.i64.wrap (xi : Int) = (xi : Int) := by rw [IntKind.wrap_i64]; omega
                        clear hcur hcur64 hdr hB ho hxi
                        go_upto_region 26 with fail
                        clear x2
                        refine wp_region_last #[{ dst := some 85, op := Op.move (Operand.tmp 0), type := 27, pos := "ref.go:76", after := #[], guard := none }, { dst := some 86, op := Op.nilCheck (Operand.tmp 85), type := 0, pos := "ref.go:76", after := #[{ on := 0, ground := Ground.data }], guard := none }, { dst := some 87, op := Op.fieldAddr 74 (Operand.tmp 86) 1, type := 0, pos := "ref.go:76", after := #[{ on := 1, ground := Ground.data }], guard := none }, { dst := some 88, op := Op.load 32 (Operand.tmp 87), type := 32, pos := "ref.go:76", after := #[{ on := 2, ground := Ground.data }], guard := none }, { dst := some 89, op := Op.fieldAddr 31 (Operand.tmp 4) 1, type := 0, pos := "ref.go:76", after := #[], guard := none }, { dst := some 90, op := Op.load 3 (Operand.tmp 89), type := 3, pos := "ref.go:76", after := #[{ on := 4, ground := Ground.data }], guard := none }, { dst := some 91, op := Op.move (Operand.tmp 12), type := 3, pos := "ref.go:76", after := #[], guard := none }, { dst := some 92, op := Op.binOp BinOp.add 3 (Operand.tmp 90) (Operand.tmp 91) 3, type := 3, pos := "ref.go:76", after := #[{ on := 5, ground := Ground.data }, { on := 6, ground := Ground.data }], guard := none }, { dst := some 93, op := Op.move (Operand.tmp 0), type := 27, pos := "ref.go:76", after := #[], guard := none }, { dst := some 94, op := Op.nilCheck (Operand.tmp 93), type := 0, pos := "ref.go:76", after := #[{ on := 8, ground := Ground.data }], guard := none }, { dst := some 95, op := Op.fieldAddr 74 (Operand.tmp 94) 1, type := 0, pos := "ref.go:76", after := #[{ on := 9, ground := Ground.data }], guard := none }, { dst := some 96, op := Op.load 32 (Operand.tmp 95), type := 32, pos := "ref.go:76", after := #[{ on := 10, ground := Ground.data }], guard := none }, { dst := some 97, op := Op.fieldAddr 31 (Operand.tmp 4) 1, type := 0, pos := "ref.go:76", after := #[], guard := none }, { dst := some 98, op := Op.load 3 (Operand.tmp 97), type := 3, pos := "ref.go:76", after := #[{ on := 12, ground := Ground.data }], guard := none }, { dst := some 99, op := Op.move (Operand.tmp 12), type := 3, pos := "ref.go:76", after := #[], guard := none }, { dst := some 100, op := Op.binOp BinOp.add 3 (Operand.tmp 98) (Operand.tmp 99) 3, type := 3, pos := "ref.go:76", after := #[{ on := 13, ground := Ground.data }, { on := 14, ground := Ground.data }], guard := none }, { dst := some 101, op := Op.indexAddr 32 (Operand.tmp 96) (Operand.tmp 100), type := 0, pos := "ref.go:76", after := #[{ on := 11, ground := Ground.data }, { on := 15, ground := Ground.data }], guard := none }, { dst := some 102, op := Op.load 63 (Operand.tmp 101), type := 63, pos := "ref.go:76", after := #[{ on := 16, ground := Ground.data }], guard := none }, { dst := some 103, op := Op.fieldAddr 31 (Operand.tmp 4) 0, type := 0, pos := "ref.go:76", after := #[], guard := none }, { dst := some 104, op := Op.load 3 (Operand.tmp 103), type := 3, pos := "ref.go:76", after := #[{ on := 18, ground := Ground.data }], guard := none }, { dst := some 105, op := Op.move (Operand.tmp 13), type := 3, pos := "ref.go:76", after := #[], guard := none }, { dst := some 106, op := Op.binOp BinOp.add 3 (Operand.tmp 104) (Operand.tmp 105) 3, type := 3, pos := "ref.go:76", after := #[{ on := 19, ground := Ground.data }, { on := 20, ground := Ground.data }], guard := none }, { dst := some 107, op := Op.move (Operand.tmp 2), type := 32, pos := "ref.go:76", after := #[], guard := none }, { dst := some 108, op := Op.move (Operand.tmp 12), type := 3, pos := "ref.go:76", after := #[], guard := none }, { dst := some 109, op := Op.indexAddr 32 (Operand.tmp 107) (Operand.tmp 108), type := 0, pos := "ref.go:76", after := #[{ on := 22, ground := Ground.data }, { on := 23, ground := Ground.data }], guard := none }, { dst := some 110, op := Op.load 63 (Operand.tmp 109), type := 63, pos := "ref.go:76", after := #[{ on := 24, ground := Ground.data }], guard := none }, { dst := some 111, op := Op.move (Operand.tmp 13), type := 3, pos := "ref.go:76", after := #[], guard := none }, { dst := some 112, op := Op.call { callee := Callee.value (Operand.func 50), args := #[Operand.tmp 110, Operand.tmp 111], argTypes := #[63, 3] }, type := 4, pos := "ref.go:76", after := #[{ on := 25, ground := Ground.data }, { on := 26, ground := Ground.data }], guard := none }, { dst := some 113, op := Op.call { callee := Callee.value (Operand.func 49), args := #[Operand.tmp 102, Operand.tmp 106, Operand.tmp 112], argTypes := #[63, 3, 4] }, type := 63, pos := "ref.go:76", after := #[{ on := 17, ground := Ground.data }, { on := 21, ground := Ground.data }, { on := 27, ground := Ground.data }, { on := 27, ground := Ground.chain }], guard := none }, { dst := some 114, op := Op.indexAddr 32 (Operand.tmp 88) (Operand.tmp 92), type := 0, pos := "ref.go:76", after := #[{ on := 3, ground := Ground.data }, { on := 7, ground := Ground.data }, { on := 0, ground := Ground.phase }, { on := 1, ground := Ground.phase }, { on := 2, ground := Ground.phase }, { on := 3, ground := Ground.phase }, { on := 4, ground := Ground.phase }, { on := 5, ground := Ground.phase }, { on := 6, ground := Ground.phase }, { on := 7, ground := Ground.phase }, { on := 8, ground := Ground.phase }, { on := 9, ground := Ground.phase }, { on := 10, ground := Ground.phase }, { on := 11, ground := Ground.phase }, { on := 12, ground := Ground.phase }, { on := 13, ground := Ground.phase }, { on := 14, ground := Ground.phase }, { on := 15, ground := Ground.phase }, { on := 16, ground := Ground.phase }, { on := 17, ground := Ground.phase }, { on := 18, ground := Ground.phase }, { on := 19, ground := Ground.phase }, { on := 20, ground := Ground.phase }, { on := 21, ground := Ground.phase }, { on := 22, ground := Ground.phase }, { on := 23, ground := Ground.phase }, { on := 24, ground := Ground.phase }, { on := 25, ground := Ground.phase }, { on := 26, ground := Ground.phase }, { on := 27, ground := Ground.phase }, { on := 28, ground := Ground.phase }], guard := none }] { dst := none, op := Op.store 63 (Operand.tmp 114) (Operand.tmp 113), type := 0, pos := "ref.go:76", after := #[{ on := 29, ground := Ground.data }, { on := 28, ground := Ground.data }, { on := 28, ground := Ground.chain }, { on := 0, ground := Ground.phase }, { on := 1, ground := Ground.phase }, { on := 2, ground := Ground.phase }, { on := 3, ground := Ground.phase }, { on := 4, ground := Ground.phase }, { on := 5, ground := Ground.phase }, { on := 6, ground := Ground.phase }, { on := 7, ground := Ground.phase }, { on := 8, ground := Ground.phase }, { on := 9, ground := Ground.phase }, { on := 10, ground := Ground.phase }, { on := 11, ground := Ground.phase }, { on := 12, ground := Ground.phase }, { on := 13, ground := Ground.phase }, { on := 14, ground := Ground.phase }, { on := 15, ground := Ground.phase }, { on := 16, ground := Ground.phase }, { on := 17, ground := Ground.phase }, { on := 18, ground := Ground.phase }, { on := 19, ground := Ground.phase }, { on := 20, ground := Ground.phase }, { on := 21, ground := Ground.phase }, { on := 22, ground := Ground.phase }, { on := 23, ground := Ground.phase }, { on := 24, ground := Ground.phase }, { on := 25, ground := Ground.phase }, { on := 26, ground := Ground.phase }, { on := 27, ground := Ground.phase }, { on := 28, ground := Ground.phase }], guard := none } rfl (by kernel_rfl) (by kernel_rfl) ((fun w' => w'.cell? ⟨b, 1, none⟩ = some (.slice (some ⟨g, 0, none⟩) RL RL) ∧ w'.cell? ⟨C, 0, none⟩ = some (.int .i64 (X : Int)) ∧ w'.cell? ⟨C, 1, none⟩ = some (.int .i64 (Y : Int)) ∧ w'.cell? ⟨g, p, none⟩ = some (U6 cur) ∧ w'.frozen? ⟨g, p, none⟩ = false ∧ w'.cell? ⟨g1, o1 + k, none⟩ = some (U6 r))) ?_ (fun hHeld => ?_)
                        · exact HKD.out
                        refine wpAnyH_take (i := 0) (oi := { dst := some 85, op := Op.move (Operand.tmp 0), type := 27, pos := "ref.go:76", after := #[], guard := none }) (v := ?_) rfl (by kernel_rfl) (by kernel_rfl) (by kernel_rfl) (fun _ _ _ h => h) (Or.inl ⟨by rfl, ?_⟩) (by assumption) ?_
                        rotate_left
                        · ((intro w hSw; (try dsimp only at hSw); go_simp; (try rw [if_neg (by omega)])); try with_reducible rfl)
                        (try simp only [Act.put, List.setIfInBounds_toArray, List.set_cons_zero, List.set_cons_succ])
                        refine wpAnyH_take (i := 1) (oi := { dst := some 86, op := Op.nilCheck (Operand.tmp 85), type := 0, pos := "ref.go:76", after := #[{ on := 0, ground := Ground.data }], guard := none }) (v := ?_) rfl (by kernel_rfl) (by kernel_rfl) (by kernel_rfl) (fun _ _ _ h => h) (Or.inl ⟨by rfl, ?_⟩) (by assumption) ?_
                        rotate_left
                        · ((intro w hSw; (try dsimp only at hSw); go_simp; (try rw [if_neg (by omega)])); try with_reducible rfl)
                        (try simp only [Act.put, List.setIfInBounds_toArray, List.set_cons_zero, List.set_cons_succ])
                        refine wpAnyH_take (i := 2) (oi := { dst := some 87, op := Op.fieldAddr 74 (Operand.tmp 86) 1, type := 0, pos := "ref.go:76", after := #[{ on := 1, ground := Ground.data }], guard := none }) (v := ?_) rfl (by kernel_rfl) (by kernel_rfl) (by kernel_rfl) (fun _ _ _ h => h) (Or.inl ⟨by rfl, ?_⟩) (by assumption) ?_
                        rotate_left
                        · ((intro w hSw; (try dsimp only at hSw); go_simp; (try rw [if_neg (by omega)])); try with_reducible rfl)
                        (try simp only [Act.put, List.setIfInBounds_toArray, List.set_cons_zero, List.set_cons_succ])
                        refine wpAnyH_take (i := 3) (oi := { dst := some 88, op := Op.load 32 (Operand.tmp 87), type := 32, pos := "ref.go:76", after := #[{ on := 2, ground := Ground.data }], guard := none }) (v := ?_) rfl (by kernel_rfl) (by kernel_rfl) (by kernel_rfl) (fun _ _ _ h => h) (Or.inl ⟨by rfl, ?_⟩) (by assumption) ?_
                        rotate_left
                        · ((intro w hSw; (try dsimp only at hSw); go_simp; (try rw [if_neg (by omega)])); try with_reducible rfl)
                        (try simp only [Act.put, List.setIfInBounds_toArray, List.set_cons_zero, List.set_cons_succ])
                        refine wpAnyH_take (i := 4) (oi := { dst := some 89, op := Op.fieldAddr 31 (Operand.tmp 4) 1, type := 0, pos := "ref.go:76", after := #[], guard := none }) (v := ?_) rfl (by kernel_rfl) (by kernel_rfl) (by kernel_rfl) (fun _ _ _ h => h) (Or.inl ⟨by rfl, ?_⟩) (by assumption) ?_
                        rotate_left
                        · ((intro w hSw; (try dsimp only at hSw); go_simp; (try rw [if_neg (by omega)])); try with_reducible rfl)
                        (try simp only [Act.put, List.setIfInBounds_toArray, List.set_cons_zero, List.set_cons_succ])
                        refine wpAnyH_take (i := 5) (oi := { dst := some 90, op := Op.load 3 (Operand.tmp 89), type := 3, pos := "ref.go:76", after := #[{ on := 4, ground := Ground.data }], guard := none }) (v := ?_) rfl (by kernel_rfl) (by kernel_rfl) (by kernel_rfl) (fun _ _ _ h => h) (Or.inl ⟨by rfl, ?_⟩) (by assumption) ?_
                        rotate_left
                        · ((intro w hSw; (try dsimp only at hSw); go_simp; (try rw [if_neg (by omega)])); try with_reducible rfl)
                        (try simp only [Act.put, List.setIfInBounds_toArray, List.set_cons_zero, List.set_cons_succ])
                        refine wpAnyH_take (i := 6) (oi := { dst := some 91, op := Op.move (Operand.tmp 12), type := 3, pos := "ref.go:76", after := #[], guard := none }) (v := ?_) rfl (by kernel_rfl) (by kernel_rfl) (by kernel_rfl) (fun _ _ _ h => h) (Or.inl ⟨by rfl, ?_⟩) (by assumption) ?_
                        rotate_left
                        · ((intro w hSw; (try dsimp only at hSw); go_simp; (try rw [if_neg (by omega)])); try with_reducible rfl)
                        (try simp only [Act.put, List.setIfInBounds_toArray, List.set_cons_zero, List.set_cons_succ])
                        refine wpAnyH_take (i := 7) (oi := { dst := some 92, op := Op.binOp BinOp.add 3 (Operand.tmp 90) (Operand.tmp 91) 3, type := 3, pos := "ref.go:76", after := #[{ on := 5, ground := Ground.data }, { on := 6, ground := Ground.data }], guard := none }) (v := ?_) rfl (by kernel_rfl) (by kernel_rfl) (by kernel_rfl) (fun _ _ _ h => h) (Or.inl ⟨by rfl, ?_⟩) (by assumption) ?_
                        rotate_left
                        · ((intro w hSw; (try dsimp only at hSw); go_simp; (try rw [if_neg (by omega)])); try with_reducible rfl)
                        (try simp only [Act.put, List.setIfInBounds_toArray, List.set_cons_zero, List.set_cons_succ])
                        refine wpAnyH_take (i := 8) (oi := { dst := some 93, op := Op.move (Operand.tmp 0), type := 27, pos := "ref.go:76", after := #[], guard := none }) (v := ?_) rfl (by kernel_rfl) (by kernel_rfl) (by kernel_rfl) (fun _ _ _ h => h) (Or.inl ⟨by rfl, ?_⟩) (by assumption) ?_
                        rotate_left
                        · ((intro w hSw; (try dsimp only at hSw); go_simp; (try rw [if_neg (by omega)])); try with_reducible rfl)
                        (try simp only [Act.put, List.setIfInBounds_toArray, List.set_cons_zero, List.set_cons_succ])
                        refine wpAnyH_take (i := 9) (oi := { dst := some 94, op := Op.nilCheck (Operand.tmp 93), type := 0, pos := "ref.go:76", after := #[{ on := 8, ground := Ground.data }], guard := none }) (v := ?_) rfl (by kernel_rfl) (by kernel_rfl) (by kernel_rfl) (fun _ _ _ h => h) (Or.inl ⟨by rfl, ?_⟩) (by assumption) ?_
                        rotate_left
                        · ((intro w hSw; (try dsimp only at hSw); go_simp; (try rw [if_neg (by omega)])); try with_reducible rfl)
                        (try simp only [Act.put, List.setIfInBounds_toArray, List.set_cons_zero, List.set_cons_succ])
                        refine wpAnyH_take (i := 10) (oi := { dst := some 95, op := Op.fieldAddr 74 (Operand.tmp 94) 1, type := 0, pos := "ref.go:76", after := #[{ on := 9, ground := Ground.data }], guard := none }) (v := ?_) rfl (by kernel_rfl) (by kernel_rfl) (by kernel_rfl) (fun _ _ _ h => h) (Or.inl ⟨by rfl, ?_⟩) (by assumption) ?_
                        rotate_left
                        · ((intro w hSw; (try dsimp only at hSw); go_simp; (try rw [if_neg (by omega)])); try with_reducible rfl)
                        (try simp only [Act.put, List.setIfInBounds_toArray, List.set_cons_zero, List.set_cons_succ])
                        refine wpAnyH_take (i := 11) (oi := { dst := some 96, op := Op.load 32 (Operand.tmp 95), type := 32, pos := "ref.go:76", after := #[{ on := 10, ground := Ground.data }], guard := none }) (v := ?_) rfl (by kernel_rfl) (by kernel_rfl) (by kernel_rfl) (fun _ _ _ h => h) (Or.inl ⟨by rfl, ?_⟩) (by assumption) ?_
                        rotate_left
                        · ((intro w hSw; (try dsimp only at hSw); go_simp; (try rw [if_neg (by omega)])); try with_reducible rfl)
                        (try simp only [Act.put, List.setIfInBounds_toArray, List.set_cons_zero, List.set_cons_succ])
                        refine wpAnyH_take (i := 12) (oi := { dst := some 97, op := Op.fieldAddr 31 (Operand.tmp 4) 1, type := 0, pos := "ref.go:76", after := #[], guard := none }) (v := ?_) rfl (by kernel_rfl) (by kernel_rfl) (by kernel_rfl) (fun _ _ _ h => h) (Or.inl ⟨by rfl, ?_⟩) (by assumption) ?_
                        rotate_left
                        · ((intro w hSw; (try dsimp only at hSw); go_simp; (try rw [if_neg (by omega)])); try with_reducible rfl)
                        (try simp only [Act.put, List.setIfInBounds_toArray, List.set_cons_zero, List.set_cons_succ])
                        refine wpAnyH_take (i := 13) (oi := { dst := some 98, op := Op.load 3 (Operand.tmp 97), type := 3, pos := "ref.go:76", after := #[{ on := 12, ground := Ground.data }], guard := none }) (v := ?_) rfl (by kernel_rfl) (by kernel_rfl) (by kernel_rfl) (fun _ _ _ h => h) (Or.inl ⟨by rfl, ?_⟩) (by assumption) ?_
                        rotate_left
                        · ((intro w hSw; (try dsimp only at hSw); go_simp; (try rw [if_neg (by omega)])); try with_reducible rfl)
                        (try simp only [Act.put, List.setIfInBounds_toArray, List.set_cons_zero, List.set_cons_succ])
                        refine wpAnyH_take (i := 14) (oi := { dst := some 99, op := Op.move (Operand.tmp 12), type := 3, pos := "ref.go:76", after := #[], guard := none }) (v := ?_) rfl (by kernel_rfl) (by kernel_rfl) (by kernel_rfl) (fun _ _ _ h => h) (Or.inl ⟨by rfl, ?_⟩) (by assumption) ?_
                        rotate_left
                        · ((intro w hSw; (try dsimp only at hSw); go_simp; (try rw [if_neg (by omega)])); try with_reducible rfl)
                        (try simp only [Act.put, List.setIfInBounds_toArray, List.set_cons_zero, List.set_cons_succ])
                        refine wpAnyH_take (i := 15) (oi := { dst := some 100, op := Op.binOp BinOp.add 3 (Operand.tmp 98) (Operand.tmp 99) 3, type := 3, pos := "ref.go:76", after := #[{ on := 13, ground := Ground.data }, { on := 14, ground := Ground.data }], guard := none }) (v := ?_) rfl (by kernel_rfl) (by kernel_rfl) (by kernel_rfl) (fun _ _ _ h => h) (Or.inl ⟨by rfl, ?_⟩) (by assumption) ?_
                        rotate_left
                        · ((intro w hSw; (try dsimp only at hSw); go_simp; (try rw [if_neg (by omega)])); try with_reducible rfl)
                        (try simp only [Act.put, List.setIfInBounds_toArray, List.set_cons_zero, List.set_cons_succ])
                        refine wpAnyH_take (i := 16) (oi := { dst := some 101, op := Op.indexAddr 32 (Operand.tmp 96) (Operand.tmp 100), type := 0, pos := "ref.go:76", after := #[{ on := 11, ground := Ground.data }, { on := 15, ground := Ground.data }], guard := none }) (v := ?_) rfl (by kernel_rfl) (by kernel_rfl) (by kernel_rfl) (fun _ _ _ h => h) (Or.inl ⟨by rfl, ?_⟩) (by assumption) ?_
                        rotate_left
                        · ((intro w hSw; (try dsimp only at hSw); go_simp; (try rw [if_neg (by omega)])); try with_reducible rfl)
                        (try simp only [Act.put, List.setIfInBounds_toArray, List.set_cons_zero, List.set_cons_succ])
                        refine wpAnyH_take (i := 17) (oi := { dst := some 102, op := Op.load 63 (Operand.tmp 101), type := 63, pos := "ref.go:76", after := #[{ on := 16, ground := Ground.data }], guard := none }) (v := ?_) rfl (by kernel_rfl) (by kernel_rfl) (by kernel_rfl) (fun _ _ _ h => h) (Or.inl ⟨by rfl, ?_⟩) (by assumption) ?_
                        rotate_left
                        · ((intro w hSw; (try dsimp only at hSw); go_simp; (try rw [if_neg (by omega)])); try with_reducible rfl)
                        (try simp only [Act.put, List.setIfInBounds_toArray, List.set_cons_zero, List.set_cons_succ])
                        refine wpAnyH_take (i := 18) (oi := { dst := some 103, op := Op.fieldAddr 31 (Operand.tmp 4) 0, type := 0, pos := "ref.go:76", after := #[], guard := none }) (v := ?_) rfl (by kernel_rfl) (by kernel_rfl) (by kernel_rfl) (fun _ _ _ h => h) (Or.inl ⟨by rfl, ?_⟩) (by assumption) ?_
                        rotate_left
                        · ((intro w hSw; (try dsimp only at hSw); go_simp; (try rw [if_neg (by omega)])); try with_reducible rfl)
                        (try simp only [Act.put, List.setIfInBounds_toArray, List.set_cons_zero, List.set_cons_succ])
                        refine wpAnyH_take (i := 19) (oi := { dst := some 104, op := Op.load 3 (Operand.tmp 103), type := 3, pos := "ref.go:76", after := #[{ on := 18, ground := Ground.data }], guard := none }) (v := ?_) rfl (by kernel_rfl) (by kernel_rfl) (by kernel_rfl) (fun _ _ _ h => h) (Or.inl ⟨by rfl, ?_⟩) (by assumption) ?_
                        rotate_left
                        · ((intro w hSw; (try dsimp only at hSw); go_simp; (try rw [if_neg (by omega)])); try with_reducible rfl)
                        (try simp only [Act.put, List.setIfInBounds_toArray, List.set_cons_zero, List.set_cons_succ])
                        refine wpAnyH_take (i := 20) (oi := { dst := some 105, op := Op.move (Operand.tmp 13), type := 3, pos := "ref.go:76", after := #[], guard := none }) (v := ?_) rfl (by kernel_rfl) (by kernel_rfl) (by kernel_rfl) (fun _ _ _ h => h) (Or.inl ⟨by rfl, ?_⟩) (by assumption) ?_
                        rotate_left
                        · ((intro w hSw; (try dsimp only at hSw); go_simp; (try rw [if_neg (by omega)])); try with_reducible rfl)
                        (try simp only [Act.put, List.setIfInBounds_toArray, List.set_cons_zero, List.set_cons_succ])
                        refine wpAnyH_take (i := 21) (oi := { dst := some 106, op := Op.binOp BinOp.add 3 (Operand.tmp 104) (Operand.tmp 105) 3, type := 3, pos := "ref.go:76", after := #[{ on := 19, ground := Ground.data }, { on := 20, ground := Ground.data }], guard := none }) (v := ?_) rfl (by kernel_rfl) (by kernel_rfl) (by kernel_rfl) (fun _ _ _ h => h) (Or.inl ⟨by rfl, ?_⟩) (by assumption) ?_
                        rotate_left
                        · ((intro w hSw; (try dsimp only at hSw); go_simp; (try rw [if_neg (by omega)])); try with_reducible rfl)
                        (try simp only [Act.put, List.setIfInBounds_toArray, List.set_cons_zero, List.set_cons_succ])
                        refine wpAnyH_take (i := 22) (oi := { dst := some 107, op := Op.move (Operand.tmp 2), type := 32, pos := "ref.go:76", after := #[], guard := none }) (v := ?_) rfl (by kernel_rfl) (by kernel_rfl) (by kernel_rfl) (fun _ _ _ h => h) (Or.inl ⟨by rfl, ?_⟩) (by assumption) ?_
                        rotate_left
                        · ((intro w hSw; (try dsimp only at hSw); go_simp; (try rw [if_neg (by omega)])); try with_reducible rfl)
                        (try simp only [Act.put, List.setIfInBounds_toArray, List.set_cons_zero, List.set_cons_succ])
                        refine wpAnyH_take (i := 23) (oi := { dst := some 108, op := Op.move (Operand.tmp 12), type := 3, pos := "ref.go:76", after := #[], guard := none }) (v := ?_) rfl (by kernel_rfl) (by kernel_rfl) (by kernel_rfl) (fun _ _ _ h => h) (Or.inl ⟨by rfl, ?_⟩) (by assumption) ?_
                        rotate_left
                        · ((intro w hSw; (try dsimp only at hSw); go_simp; (try rw [if_neg (by omega)])); try with_reducible rfl)
                        (try simp only [Act.put, List.setIfInBounds_toArray, List.set_cons_zero, List.set_cons_succ])
                        refine wpAnyH_take (i := 24) (oi := { dst := some 109, op := Op.indexAddr 32 (Operand.tmp 107) (Operand.tmp 108), type := 0, pos := "ref.go:76", after := #[{ on := 22, ground := Ground.data }, { on := 23, ground := Ground.data }], guard := none }) (v := ?_) rfl (by kernel_rfl) (by kernel_rfl) (by kernel_rfl) (fun _ _ _ h => h) (Or.inl ⟨by rfl, ?_⟩) (by assumption) ?_
                        rotate_left
                        · ((intro w hSw; (try dsimp only at hSw); go_simp; (try rw [if_neg (by omega)])); try with_reducible rfl)
                        (try simp only [Act.put, List.setIfInBounds_toArray, List.set_cons_zero, List.set_cons_succ])
                        refine wpAnyH_take (i := 25) (oi := { dst := some 110, op := Op.load 63 (Operand.tmp 109), type := 63, pos := "ref.go:76", after := #[{ on := 24, ground := Ground.data }], guard := none }) (v := ?_) rfl (by kernel_rfl) (by kernel_rfl) (by kernel_rfl) (fun _ _ _ h => h) (Or.inl ⟨by rfl, ?_⟩) (by assumption) ?_
                        rotate_left
                        · ((intro w hSw; (try dsimp only at hSw); go_simp; (try rw [if_neg (by omega)])); try with_reducible rfl)
                        (try simp only [Act.put, List.setIfInBounds_toArray, List.set_cons_zero, List.set_cons_succ])
                        refine wpAnyH_take (i := 26) (oi := { dst := some 111, op := Op.move (Operand.tmp 13), type := 3, pos := "ref.go:76", after := #[], guard := none }) (v := ?_) rfl (by kernel_rfl) (by kernel_rfl) (by kernel_rfl) (fun _ _ _ h => h) (Or.inl ⟨by rfl, ?_⟩) (by assumption) ?_
                        rotate_left
                        · ((intro w hSw; (try dsimp only at hSw); go_simp; (try rw [if_neg (by omega)])); try with_reducible rfl)
                        (try simp only [Act.put, List.setIfInBounds_toArray, List.set_cons_zero, List.set_cons_succ])
                        refine wpAnyH_ready (rs := [27]) (by kernel_rfl) (by simp) ?_
                        refine AllReadyH.cons (o := { dst := some 112, op := Op.call { callee := Callee.value (Operand.func 50), args := #[Operand.tmp 110, Operand.tmp 111], argTypes := #[63, 3] }, type := 4, pos := "ref.go:76", after := #[{ on := 25, ground := Ground.data }, { on := 26, ground := Ground.data }], guard := none }) rfl (fun K hK => ?_) AllReadyH.nil
                        (go_simp; go_at_call 50; refine (HBI.out _).mono ?_; rintro u wz ⟨rfl, he⟩; have he' := he.symm; subst he'; dsimp only)
                        refine hK.out _ _ ?_ (fun hHeld => ?_)
                        · exact HKD.out
                        clear hK K
                        (try simp only [Act.put, List.setIfInBounds_toArray, List.set_cons_zero, List.set_cons_succ])
                        refine wpAnyH_ready (rs := [28]) (by kernel_rfl) (by simp) ?_
                        refine AllReadyH.cons (o := { dst := some 113, op := Op.call { callee := Callee.value (Operand.func 49), args := #[Operand.tmp 102, Operand.tmp 106, Operand.tmp 112], argTypes := #[63, 3, 4] }, type := 63, pos := "ref.go:76", after := #[{ on := 17, ground := Ground.data }, { on := 21, ground := Ground.data }, { on := 27, ground := Ground.data }, { on := 27, ground := Ground.chain }], guard := none }) rfl (fun K hK => ?_) AllReadyH.nil
                        (go_simp; go_at_call 49; refine (HWI2.out _).mono ?_; rintro u wz ⟨rfl, he⟩; have he' := he.symm; subst he'; dsimp only)
                        refine hK.out _ _ ?_ (fun hHeld => ?_)
                        · exact HKD.out
                        clear hK K
                        (try simp only [Act.put, List.setIfInBounds_toArray, List.set_cons_zero, List.set_cons_succ])
                        refine wpAnyH_take (i := 29) (oi := { dst := some 114, op := Op.indexAddr 32 (Operand.tmp 88) (Operand.tmp 92), type := 0, pos := "ref.go:76", after := #[{ on := 3, ground := Ground.data }, { on := 7, ground := Ground.data }, { on := 0, ground := Ground.phase }, { on := 1, ground := Ground.phase }, { on := 2, ground := Ground.phase }, { on := 3, ground := Ground.phase }, { on := 4, ground := Ground.phase }, { on := 5, ground := Ground.phase }, { on := 6, ground := Ground.phase }, { on := 7, ground := Ground.phase }, { on := 8, ground := Ground.phase }, { on := 9, ground := Ground.phase }, { on := 10, ground := Ground.phase }, { on := 11, ground := Ground.phase }, { on := 12, ground := Ground.phase }, { on := 13, ground := Ground.phase }, { on := 14, ground := Ground.phase }, { on := 15, ground := Ground.phase }, { on := 16, ground := Ground.phase }, { on := 17, ground := Ground.phase }, { on := 18, ground := Ground.phase }, { on := 19, ground := Ground.phase }, { on := 20, ground := Ground.phase }, { on := 21, ground := Ground.phase }, { on := 22, ground := Ground.phase }, { on := 23, ground := Ground.phase }, { on := 24, ground := Ground.phase }, { on := 25, ground := Ground.phase }, { on := 26, ground := Ground.phase }, { on := 27, ground := Ground.phase }, { on := 28, ground := Ground.phase }], guard := none }) (v := ?_) rfl (by kernel_rfl) (by kernel_rfl) (by kernel_rfl) (fun _ _ _ h => h) (Or.inl ⟨by rfl, ?_⟩) (by assumption) ?_
                        rotate_left
                        · ((intro w hSw; (try dsimp only at hSw); go_simp; (try rw [if_neg (by omega)])); try with_reducible rfl)
                        (try simp only [Act.put, List.setIfInBounds_toArray, List.set_cons_zero, List.set_cons_succ])
                        refine wpAnyH_done (by kernel_rfl) ?_ _
                        show Oper.wp _ _ _ _ _ _
                        have HE := Lib.hid (HPN.out _ HPD.out)
                        clear hHeld
                        go_simp
                        go_wp2
                        go_roundw
                        case rel => exact ⟨i + 1, by go_num, hic, HE, Lib.hid (HFD.out.trans (FrS.set _ (.inr rfl) _))⟩
                        case measure => simp [intOf]; omega
                      · obtain rfl : i = CW := by omega
                        have HPE : Hid (RfAt wr b g (P.pre X Y i S (k + 1))) := Lib.hid (HPI.out.same HPIE.out)
                        have hicz : ¬ (i : Int) < (i : Int) := by omega
                        clear hic
                        go_wp2
                        go_roundw
                        case rel => exact ⟨k + 1, by go_num, hkn, HK3, HPE, HFI⟩
                        case measure => simp [intOf]; omega
                  | true =>
                    have hlk : P.left ≠ k := fun e => hgo ⟨hfa, e⟩
                    have hlk2 : k ≤ P.left := by have := HK2.out; unfold Pn.can at this; rw [if_pos hfa] at this; omega
                    obtain ⟨n, hn⟩ : ∃ n, P.left = k + n + 1 := ⟨P.left - k - 1, by omega⟩
                    have hlv : (P.pre X Y CW S k).lv = ((n + 1 : Nat) : Int) := by
                      rw [P.pre_lv, if_pos hfa]
                      omega
                    rw [hlv] at y2
                    have f2 := nd_froz HP.out.hd 2
                    have hn63 : n < 9223372036854775807 := by have := HPO.out.left; omega
                    have HE : Hid (RfAt (wo.setCell ⟨b, 2, none⟩ (.int .i64 (n : Int))) b g (P.pw X Y CW S k) ∧ FrS (FP b g) wo (wo.setCell ⟨b, 2, none⟩ (.int .i64 (n : Int)))) := Lib.hid (by
                      refine ⟨⟨?_, ?_, HP.out.ne⟩, FrS.set _ (.inl rfl) _⟩
                      · rw [heap_setCell_same _ b 2 _ _ _ HP.out.hd]
                        have hl3 : (P.pw X Y CW S k).lv = (n : Int) := by
                          rw [P.pw_lv, if_pos hfa]
                          omega
                        rw [hl3]
                        rfl
                      · rw [Below.heap_setCell _ ⟨b, 2, none⟩ _ g (fun e => HP.out.ne e.symm)]
                        exact HP.out.row)
                    have hz1 : (((n + 1 : Nat) : Int) == 0) = false := by simp; omega
                    have hz2 : ((n : Int) + 1 == 0) = false := by simp; omega
                    have hz3 : ((n + 1 : Nat) : Int) > 0 := by omega
                    clear hfa hgo hlv hlk hlk2 hn
                    go_upto_region 23 with fail
                    obtain ⟨wq, hwq⟩ : ∃ wq, wo.setCell ⟨b, 2, none⟩ (.int .i64 (n : Int)) = wq := ⟨_, rfl⟩
                    have hE := HE.out
                    rw [hwq] at hE
                    have HPW2 := Lib.hid hE.1
                    have HFW2 : Hid (FrS (FP b g) wz1 wq) := Lib.hid (HF.out.trans hE.2)
                    try rw [hwq]
                    clear hE hwq HE hz1 hz2 hz3 f2 hn63
                    have hrl : Y + k < RL := by have := HY64.out; omega
                    obtain ⟨old, hold⟩ : ∃ old, P.R[Y + k]? = some old := ⟨_, List.getElem?_eq_getElem (by rw [HRL.out]; exact hrl)⟩
                    have HOB : Hid (old < 2 ^ 64) := Lib.hid (Nat.lt_of_lt_of_le (HPO.out.bits old (List.mem_of_getElem? hold)) (Nat.pow_le_pow_right (n := 2) (by decide) HPO.out.w64))
                    obtain ⟨r, hr⟩ : ∃ r, S[k]? = some r := ⟨_, List.getElem?_eq_getElem (by rw [HN.out]; exact hkn)⟩
                    have HR := Lib.hid hr
                    have HRB := Lib.hid (HBT.out r (List.mem_of_getElem? hr))
                    have HRW := Lib.hid (HSB.out r (List.mem_of_getElem? hr))
                    have HNV : Hid (∀ q, (Value.slice va N vc).ownBlock = some q → ¬ FP b g q) := Lib.hid (fun q e h => by have := HV.out q e; rcases h with h | h; exact this.1 h; exact this.2 h)
                    obtain ⟨g1, o1, rfl, -, -⟩ := HS2.out.cell hr
                    have HCR : Hid (∀ U, FrS (FP b g) wz1 U → U.cell? ⟨g1, o1 + k, none⟩ = some (U6 r)) := Lib.hid fun U hU => by
                      obtain ⟨g2, o2, e, -, h3⟩ := (HS2.out.frame hU HNV.out).cell HR.out
                      injection e with e
                      injection e with e1 e2
                      subst e1 e2
                      exact h3
                    obtain ⟨p, hp⟩ : ∃ p, Y + k = p := ⟨_, rfl⟩
                    rw [hp] at hrl
                    have HPI0 : Hid (RfAt wq b g (P.pi X Y CW S k old r 0)) := Lib.hid (HPW2.out.same (by
                      unfold Pn.pw Pn.pi
                      rw [PN.ins_zero HOB.out (by have := HX64.out; omega)]
                      congr 1
                      refine List.ext_getElem? fun j => ?_
                      rw [List.getElem?_set]
                      by_cases e : Y + k = j
                      · subst e
                        rw [if_pos rfl, PN.wrt_here, hold, if_pos (by rw [PN.wrt_len, HRL.out]; omega)]
                      · rw [if_neg e]))
                    have HPIE : Hid (P.pi X Y CW S k old r CW = P.pre X Y CW S (k + 1)) := Lib.hid (by
                      unfold Pn.pi Pn.pre
                      rw [PN.wrt_succ S k Y X CW P.R (by rw [HRL.out]; omega), List.getD_eq_getElem?_getD, hold, List.getD_eq_getElem?_getD, HR.out, Nat.mod_eq_of_lt HRW.out]
                      rfl)
                    have HPP := Lib.hid hp
                    have hik : ((Y : Int) + (k : Int)) = (p : Int) := by omega
                    have hi1 : (0 : Int) ≤ (p : Int) := by omega
                    have hi2 : (p : Int) < (RL : Int) := by omega
                    have hiw : IntKind.i64.wrap ((Y : Int) + (k : Int)) = (p : Int) := by rw [IntKind.wrap_i64]; omega
                    have hip : IntKind.i64.wrap (p : Int) = (p : Int) := by rw [IntKind.wrap_i64]; omega
                    clear hr hp hold y2 z3
                    go_upto_region 24 with fail
                    go_loopw [13] (fun v13 wr => ∃ i : Nat, v13 = .int .i64 (i : Int) ∧ i ≤ CW ∧ Hid (RfAt wr b g (P.pi X Y CW S k old r i)) ∧ Hid (FrS (FP b g) wz1 wr)) (fun v _ => CW - (intOf v).toNat)
                    case atStart => exact ⟨0, rfl, by omega, HPI0, HFW2⟩
                    case round =>
                      obtain ⟨i, rfl, hi, HPI, HFI⟩ := hrel
                      have HXX : Hid (wr.heap[C]? = some (.cells #[.int .i64 (X : Int), .int .i64 (Y : Int), .int .i64 (CW : Int), .int .i64 (N : Int)] 31 (0, 0))) := Lib.hid (HFI.out.nd HXZ.out (fun h => by have := HCB.out; rcases h with h | h; exact this.1 h; exact this.2 h))
                      have x2 : wr.cell? ⟨C, 2, none⟩ = some (.int .i64 (CW : Int)) := nd_cell HXX.out rfl
                      by_cases hic : i < CW
                      · have hicz : (i : Int) < (CW : Int) := by omega
                        have hxi64 : X + i < 64 := by have := HX64.out; omega
                        have hi64 : i < 64 := by omega
                        obtain ⟨cur, hcur⟩ : ∃ cur, PN.ins old (r % 2 ^ i) X i = cur := ⟨_, rfl⟩
                        have HCU := Lib.hid hcur
                        have hcur64 : cur < 18446744073709551616 := by
                          rw [← hcur]
                          exact PN.ins_lt HOB.out (by decide) (Nat.mod_lt _ Nat.one_le_two_pow) (by omega)
                        have hdr := Below.drew (Below.refl wr.heap.size wr)
                        have HXD : Hid (wr.drew.heap[C]? = some (.cells #[.int .i64 (X : Int), .int .i64 (Y : Int), .int .i64 (CW : Int), .int .i64 (N : Int)] 31 (0, 0))) := Lib.hid ((hdr.block C (Array.getElem?_eq_some_iff.1 HXX.out).1).trans HXX.out)
                        have HPD := Lib.hid (HPI.out.below hdr)
                        have HFD : Hid (FrS (FP b g) wz1 wr.drew) := Lib.hid (HFI.out.then hdr)
                        have HKD : Hid (wr.drew.cell? ⟨b, 1, none⟩ = some (.slice (some ⟨g, 0, none⟩) RL RL) ∧ wr.drew.cell? ⟨C, 0, none⟩ = some (.int .i64 (X : Int)) ∧ wr.drew.cell? ⟨C, 1, none⟩ = some (.int .i64 (Y : Int)) ∧ wr.drew.cell? ⟨g, p, none⟩ = some (U6 cur) ∧ wr.drew.frozen? ⟨g, p, none⟩ = false ∧ wr.drew.cell? ⟨g1, o1 + k, none⟩ = some (U6 r)) := Lib.hid (by
                          refine ⟨?_, nd_cell HXD.out rfl, nd_cell HXD.out rfl, ?_, nd_froz HPD.out.row _, HCR.out _ HFD.out⟩
                          · have := nd_cell (i := 1) (v := .slice (some ⟨g, 0, none⟩) (P.pi X Y CW S k old r i).R.length (P.pi X Y CW S k old r i).R.length) HPD.out.hd rfl
                            rw [P.pi_len, HRL.out] at this
                            exact this
                          · refine HPD.out.cell ?_
                            show ((PN.wrt S k Y X CW P.R).set (Y + k) _)[p]? = _
                            rw [HPP.out, HCU.out, List.getElem?_set, if_pos rfl, if_pos (by rw [PN.wrt_len, HRL.out]; exact hrl)])
                        have HBI := Lib.hid fun U => bit_any U r i HRB.out hi64
                        obtain ⟨B, hB⟩ : ∃ B, r.testBit i = B := ⟨_, rfl⟩
                        have HWI2 := Lib.hid fun U => with_any U cur (X + i) B hcur64 hxi64
                        have HST : Hid (PN.wit cur (X + i) B = PN.ins old (r % 2 ^ (i + 1)) X (i + 1)) := Lib.hid (by rw [← hcur, ← hB]; exact PN.ins_step HOB.out hxi64)
                        rw [hB] at HBI
                        obtain ⟨o, ho⟩ : ∃ o, PN.wit cur (X + i) B = o := ⟨_, rfl⟩
                        rw [ho] at HWI2 HST
                        have HPN : Hid (∀ U : World, RfAt U b g (P.pi X Y CW S k old r i) → RfAt (U.setCell ⟨g, p, none⟩ (U6 o)) b g (P.pi X Y CW S k old r (i + 1))) := Lib.hid fun U hU => by
                          refine ⟨?_, ?_, hU.ne⟩
                          · rw [Below.heap_setCell U ⟨g, p, none⟩ _ b hU.ne]
                            have h1 := hU.hd
                            rw [P.pi_len, ← P.pi_len X Y CW S k old r (i + 1)] at h1
                            exact h1
                          · rw [heap_setCell_same _ g p _ _ _ hU.row, PN.set_u64, HST.out]
                            show some (Obj.cells (((((PN.wrt S k Y X CW P.R).set (Y + k) _).set p _).map U6).toArray) _ _) = some (Obj.cells ((((PN.wrt S k Y X CW P.R).set (Y + k) _).map U6).toArray) _ _)
                            rw [← HPP.out, List.set_set]
                        obtain ⟨xi, hxi⟩ : ∃ xi, X + i = xi := ⟨_, rfl⟩
                        rw [hxi] at HWI2
                        have hxk : ((X : Int) + (i : Int)) = (xi : Int) := by omega
                        have hxw : IntKind.i64.wrap ((X : Int) + (i : Int)) = (xi : Int) := by rw [IntKind.wrap_i64]; omega
                        have hxv : IntKind.i64.wrap (xi : Int) = (xi : Int) := by rw [IntKind.wrap_i64]; omega
                        clear hcur hcur64 hdr hB ho hxi
                        go_upto_region 26 with fail
                        clear x2
                        refine wp_region_last #[{ dst := some 85, op := Op.move (Operand.tmp 0), type := 27, pos := "ref.go:76", after := #[], guard := none }, { dst := some 86, op := Op.nilCheck (Operand.tmp 85), type := 0, pos := "ref.go:76", after := #[{ on := 0, ground := Ground.data }], guard := none }, { dst := some 87, op := Op.fieldAddr 74 (Operand.tmp 86) 1, type := 0, pos := "ref.go:76", after := #[{ on := 1, ground := Ground.data }], guard := none }, { dst := some 88, op := Op.load 32 (Operand.tmp 87), type := 32, pos := "ref.go:76", after := #[{ on := 2, ground := Ground.data }], guard := none }, { dst := some 89, op := Op.fieldAddr 31 (Operand.tmp 4) 1, type := 0, pos := "ref.go:76", after := #[], guard := none }, { dst := some 90, op := Op.load 3 (Operand.tmp 89), type := 3, pos := "ref.go:76", after := #[{ on := 4, ground := Ground.data }], guard := none }, { dst := some 91, op := Op.move (Operand.tmp 12), type := 3, pos := "ref.go:76", after := #[], guard := none }, { dst := some 92, op := Op.binOp BinOp.add 3 (Operand.tmp 90) (Operand.tmp 91) 3, type := 3, pos := "ref.go:76", after := #[{ on := 5, ground := Ground.data }, { on := 6, ground := Ground.data }], guard := none }, { dst := some 93, op := Op.move (Operand.tmp 0), type := 27, pos := "ref.go:76", after := #[], guard := none }, { dst := some 94, op := Op.nilCheck (Operand.tmp 93), type := 0, pos := "ref.go:76", after := #[{ on := 8, ground := Ground.data }], guard := none }, { dst := some 95, op := Op.fieldAddr 74 (Operand.tmp 94) 1, type := 0, pos := "ref.go:76", after := #[{ on := 9, ground := Ground.data }], guard := none }, { dst := some 96, op := Op.load 32 (Operand.tmp 95), type := 32, pos := "ref.go:76", after := #[{ on := 10, ground := Ground.data }], guard := none }, { dst := some 97, op := Op.fieldAddr 31 (Operand.tmp 4) 1, type := 0, pos := "ref.go:76", after := #[], guard := none }, { dst := some 98, op := Op.load 3 (Operand.tmp 97), type := 3, pos := "ref.go:76", after := #[{ on := 12, ground := Ground.data }], guard := none }, { dst := some 99, op := Op.move (Operand.tmp 12), type := 3, pos := "ref.go:76", after := #[], guard := none }, { dst := some 100, op := Op.binOp BinOp.add 3 (Operand.tmp 98) (Operand.tmp 99) 3, type := 3, pos := "ref.go:76", after := #[{ on := 13, ground := Ground.data }, { on := 14, ground := Ground.data }], guard := none }, { dst := some 101, op := Op.indexAddr 32 (Operand.tmp 96) (Operand.tmp 100), type := 0, pos := "ref.go:76", after := #[{ on := 11, ground := Ground.data }, { on := 15, ground := Ground.data }], guard := none }, { dst := some 102, op := Op.load 63 (Operand.tmp 101), type := 63, pos := "ref.go:76", after := #[{ on := 16, ground := Ground.data }], guard := none }, { dst := some 103, op := Op.fieldAddr 31 (Operand.tmp 4) 0, type := 0, pos := "ref.go:76", after := #[], guard := none }, { dst := some 104, op := Op.load 3 (Operand.tmp 103), type := 3, pos := "ref.go:76", after := #[{ on := 18, ground := Ground.data }], guard := none }, { dst := some 105, op := Op.move (Operand.tmp 13), type := 3, pos := "ref.go:76", after := #[], guard := none }, { dst := some 106, op := Op.binOp BinOp.add 3 (Operand.tmp 104) (Operand.tmp 105) 3, type := 3, pos := "ref.go:76", after := #[{ on := 19, ground := Ground.data }, { on := 20, ground := Ground.data }], guard := none }, { dst := some 107, op := Op.move (Operand.tmp 2), type := 32, pos := "ref.go:76", after := #[], guard := none }, { dst := some 108, op := Op.move (Operand.tmp 12), type := 3, pos := "ref.go:76", after := #[], guard := none }, { dst := some 109, op := Op.indexAddr 32 (Operand.tmp 107) (Operand.tmp 108), type := 0, pos := "ref.go:76", after := #[{ on := 22, ground := Ground.data }, { on := 23, ground := Ground.data }], guard := none }, { dst := some 110, op := Op.load 63 (Operand.tmp 109), type := 63, pos := "ref.go:76", after := #[{ on := 24, ground := Ground.data }], guard := none }, { dst := some 111, op := Op.move (Operand.tmp 13), type := 3, pos := "ref.go:76", after := #[], guard := none }, { dst := some 112, op := Op.call { callee := Callee.value (Operand.func 50), args := #[Operand.tmp 110, Operand.tmp 111], argTypes := #[63, 3] }, type := 4, pos := "ref.go:76", after := #[{ on := 25, ground := Ground.data }, { on := 26, ground := Ground.data }], guard := none }, { dst := some 113, op := Op.call { callee := Callee.value (Operand.func 49), args := #[Operand.tmp 102, Operand.tmp 106, Operand.tmp 112], argTypes := #[63, 3, 4] }, type := 63, pos := "ref.go:76", after := #[{ on := 17, ground := Ground.data }, { on := 21, ground := Ground.data }, { on := 27, ground := Ground.data }, { on := 27, ground := Ground.chain }], guard := none }, { dst := some 114, op := Op.indexAddr 32 (Operand.tmp 88) (Operand.tmp 92), type := 0, pos := "ref.go:76", after := #[{ on := 3, ground := Ground.data }, { on := 7, ground := Ground.data }, { on := 0, ground := Ground.phase }, { on := 1, ground := Ground.phase }, { on := 2, ground := Ground.phase }, { on := 3, ground := Ground.phase }, { on := 4, ground := Ground.phase }, { on := 5, ground := Ground.phase }, { on := 6, ground := Ground.phase }, { on := 7, ground := Ground.phase }, { on := 8, ground := Ground.phase }, { on := 9, ground := Ground.phase }, { on := 10, ground := Ground.phase }, { on := 11, ground := Ground.phase }, { on := 12, ground := Ground.phase }, { on := 13, ground := Ground.phase }, { on := 14, ground := Ground.phase }, { on := 15, ground := Ground.phase }, { on := 16, ground := Ground.phase }, { on := 17, ground := Ground.phase }, { on := 18, ground := Ground.phase }, { on := 19, ground := Ground.phase }, { on := 20, ground := Ground.phase }, { on := 21, ground := Ground.phase }, { on := 22, ground := Ground.phase }, { on := 23, ground := Ground.phase }, { on := 24, ground := Ground.phase }, { on := 25, ground := Ground.phase }, { on := 26, ground := Ground.phase }, { on := 27, ground := Ground.phase }, { on := 28, ground := Ground.phase }], guard := none }] { dst := none, op := Op.store 63 (Operand.tmp 114) (Operand.tmp 113), type := 0, pos := "ref.go:76", after := #[{ on := 29, ground := Ground.data }, { on := 28, ground := Ground.data }, { on := 28, ground := Ground.chain }, { on := 0, ground := Ground.phase }, { on := 1, ground := Ground.phase }, { on := 2, ground := Ground.phase }, { on := 3, ground := Ground.phase }, { on := 4, ground := Ground.phase }, { on := 5, ground := Ground.phase }, { on := 6, ground := Ground.phase }, { on := 7, ground := Ground.phase }, { on := 8, ground := Ground.phase }, { on := 9, ground := Ground.phase }, { on := 10, ground := Ground.phase }, { on := 11, ground := Ground.phase }, { on := 12, ground := Ground.phase }, { on := 13, ground := Ground.phase }, { on := 14, ground := Ground.phase }, { on := 15, ground := Ground.phase }, { on := 16, ground := Ground.phase }, { on := 17, ground := Ground.phase }, { on := 18, ground := Ground.phase }, { on := 19, ground := Ground.phase }, { on := 20, ground := Ground.phase }, { on := 21, ground := Ground.phase }, { on := 22, ground := Ground.phase }, { on := 23, ground := Ground.phase }, { on := 24, ground := Ground.phase }, { on := 25, ground := Ground.phase }, { on := 26, ground := Ground.phase }, { on := 27, ground := Ground.phase }, { on := 28, ground := Ground.phase }], guard := none } rfl (by kernel_rfl) (by kernel_rfl) ((fun w' => w'.cell? ⟨b, 1, none⟩ = some (.slice (some ⟨g, 0, none⟩) RL RL) ∧ w'.cell? ⟨C, 0, none⟩ = some (.int .i64 (X : Int)) ∧ w'.cell? ⟨C, 1, none⟩ = some (.int .i64 (Y : Int)) ∧ w'.cell? ⟨g, p, none⟩ = some (U6 cur) ∧ w'.frozen? ⟨g, p, none⟩ = false ∧ w'.cell? ⟨g1, o1 + k, none⟩ = some (U6 r))) ?_ (fun hHeld => ?_)
                        · exact HKD.out
                        refine wpAnyH_take (i := 0) (oi := { dst := some 85, op := Op.move (Operand.tmp 0), type := 27, pos := "ref.go:76", after := #[], guard := none }) (v := ?_) rfl (by kernel_rfl) (by kernel_rfl) (by kernel_rfl) (fun _ _ _ h => h) (Or.inl ⟨by rfl, ?_⟩) (by assumption) ?_
                        rotate_left
                        · ((intro w hSw; (try dsimp only at hSw); go_simp; (try rw [if_neg (by omega)])); try with_reducible rfl)
                        (try simp only [Act.put, List.setIfInBounds_toArray, List.set_cons_zero, List.set_cons_succ])
                        refine wpAnyH_take (i := 1) (oi := { dst := some 86, op := Op.nilCheck (Operand.tmp 85), type := 0, pos := "ref.go:76", after := #[{ on := 0, ground := Ground.data }], guard := none }) (v := ?_) rfl (by kernel_rfl) (by kernel_rfl) (by kernel_rfl) (fun _ _ _ h => h) (Or.inl ⟨by rfl, ?_⟩) (by assumption) ?_
                        rotate_left
                        · ((intro w hSw; (try dsimp only at hSw); go_simp; (try rw [if_neg (by omega)])); try with_reducible rfl)
                        (try simp only [Act.put, List.setIfInBounds_toArray, List.set_cons_zero, List.set_cons_succ])
                        refine wpAnyH_take (i := 2) (oi := { dst := some 87, op := Op.fieldAddr 74 (Operand.tmp 86) 1, type := 0, pos := "ref.go:76", after := #[{ on := 1, ground := Ground.data }], guard := none }) (v := ?_) rfl (by kernel_rfl) (by kernel_rfl) (by kernel_rfl) (fun _ _ _ h => h) (Or.inl ⟨by rfl, ?_⟩) (by assumption) ?_
                        rotate_left
                        · ((intro w hSw; (try dsimp only at hSw); go_simp; (try rw [if_neg (by omega)])); try with_reducible rfl)
                        (try simp only [Act.put, List.setIfInBounds_toArray, List.set_cons_zero, List.set_cons_succ])
                        refine wpAnyH_take (i := 3) (oi := { dst := some 88, op := Op.load 32 (Operand.tmp 87), type := 32, pos := "ref.go:76", after := #[{ on := 2, ground := Ground.data }], guard := none }) (v := ?_) rfl (by kernel_rfl) (by kernel_rfl) (by kernel_rfl) (fun _ _ _ h => h) (Or.inl ⟨by rfl, ?_⟩) (by assumption) ?_
                        rotate_left
                        · ((intro w hSw; (try dsimp only at hSw); go_simp; (try rw [if_neg (by omega)])); try with_reducible rfl)
                        (try simp only [Act.put, List.setIfInBounds_toArray, List.set_cons_zero, List.set_cons_succ])
                        refine wpAnyH_take (i := 4) (oi := { dst := some 89, op := Op.fieldAddr 31 (Operand.tmp 4) 1, type := 0, pos := "ref.go:76", after := #[], guard := none }) (v := ?_) rfl (by kernel_rfl) (by kernel_rfl) (by kernel_rfl) (fun _ _ _ h => h) (Or.inl ⟨by rfl, ?_⟩) (by assumption) ?_
                        rotate_left
                        · ((intro w hSw; (try dsimp only at hSw); go_simp; (try rw [if_neg (by omega)])); try with_reducible rfl)
                        (try simp only [Act.put, List.setIfInBounds_toArray, List.set_cons_zero, List.set_cons_succ])
                        refine wpAnyH_take (i := 5) (oi := { dst := some 90, op := Op.load 3 (Operand.tmp 89), type := 3, pos := "ref.go:76", after := #[{ on := 4, ground := Ground.data }], guard := none }) (v := ?_) rfl (by kernel_rfl) (by kernel_rfl) (by kernel_rfl) (fun _ _ _ h => h) (Or.inl ⟨by rfl, ?_⟩) (by assumption) ?_
                        rotate_left
                        · ((intro w hSw; (try dsimp only at hSw); go_simp; (try rw [if_neg (by omega)])); try with_reducible rfl)
                        (try simp only [Act.put, List.setIfInBounds_toArray, List.set_cons_zero, List.set_cons_succ])
                        refine wpAnyH_take (i := 6) (oi := { dst := some 91, op := Op.move (Operand.tmp 12), type := 3, pos := "ref.go:76", after := #[], guard := none }) (v := ?_) rfl (by kernel_rfl) (by kernel_rfl) (by kernel_rfl) (fun _ _ _ h => h) (Or.inl ⟨by rfl, ?_⟩) (by assumption) ?_
                        rotate_left
                        · ((intro w hSw; (try dsimp only at hSw); go_simp; (try rw [if_neg (by omega)])); try with_reducible rfl)
                        (try simp only [Act.put, List.setIfInBounds_toArray, List.set_cons_zero, List.set_cons_succ])
                        refine wpAnyH_take (i := 7) (oi := { dst := some 92, op := Op.binOp BinOp.add 3 (Operand.tmp 90) (Operand.tmp 91) 3, type := 3, pos := "ref.go:76", after := #[{ on := 5, ground := Ground.data }, { on := 6, ground := Ground.data }], guard := none }) (v := ?_) rfl (by kernel_rfl) (by kernel_rfl) (by kernel_rfl) (fun _ _ _ h => h) (Or.inl ⟨by rfl, ?_⟩) (by assumption) ?_
                        rotate_left
                        · ((intro w hSw; (try dsimp only at hSw); go_simp; (try rw [if_neg (by omega)])); try with_reducible rfl)
                        (try simp only [Act.put, List.setIfInBounds_toArray, List.set_cons_zero, List.set_cons_succ])
                        refine wpAnyH_take (i := 8) (oi := { dst := some 93, op := Op.move (Operand.tmp 0), type := 27, pos := "ref.go:76", after := #[], guard := none }) (v := ?_) rfl (by kernel_rfl) (by kernel_rfl) (by kernel_rfl) (fun _ _ _ h => h) (Or.inl ⟨by rfl, ?_⟩) (by assumption) ?_
                        rotate_left
                        · ((intro w hSw; (try dsimp only at hSw); go_simp; (try rw [if_neg (by omega)])); try with_reducible rfl)
                        (try simp only [Act.put, List.setIfInBounds_toArray, List.set_cons_zero, List.set_cons_succ])
                        refine wpAnyH_take (i := 9) (oi := { dst := some 94, op := Op.nilCheck (Operand.tmp 93), type := 0, pos := "ref.go:76", after := #[{ on := 8, ground := Ground.data }], guard := none }) (v := ?_) rfl (by kernel_rfl) (by kernel_rfl) (by kernel_rfl) (fun _ _ _ h => h) (Or.inl ⟨by rfl, ?_⟩) (by assumption) ?_
                        rotate_left
                        · ((intro w hSw; (try dsimp only at hSw); go_simp; (try rw [if_neg (by omega)])); try with_reducible rfl)
                        (try simp only [Act.put, List.setIfInBounds_toArray, List.set_cons_zero, List.set_cons_succ])
                        refine wpAnyH_take (i := 10) (oi := { dst := some 95, op := Op.fieldAddr 74 (Operand.tmp 94) 1, type := 0, pos := "ref.go:76", after := #[{ on := 9, ground := Ground.data }], guard := none }) (v := ?_) rfl (by kernel_rfl) (by kernel_rfl) (by kernel_rfl) (fun _ _ _ h => h) (Or.inl ⟨by rfl, ?_⟩) (by assumption) ?_
                        rotate_left
                        · ((intro w hSw; (try dsimp only at hSw); go_simp; (try rw [if_neg (by omega)])); try with_reducible rfl)
                        (try simp only [Act.put, List.setIfInBounds_toArray, List.set_cons_zero, List.set_cons_succ])
                        refine wpAnyH_take (i := 11) (oi := { dst := some 96, op := Op.load 32 (Operand.tmp 95), type := 32, pos := "ref.go:76", after := #[{ on := 10, ground := Ground.data }], guard := none }) (v := ?_) rfl (by kernel_rfl) (by kernel_rfl) (by kernel_rfl) (fun _ _ _ h => h) (Or.inl ⟨by rfl, ?_⟩) (by assumption) ?_
                        rotate_left
                        · ((intro w hSw; (try dsimp only at hSw); go_simp; (try rw [if_neg (by omega)])); try with_reducible rfl)
                        (try simp only [Act.put, List.setIfInBounds_toArray, List.set_cons_zero, List.set_cons_succ])
                        refine wpAnyH_take (i := 12) (oi := { dst := some 97, op := Op.fieldAddr 31 (Operand.tmp 4) 1, type := 0, pos := "ref.go:76", after := #[], guard := none }) (v := ?_) rfl (by kernel_rfl) (by kernel_rfl) (by kernel_rfl) (fun _ _ _ h => h) (Or.inl ⟨by rfl, ?_⟩) (by assumption) ?_
                        rotate_left
                        · ((intro w hSw; (try dsimp only at hSw); go_simp; (try rw [if_neg (by omega)])); try with_reducible rfl)
                        (try simp only [Act.put, List.setIfInBounds_toArray, List.set_cons_zero, List.set_cons_succ])
                        refine wpAnyH_take (i := 13) (oi := { dst := some 98, op := Op.load 3 (Operand.tmp 97), type := 3, pos := "ref.go:76", after := #[{ on := 12, ground := Ground.data }], guard := none }) (v := ?_) rfl (by kernel_rfl) (by kernel_rfl) (by kernel_rfl) (fun _ _ _ h => h) (Or.inl ⟨by rfl, ?_⟩) (by assumption) ?_
                        rotate_left
                        · ((intro w hSw; (try dsimp only at hSw); go_simp; (try rw [if_neg (by omega)])); try with_reducible rfl)
                        (try simp only [Act.put, List.setIfInBounds_toArray, List.set_cons_zero, List.set_cons_succ])
                        refine wpAnyH_take (i := 14) (oi := { dst := some 99, op := Op.move (Operand.tmp 12), type := 3, pos := "ref.go:76", after := #[], guard := none }) (v := ?_) rfl (by kernel_rfl) (by kernel_rfl) (by kernel_rfl) (fun _ _ _ h => h) (Or.inl ⟨by rfl, ?_⟩) (by assumption) ?_
                        rotate_left
                        · ((intro w hSw; (try dsimp only at hSw); go_simp; (try rw [if_neg (by omega)])); try with_reducible rfl)
                        (try simp only [Act.put, List.setIfInBounds_toArray, List.set_cons_zero, List.set_cons_succ])
                        refine wpAnyH_take (i := 15) (oi := { dst := some 100, op := Op.binOp BinOp.add 3 (Operand.tmp 98) (Operand.tmp 99) 3, type := 3, pos := "ref.go:76", after := #[{ on := 13, ground := Ground.data }, { on := 14, ground := Ground.data }], guard := none }) (v := ?_) rfl (by kernel_rfl) (by kernel_rfl) (by kernel_rfl) (fun _ _ _ h => h) (Or.inl ⟨by rfl, ?_⟩) (by assumption) ?_
                        rotate_left
                        · ((intro w hSw; (try dsimp only at hSw); go_simp; (try rw [if_neg (by omega)])); try with_reducible rfl)
                        (try simp only [Act.put, List.setIfInBounds_toArray, List.set_cons_zero, List.set_cons_succ])
                        refine wpAnyH_take (i := 16) (oi := { dst := some 101, op := Op.indexAddr 32 (Operand.tmp 96) (Operand.tmp 100), type := 0, pos := "ref.go:76", after := #[{ on := 11, ground := Ground.data }, { on := 15, ground := Ground.data }], guard := none }) (v := ?_) rfl (by kernel_rfl) (by kernel_rfl) (by kernel_rfl) (fun _ _ _ h => h) (Or.inl ⟨by rfl, ?_⟩) (by assumption) ?_
                        rotate_left
                        · ((intro w hSw; (try dsimp only at hSw); go_simp; (try rw [if_neg (by omega)])); try with_reducible rfl)
                        (try simp only [Act.put, List.setIfInBounds_toArray, List.set_cons_zero, List.set_cons_succ])
                        refine wpAnyH_take (i := 17) (oi := { dst := some 102, op := Op.load 63 (Operand.tmp 101), type := 63, pos := "ref.go:76", after := #[{ on := 16, ground := Ground.data }], guard := none }) (v := ?_) rfl (by kernel_rfl) (by kernel_rfl) (by kernel_rfl) (fun _ _ _ h => h) (Or.inl ⟨by rfl, ?_⟩) (by assumption) ?_
                        rotate_left
                        · ((intro w hSw; (try dsimp only at hSw); go_simp; (try rw [if_neg (by omega)])); try with_reducible rfl)
                        (try simp only [Act.put, List.setIfInBounds_toArray, List.set_cons_zero, List.set_cons_succ])
                        refine wpAnyH_take (i := 18) (oi := { dst := some 103, op := Op.fieldAddr 31 (Operand.tmp 4) 0, type := 0, pos := "ref.go:76", after := #[], guard := none }) (v := ?_) rfl (by kernel_rfl) (by kernel_rfl) (by kernel_rfl) (fun _ _ _ h => h) (Or.inl ⟨by rfl, ?_⟩) (by assumption) ?_
                        rotate_left
                        · ((intro w hSw; (try dsimp only at hSw); go_simp; (try rw [if_neg (by omega)])); try with_reducible rfl)
                        (try simp only [Act.put, List.setIfInBounds_toArray, List.set_cons_zero, List.set_cons_succ])
                        refine wpAnyH_take (i := 19) (oi := { dst := some 104, op := Op.load 3 (Operand.tmp 103), type := 3, pos := "ref.go:76", after := #[{ on := 18, ground := Ground.data }], guard := none }) (v := ?_) rfl (by kernel_rfl) (by kernel_rfl) (by kernel_rfl) (fun _ _ _ h => h) (Or.inl ⟨by rfl, ?_⟩) (by assumption) ?_
                        rotate_left
                        · ((intro w hSw; (try dsimp only at hSw); go_simp; (try rw [if_neg (by omega)])); try with_reducible rfl)
                        (try simp only [Act.put, List.setIfInBounds_toArray, List.set_cons_zero, List.set_cons_succ])
                        refine wpAnyH_take (i := 20) (oi := { dst := some 105, op := Op.move (Operand.tmp 13), type := 3, pos := "ref.go:76", after := #[], guard := none }) (v := ?_) rfl (by kernel_rfl) (by kernel_rfl) (by kernel_rfl) (fun _ _ _ h => h) (Or.inl ⟨by rfl, ?_⟩) (by assumption) ?_
                        rotate_left
                        · ((intro w hSw; (try dsimp only at hSw); go_simp; (try rw [if_neg (by omega)])); try with_reducible rfl)
                        (try simp only [Act.put, List.setIfInBounds_toArray, List.set_cons_zero, List.set_cons_succ])
                        refine wpAnyH_take (i := 21) (oi := { dst := some 106, op := Op.binOp BinOp.add 3 (Operand.tmp 104) (Operand.tmp 105) 3, type := 3, pos := "ref.go:76", after := #[{ on := 19, ground := Ground.data }, { on := 20, ground := Ground.data }], guard := none }) (v := ?_) rfl (by kernel_rfl) (by kernel_rfl) (by kernel_rfl) (fun _ _ _ h => h) (Or.inl ⟨by rfl, ?_⟩) (by assumption) ?_
                        rotate_left
                        · ((intro w hSw; (try dsimp only at hSw); go_simp; (try rw [if_neg (by omega)])); try with_reducible rfl)
                        (try simp only [Act.put, List.setIfInBounds_toArray, List.set_cons_zero, List.set_cons_succ])
                        refine wpAnyH_take (i := 22) (oi := { dst := some 107, op := Op.move (Operand.tmp 2), type := 32, pos := "ref.go:76", after := #[], guard := none }) (v := ?_) rfl (by kernel_rfl) (by kernel_rfl) (by kernel_rfl) (fun _ _ _ h => h) (Or.inl ⟨by rfl, ?_⟩) (by assumption) ?_
                        rotate_left
                        · ((intro w hSw; (try dsimp only at hSw); go_simp; (try rw [if_neg (by omega)])); try with_reducible rfl)
                        (try simp only [Act.put, List.setIfInBounds_toArray, List.set_cons_zero, List.set_cons_succ])
                        refine wpAnyH_take (i := 23) (oi := { dst := some 108, op := Op.move (Operand.tmp 12), type := 3, pos := "ref.go:76", after := #[], guard := none }) (v := ?_) rfl (by kernel_rfl) (by kernel_rfl) (by kernel_rfl) (fun _ _ _ h => h) (Or.inl ⟨by rfl, ?_⟩) (by assumption) ?_
                        rotate_left
                        · ((intro w hSw; (try dsimp only at hSw); go_simp; (try rw [if_neg (by omega)])); try with_reducible rfl)
                        (try simp only [Act.put, List.setIfInBounds_toArray, List.set_cons_zero, List.set_cons_succ])
                        refine wpAnyH_take (i := 24) (oi := { dst := some 109, op := Op.indexAddr 32 (Operand.tmp 107) (Operand.tmp 108), type := 0, pos := "ref.go:76", after := #[{ on := 22, ground := Ground.data }, { on := 23, ground := Ground.data }], guard := none }) (v := ?_) rfl (by kernel_rfl) (by kernel_rfl) (by kernel_rfl) (fun _ _ _ h => h) (Or.inl ⟨by rfl, ?_⟩) (by assumption) ?_
                        rotate_left
                        · ((intro w hSw; (try dsimp only at hSw); go_simp; (try rw [if_neg (by omega)])); try with_reducible rfl)
                        (try simp only [Act.put, List.setIfInBounds_toArray, List.set_cons_zero, List.set_cons_succ])
                        refine wpAnyH_take (i := 25) (oi := { dst := some 110, op := Op.load 63 (Operand.tmp 109), type := 63, pos := "ref.go:76", after := #[{ on := 24, ground := Ground.data }], guard := none }) (v := ?_) rfl (by kernel_rfl) (by kernel_rfl) (by kernel_rfl) (fun _ _ _ h => h) (Or.inl ⟨by rfl, ?_⟩) (by assumption) ?_
                        rotate_left
                        · ((intro w hSw; (try dsimp only at hSw); go_simp; (try rw [if_neg (by omega)])); try with_reducible rfl)
                        (try simp only [Act.put, List.setIfInBounds_toArray, List.set_cons_zero, List.set_cons_succ])
                        refine wpAnyH_take (i := 26) (oi := { dst := some 111, op := Op.move (Operand.tmp 13), type := 3, pos := "ref.go:76", after := #[], guard := none }) (v := ?_) rfl (by kernel_rfl) (by kernel_rfl) (by kernel_rfl) (fun _ _ _ h => h) (Or.inl ⟨by rfl, ?_⟩) (by assumption) ?_
                        rotate_left
                        · ((intro w hSw; (try dsimp only at hSw); go_simp; (try rw [if_neg (by omega)])); try with_reducible rfl)
                        (try simp only [Act.put, List.setIfInBounds_toArray, List.set_cons_zero, List.set_cons_succ])
                        refine wpAnyH_ready (rs := [27]) (by kernel_rfl) (by simp) ?_
                        refine AllReadyH.cons (o := { dst := some 112, op := Op.call { callee := Callee.value (Operand.func 50), args := #[Operand.tmp 110, Operand.tmp 111], argTypes := #[63, 3] }, type := 4, pos := "ref.go:76", after := #[{ on := 25, ground := Ground.data }, { on := 26, ground := Ground.data }], guard := none }) rfl (fun K hK => ?_) AllReadyH.nil
                        (go_simp; go_at_call 50; refine (HBI.out _).mono ?_; rintro u wz ⟨rfl, he⟩; have he' := he.symm; subst he'; dsimp only)
                        refine hK.out _ _ ?_ (fun hHeld => ?_)
                        · exact HKD.out
                        clear hK K
                        (try simp only [Act.put, List.setIfInBounds_toArray, List.set_cons_zero, List.set_cons_succ])
                        refine wpAnyH_ready (rs := [28]) (by kernel_rfl) (by simp) ?_
                        refine AllReadyH.cons (o := { dst := some 113, op := Op.call { callee := Callee.value (Operand.func 49), args := #[Operand.tmp 102, Operand.tmp 106, Operand.tmp 112], argTypes := #[63, 3, 4] }, type := 63, pos := "ref.go:76", after := #[{ on := 17, ground := Ground.data }, { on := 21, ground := Ground.data }, { on := 27, ground := Ground.data }, { on := 27, ground := Ground.chain }], guard := none }) rfl (fun K hK => ?_) AllReadyH.nil
                        (go_simp; go_at_call 49; refine (HWI2.out _).mono ?_; rintro u wz ⟨rfl, he⟩; have he' := he.symm; subst he'; dsimp only)
                        refine hK.out _ _ ?_ (fun hHeld => ?_)
                        · exact HKD.out
                        clear hK K
                        (try simp only [Act.put, List.setIfInBounds_toArray, List.set_cons_zero, List.set_cons_succ])
                        refine wpAnyH_take (i := 29) (oi := { dst := some 114, op := Op.indexAddr 32 (Operand.tmp 88) (Operand.tmp 92), type := 0, pos := "ref.go:76", after := #[{ on := 3, ground := Ground.data }, { on := 7, ground := Ground.data }, { on := 0, ground := Ground.phase }, { on := 1, ground := Ground.phase }, { on := 2, ground := Ground.phase }, { on := 3, ground := Ground.phase }, { on := 4, ground := Ground.phase }, { on := 5, ground := Ground.phase }, { on := 6, ground := Ground.phase }, { on := 7, ground := Ground.phase }, { on := 8, ground := Ground.phase }, { on := 9, ground := Ground.phase }, { on := 10, ground := Ground.phase }, { on := 11, ground := Ground.phase }, { on := 12, ground := Ground.phase }, { on := 13, ground := Ground.phase }, { on := 14, ground := Ground.phase }, { on := 15, ground := Ground.phase }, { on := 16, ground := Ground.phase }, { on := 17, ground := Ground.phase }, { on := 18, ground := Ground.phase }, { on := 19, ground := Ground.phase }, { on := 20, ground := Ground.phase }, { on := 21, ground := Ground.phase }, { on := 22, ground := Ground.phase }, { on := 23, ground := Ground.phase }, { on := 24, ground := Ground.phase }, { on := 25, ground := Ground.phase }, { on := 26, ground := Ground.phase }, { on := 27, ground := Ground.phase }, { on := 28, ground := Ground.phase }], guard := none }) (v := ?_) rfl (by kernel_rfl) (by kernel_rfl) (by kernel_rfl) (fun _ _ _ h => h) (Or.inl ⟨by rfl, ?_⟩) (by assumption) ?_
                        rotate_left
                        · ((intro w hSw; (try dsimp only at hSw); go_simp; (try rw [if_neg (by omega)])); try with_reducible rfl)
                        (try simp only [Act.put, List.setIfInBounds_toArray, List.set_cons_zero, List.set_cons_succ])
                        refine wpAnyH_done (by kernel_rfl) ?_ _
                        show Oper.wp _ _ _ _ _ _
                        have HE := Lib.hid (HPN.out _ HPD.out)
                        clear hHeld
                        go_simp
                        go_wp2
                        go_roundw
                        case rel => exact ⟨i + 1, by go_num, hic, HE, Lib.hid (HFD.out.trans (FrS.set _ (.inr rfl) _))⟩
                        case measure => simp [intOf]; omega
                      · obtain rfl : i = CW := by omega
                        have HPE : Hid (RfAt wr b g (P.pre X Y i S (k + 1))) := Lib.hid (HPI.out.same HPIE.out)
                        have hicz : ¬ (i : Int) < (i : Int) := by omega
                        clear hic
                        go_wp2
                        go_roundw
                        case rel => exact ⟨k + 1, by go_num, hkn, HK3, HPE, HFI⟩
                        case measure => simp [intOf]; omega
              · obtain rfl : k = N := by omega
                have HKE : Hid (P.can k = k) := Lib.hid (by have := HK2.out; have := hcan.out; omega)
                have HA2 : Hid (A = (0, (P.pre X Y CW S k).done)) := Lib.hid (by rw [HA1.out, if_pos HKE.out])
                have hkz : ¬ (k : Int) < (k : Int) := by omega
                have y3 : wo.cell? ⟨b, 3, none⟩ = some (.int .i64 (P.upd : Int)) := nd_cell HP.out.hd rfl
                have f3 := nd_froz HP.out.hd 3
                have hup := HU.out
                have HE : Hid (RfAt (wo.setCell ⟨b, 3, none⟩ (.int .i64 ((P.upd : Int) + 1))) b g (P.pre X Y CW S k).done ∧ FrS (FP b g) V (wo.setCell ⟨b, 3, none⟩ (.int .i64 ((P.upd : Int) + 1)))) := Lib.hid (by
                  refine ⟨⟨?_, ?_, HP.out.ne⟩, (HFZ.out.trans HF.out).trans (FrS.set _ (.inl rfl) _)⟩
                  · rw [heap_setCell_same _ b 3 _ _ _ HP.out.hd]
                    rfl
                  · rw [Below.heap_setCell _ ⟨b, 3, none⟩ _ g (fun e => HP.out.ne e.symm)]
                    exact HP.out.row)
                clear hkn
                go_wp2
                go_ret
                exact ⟨by rw [HA2.out]; rfl, by rw [HA2.out]; exact HE.out.1, HE.out.2⟩
      · have hng : ((N : Int) != (CH : Int)) = true := by simp; omega
        have HA1 : Hid (A = (1, P)) := Lib.hid (by
          rw [← HA.out]
          unfold Pn.wr
          rw [if_neg]
          intro hg
          have := hg.2.1
          rw [HN.out] at this
          dsimp only at this
          omega)
        go_wp2
        go_ret
        exact ⟨by rw [HA1.out]; rfl, by rw [HA1.out]; exact HPZ.out, HFZ.out⟩
    · have hdw : decide (wiP ⟨x, y, cw, ch⟩ (PW : Int) (RL : Int)) = false := decide_eq_false hw
      have HA1 : Hid (A = (1, P)) := Lib.hid (by
        rw [← HA.out]
        unfold Pn.wr
        rw [if_neg]
        intro hg
        have := hg.1
        rw [HPW.out, HRL.out] at this
        exact hw this)
      rw [hdw]
      clear hdw hw
      go_wp2
      go_ret
      exact ⟨by rw [HA1.out]; rfl, by rw [HA1.out]; exact HPZ.out, HFZ.out⟩
  exact AllReadyH.nil
end
end Go.Proofs.YtmiennkldkcnfaaDoor
