/- The iterator of pieces, for high levels. No conditions. -/
import Derived.Test.YtbgmbcngkmlfeaaDoorNeed
import Derived.Test.YtbgmbcngkmlfeaaDoorOrd2
import Derived.Test.YtbgmbcngkmlfeaaDoorHeldIn
import Derived.Test.YtbgmbcngkmlfeaaDoorCluRBase
import Derived.Test.YtbgmbcngkmlfeaaDoorLater
import Derived.Shelf.RegionOpen
import Derived.Stop.RegionWithIn
import Derived.LoopIn
import Derived.Sort.CutIn
namespace Go.Proofs.YtbgmbcngkmlfeaaDoor
set_option maxRecDepth 100000
set_option linter.unusedVariables false
open Go.RowKit Go.Shelf Go.Deep
attribute [local go_sem] Oper.semAt_some
abbrev PcV := Nat × Nat × Bool
def peV (x : PcV) : Array Value := #[.agg #[.int .i64 (x.1 : Int), .int .i64 (x.2.1 : Int)], .bool x.2.2]
def pendV (pre : List PcV) : Nat := (pre.getLast?.map fun x => x.2.1).getD 0
theorem pendV_snoc (pre : List PcV) (x : PcV) : pendV (pre ++ [x]) = x.2.1 := by simp [pendV]
/-- What the iterator needs. -/
structure PcNV (a : Option Addr) (n c bl bw : Nat) (v1 v2 : Nat) (K : List Int) (p : Int → Bool) (pre : List PcV) (W : World) : Prop where
  box : W.cell? ⟨bl, 0, none⟩ = some (.slice a n c)
  fn : W.cell? ⟨bw, 0, none⟩ = some (.func (.func 39) #[] #[.pointer (some ⟨v1, 0, none⟩), .pointer (some ⟨v2, 0, none⟩)])
  cell : ∀ k x, pendV pre ≤ k → K[k]? = some x → ∃ g o, a = some ⟨g, o, none⟩ ∧ W.cell? ⟨g, o + k, none⟩ = some (.int .i64 x)
  call : ∀ x ∈ K, Calls Tryd.prog 39 #[.int .i64 x, .pointer (some ⟨v1, 0, none⟩), .pointer (some ⟨v2, 0, none⟩)] W fun e W' => e = .returned (.bool (p x)) ∧ Below W.heap.size W W'
/-- What a round is told. -/
def PcGV (n : Nat) (K : List Int) (p : Int → Bool) (pre : List PcV) (x : PcV) (_ : World) : Prop :=
  x.1 = pendV pre ∧ x.1 < x.2.1 ∧ x.2.1 ≤ n ∧ (∀ k y, x.1 ≤ k → k < x.2.1 → K[k]? = some y → p y = x.2.2) ∧ ∀ y, K[x.2.1]? = some y → p y ≠ x.2.2
set_option maxHeartbeats 4000000 in
theorem pcV_in (m : Nat) (hm : 1 ≤ m) (l : Nat) (a : Option Addr) (n c bl bw : Nat) (v1 v2 : Nat) (K : List Int) (p : Int → Bool) (J Jx : List PcV → World → Prop) (hn : K.length = n) (hn1 : n ≤ 1000000000000)
    (W : World) (hJ : AbidesFrom W.heap.size J) (hN : ∀ pre W1, J pre W1 → PcNV a n c bl bw v1 v2 K p pre W1)
    (hY : ∀ pre x W1, J pre W1 → PcGV n K p pre x W1 → YieldAt Fence.wide (m - 1) Tryd.prog l (peV x) W1 fun e W' =>
      (e = .returned (.bool true) ∧ J (pre ++ [x]) W') ∨ (e = .returned (.bool false) ∧ Jx (pre ++ [x]) W')) (h0 : J [] W) :
    CallsIn Fence.wide m Tryd.prog 53 #[.func (.yield l) #[] #[], .pointer (some ⟨bl, 0, none⟩), .pointer (some ⟨bw, 0, none⟩)] W fun e W' => (∃ v, e = .returned v) ∧
      ((∃ ys : List PcV, pendV ys = n ∧ J ys W') ∨ (∃ pre : List PcV, True ∧ Jx pre W')) := by
  have HJ : Hid (∀ pre A B, J pre A → Below A.heap.size A B → J pre B) := Lib.hid fun pre A B hA hb => hJ pre A B none hA ⟨hb.os, hb.tape, hb.output, hb.size, fun k hk _ => hb.block k hk⟩ (fun r e => by cases e)
  have HN := Lib.hid hN
  have HY := Lib.hid hY
  have HK := Lib.hid hn
  have H0 := Lib.hid h0
  clear hJ hN hY hn h0
  refine callsIn_of_wp Tryd.func53 rfl trivial ?_ rfl
  simp only [Tryd.ntmps53, List.size_toArray, List.length_cons, List.length_nil, Nat.reduceAdd, Nat.reduceSub, Array.replicate_succ, Array.replicate_zero, List.push_toArray, List.append_toArray, List.nil_append, List.cons_append]
  gi_wp2
  gi_loopw [4] (fun v wr => ∃ (pre : List PcV) (f : Nat), v = .int .i64 (f : Int) ∧ pendV pre = f ∧ f ≤ n ∧ J pre wr) (fun v _ => n - (intOf v).toNat)
  case atStart => exact ⟨[], 0, rfl, rfl, Nat.zero_le _, H0.out⟩
  case round =>
    clear H0
    obtain ⟨pre, f, rfl, hpf, hfn, hj⟩ := hrel
    have HP := Lib.hid hpf
    have nd := HN.out pre wr hj
    have c1 := nd.box
    by_cases hlt : f < n
    · have hlti : (f : Int) < (n : Int) := by omega
      have hf0 : (0 : Int) ≤ (f : Int) := by omega
      obtain ⟨x, hx⟩ : ∃ x, K[f]? = some x := ⟨K[f]'(by rw [HK.out]; exact hlt), List.getElem?_eq_getElem _⟩
      have jd := HJ.out pre wr wr.drew hj (Below.drew (Below.refl _ _))
      have HC := Lib.hid ((HN.out pre _ jd).call x (List.mem_of_getElem? hx))
      obtain ⟨g, o, rfl, cx⟩ := nd.cell f x (by omega) hx
      have c2 := nd.fn
      obtain ⟨v, hv⟩ : ∃ v, p x = v := ⟨_, rfl⟩
      rw [hv] at HC
      have HV := Lib.hid hv
      have HX := Lib.hid hx
      have HJD := Lib.hid jd
      clear hv hx jd nd hj hpf
      gi_upto_region 2 with fail
      have HS : Hid (∀ V, Below wr.drew.heap.size wr.drew V → (fun w' => w'.cell? ⟨bl, 0, none⟩ = some (.slice (some ⟨g, o, none⟩) n c) ∧ w'.cell? ⟨bw, 0, none⟩ = some (.func (.func 39) #[] #[.pointer (some ⟨v1, 0, none⟩), .pointer (some ⟨v2, 0, none⟩)]) ∧ w'.cell? ⟨g, o + f, none⟩ = some (.int .i64 x)) V) := Lib.hid fun V hV => ⟨(hV.cell (World.block_lt_of_cell? _ _ c1)).trans c1, (hV.cell (World.block_lt_of_cell? _ _ c2)).trans c2, (hV.cell (World.block_lt_of_cell? _ _ cx)).trans cx⟩
      refine wpIn_wide.2 (wp_region_held_drew (S := fun w' => w'.cell? ⟨bl, 0, none⟩ = some (.slice (some ⟨g, o, none⟩) n c) ∧ w'.cell? ⟨bw, 0, none⟩ = some (.func (.func 39) #[] #[.pointer (some ⟨v1, 0, none⟩), .pointer (some ⟨v2, 0, none⟩)]) ∧ w'.cell? ⟨g, o + f, none⟩ = some (.int .i64 x)) (by kernel_rfl) ?_ (fun hHeld => ?_))
      · first | exact HS.out _ hb2 | exact HS.out _ (Below.refl _ _)
      refine wpAnyH_take (i := 0) (oi := { dst := some 11, op := Op.load 54 (Operand.tmp 2), type := 54, pos := "order.go:51", after := #[], guard := none }) (v := ?_) rfl (by kernel_rfl) (by kernel_rfl) (by kernel_rfl) (fun _ _ _ h => h) (Or.inl ⟨by rfl, ?_⟩) (by assumption) ?_
      rotate_left
      · ((intro w hSw; (try dsimp only at hSw); go_simp; (try rw [if_neg (by omega)])); try with_reducible rfl)
      (try simp only [Act.put, List.setIfInBounds_toArray, List.set_cons_zero, List.set_cons_succ])
      refine wpAnyH_take (i := 1) (oi := { dst := some 12, op := Op.load 26 (Operand.tmp 1), type := 26, pos := "order.go:51", after := #[], guard := none }) (v := ?_) rfl (by kernel_rfl) (by kernel_rfl) (by kernel_rfl) (fun _ _ _ h => h) (Or.inl ⟨by rfl, ?_⟩) (by assumption) ?_
      rotate_left
      · ((intro w hSw; (try dsimp only at hSw); go_simp; (try rw [if_neg (by omega)])); try with_reducible rfl)
      (try simp only [Act.put, List.setIfInBounds_toArray, List.set_cons_zero, List.set_cons_succ])
      refine wpAnyH_take (i := 2) (oi := { dst := some 13, op := Op.move (Operand.tmp 4), type := 3, pos := "order.go:51", after := #[], guard := none }) (v := ?_) rfl (by kernel_rfl) (by kernel_rfl) (by kernel_rfl) (fun _ _ _ h => h) (Or.inl ⟨by rfl, ?_⟩) (by assumption) ?_
      rotate_left
      · ((intro w hSw; (try dsimp only at hSw); go_simp; (try rw [if_neg (by omega)])); try with_reducible rfl)
      (try simp only [Act.put, List.setIfInBounds_toArray, List.set_cons_zero, List.set_cons_succ])
      refine wpAnyH_take (i := 3) (oi := { dst := some 14, op := Op.indexAddr 26 (Operand.tmp 12) (Operand.tmp 13), type := 0, pos := "order.go:51", after := #[{ on := 1, ground := Ground.data }, { on := 2, ground := Ground.data }], guard := none }) (v := ?_) rfl (by kernel_rfl) (by kernel_rfl) (by kernel_rfl) (fun _ _ _ h => h) (Or.inl ⟨by rfl, ?_⟩) (by assumption) ?_
      rotate_left
      · ((intro w hSw; (try dsimp only at hSw); go_simp; (try rw [if_neg (by omega)])); try with_reducible rfl)
      (try simp only [Act.put, List.setIfInBounds_toArray, List.set_cons_zero, List.set_cons_succ])
      refine wpAnyH_take (i := 4) (oi := { dst := some 15, op := Op.load 3 (Operand.tmp 14), type := 3, pos := "order.go:51", after := #[{ on := 3, ground := Ground.data }], guard := none }) (v := ?_) rfl (by kernel_rfl) (by kernel_rfl) (by kernel_rfl) (fun _ _ _ h => h) (Or.inl ⟨by rfl, ?_⟩) (by assumption) ?_
      rotate_left
      · ((intro w hSw; (try dsimp only at hSw); go_simp; (try rw [if_neg (by omega)])); try with_reducible rfl)
      (try simp only [Act.put, List.setIfInBounds_toArray, List.set_cons_zero, List.set_cons_succ])
      refine wpAnyH_ready (rs := [5]) (by kernel_rfl) (by simp) ?_
      refine AllReadyH.cons (o := { dst := some 16, op := Op.call { callee := Callee.value (Operand.tmp 11), args := #[Operand.tmp 15], argTypes := #[3] }, type := 4, pos := "order.go:51", after := #[{ on := 0, ground := Ground.data }, { on := 4, ground := Ground.data }], guard := none }) rfl (fun K hK => ?_) ?_
      · (go_simp; go_at_call 39; refine HC.out.mono ?_; rintro e w2 ⟨rfl, hb2⟩; dsimp only)
        refine hK.out _ _ ?_ (fun hHeld => ?_)
        · first | exact HS.out _ hb2 | exact HS.out _ (Below.refl _ _)
        clear hK K
        (try simp only [Act.put, List.setIfInBounds_toArray, List.set_cons_zero, List.set_cons_succ])
        refine wpAnyH_take (i := 6) (oi := { dst := some 5, op := Op.assign (Operand.tmp 16), type := 4, pos := "order.go:51", after := #[{ on := 5, ground := Ground.data }, { on := 5, ground := Ground.chain }, { on := 0, ground := Ground.phase }, { on := 1, ground := Ground.phase }, { on := 2, ground := Ground.phase }, { on := 3, ground := Ground.phase }, { on := 4, ground := Ground.phase }, { on := 5, ground := Ground.phase }], guard := none }) (v := ?_) rfl (by kernel_rfl) (by kernel_rfl) (by kernel_rfl) (fun _ _ _ h => h) (Or.inl ⟨by rfl, ?_⟩) (by assumption) ?_
        rotate_left
        · ((intro w hSw; (try dsimp only at hSw); go_simp; (try rw [if_neg (by omega)])); try with_reducible rfl)
        (try simp only [Act.put, List.setIfInBounds_toArray, List.set_cons_zero, List.set_cons_succ])
        refine wpAnyH_done (by kernel_rfl) ?_ _
        have J2 := Lib.hid (HJ.out _ _ _ HJD.out hb2)
        clear hb2 c1 c2 cx HC HS
        gi_wp2
        gi_loopw [6] (fun v6 wi => ∃ to : Nat, v6 = .int .i64 (to : Int) ∧ f + 1 ≤ to ∧ to ≤ n ∧ Hid (∀ k y, f ≤ k → k < to → K[k]? = some y → p y = v) ∧ J pre wi) (fun v _ => n - (intOf v).toNat)
        case atStart =>
          refine ⟨f + 1, by go_num, Nat.le_refl _, hlt, Lib.hid fun k y h1 h2 hy => ?_, J2.out⟩
          obtain rfl : k = f := by omega
          rw [HX.out] at hy
          cases hy
          exact HV.out
        case round =>
          clear J2
          obtain ⟨to, rfl, ht0, ht1, HA, hjc⟩ := hrel
          have nd := HN.out pre wr hjc
          have c1 := nd.box
          have HP' := Lib.hid hjc
          by_cases htn : to < n
          · have htni : (to : Int) < (n : Int) := by omega
            have hdec : decide ((to : Int) < (n : Int)) = true := decide_eq_true htni
            have ht00 : (0 : Int) ≤ (to : Int) := by omega
            obtain ⟨y, hy⟩ : ∃ y, K[to]? = some y := ⟨K[to]'(by rw [HK.out]; exact htn), List.getElem?_eq_getElem _⟩
            have jd := HJ.out pre wr wr.drew hjc (Below.drew (Below.refl _ _))
            have HC := Lib.hid ((HN.out pre _ jd).call y (List.mem_of_getElem? hy))
            obtain ⟨g2, o2, e2, cx⟩ := nd.cell to y (by have := HP.out; omega) hy
            injection e2 with e2
            injection e2 with e2 e3
            subst e2 e3
            have c2 := nd.fn
            obtain ⟨u, hu⟩ : ∃ u, p y = u := ⟨_, rfl⟩
            rw [hu] at HC
            have HU := Lib.hid hu
            have HYT := Lib.hid hy
            have HJD2 := Lib.hid jd
            have HS : Hid (∀ V, Below wr.drew.heap.size wr.drew V → (fun w' => w'.cell? ⟨bl, 0, none⟩ = some (.slice (some ⟨g, o, none⟩) n c) ∧ w'.cell? ⟨bw, 0, none⟩ = some (.func (.func 39) #[] #[.pointer (some ⟨v1, 0, none⟩), .pointer (some ⟨v2, 0, none⟩)]) ∧ w'.cell? ⟨g, o + to, none⟩ = some (.int .i64 y)) V) := Lib.hid fun V hV => ⟨(hV.cell (World.block_lt_of_cell? _ _ c1)).trans c1, (hV.cell (World.block_lt_of_cell? _ _ c2)).trans c2, (hV.cell (World.block_lt_of_cell? _ _ cx)).trans cx⟩
            clear hu hy jd nd hjc
            obtain ⟨q, hq⟩ : ∃ q : Bool, (u == v) = q := ⟨_, rfl⟩
            gi_upto_region 4 with fail
            refine wpIn_wide.2 (wp_region_held_drew (S := fun w' => w'.cell? ⟨bl, 0, none⟩ = some (.slice (some ⟨g, o, none⟩) n c) ∧ w'.cell? ⟨bw, 0, none⟩ = some (.func (.func 39) #[] #[.pointer (some ⟨v1, 0, none⟩), .pointer (some ⟨v2, 0, none⟩)]) ∧ w'.cell? ⟨g, o + to, none⟩ = some (.int .i64 y)) (by kernel_rfl) ?_ (fun hHeld => ?_))
            · first | exact HS.out _ hb4 | exact HS.out _ (Below.refl _ _)
            refine wpAnyH_take (i := 0) (oi := { dst := some 19, op := Op.move (Operand.tmp 6), type := 3, pos := "order.go:53", after := #[], guard := none }) (v := ?_) rfl (by kernel_rfl) (by kernel_rfl) (by kernel_rfl) (fun _ _ _ h => h) (Or.inl ⟨by rfl, ?_⟩) (by assumption) ?_
            rotate_left
            · ((intro w hSw; (try dsimp only at hSw); go_simp; (try rw [if_neg (by omega)])); try with_reducible rfl)
            (try simp only [Act.put, List.setIfInBounds_toArray, List.set_cons_zero, List.set_cons_succ])
            refine wpAnyH_take (i := 1) (oi := { dst := some 20, op := Op.load 26 (Operand.tmp 1), type := 26, pos := "order.go:53", after := #[], guard := none }) (v := ?_) rfl (by kernel_rfl) (by kernel_rfl) (by kernel_rfl) (fun _ _ _ h => h) (Or.inl ⟨by rfl, ?_⟩) (by assumption) ?_
            rotate_left
            · ((intro w hSw; (try dsimp only at hSw); go_simp; (try rw [if_neg (by omega)])); try with_reducible rfl)
            (try simp only [Act.put, List.setIfInBounds_toArray, List.set_cons_zero, List.set_cons_succ])
            refine wpAnyH_take (i := 2) (oi := { dst := some 21, op := Op.call { callee := Callee.builtin Builtin.len, args := #[Operand.tmp 20], argTypes := #[26] }, type := 3, pos := "order.go:53", after := #[{ on := 1, ground := Ground.data }], guard := none }) (v := ?_) rfl (by kernel_rfl) (by kernel_rfl) (by kernel_rfl) (fun _ _ _ h => h) (Or.inl ⟨by rfl, ?_⟩) (by assumption) ?_
            rotate_left
            · ((intro w hSw; (try dsimp only at hSw); go_simp; (try rw [if_neg (by omega)])); try with_reducible rfl)
            (try simp only [Act.put, List.setIfInBounds_toArray, List.set_cons_zero, List.set_cons_succ])
            refine wpAnyH_take (i := 3) (oi := { dst := some 22, op := Op.binOp BinOp.lss 3 (Operand.tmp 19) (Operand.tmp 21) 3, type := 4, pos := "order.go:53", after := #[{ on := 0, ground := Ground.data }, { on := 2, ground := Ground.data }], guard := none }) (v := ?_) rfl (by kernel_rfl) (by kernel_rfl) (by kernel_rfl) (fun _ _ _ h => h) (Or.inl ⟨by rfl, ?_⟩) (by assumption) ?_
            rotate_left
            · ((intro w hSw; (try dsimp only at hSw); go_simp; (try rw [if_neg (by omega)])); try with_reducible rfl)
            (try simp only [Act.put, List.setIfInBounds_toArray, List.set_cons_zero, List.set_cons_succ])
            refine wpAnyH_take (i := 4) (oi := { dst := some 23, op := Op.move (Operand.tmp 22), type := 4, pos := "order.go:53", after := #[{ on := 3, ground := Ground.data }], guard := none }) (v := ?_) rfl (by kernel_rfl) (by kernel_rfl) (by kernel_rfl) (fun _ _ _ h => h) (Or.inl ⟨by rfl, ?_⟩) (by assumption) ?_
            rotate_left
            · ((intro w hSw; (try dsimp only at hSw); go_simp; (try rw [if_neg (by omega)])); try with_reducible rfl)
            (try simp only [Act.put, List.setIfInBounds_toArray, List.set_cons_zero, List.set_cons_succ])
            refine wpAnyH_take (i := 5) (oi := { dst := some 24, op := Op.load 54 (Operand.tmp 2), type := 54, pos := "order.go:53", after := #[{ on := 4, ground := Ground.guard }], guard := some (4, true) }) (v := ?_) rfl (by kernel_rfl) (by kernel_rfl) (by kernel_rfl) (fun _ _ _ h => h) (Or.inl ⟨by rfl, ?_⟩) (by assumption) ?_
            rotate_left
            · ((intro w hSw; (try dsimp only at hSw); go_simp; (try rw [if_neg (by omega)])); try with_reducible rfl)
            (try simp only [Act.put, List.setIfInBounds_toArray, List.set_cons_zero, List.set_cons_succ])
            refine wpAnyH_take (i := 6) (oi := { dst := some 25, op := Op.load 26 (Operand.tmp 1), type := 26, pos := "order.go:53", after := #[{ on := 4, ground := Ground.guard }], guard := some (4, true) }) (v := ?_) rfl (by kernel_rfl) (by kernel_rfl) (by kernel_rfl) (fun _ _ _ h => h) (Or.inl ⟨by rfl, ?_⟩) (by assumption) ?_
            rotate_left
            · ((intro w hSw; (try dsimp only at hSw); go_simp; (try rw [if_neg (by omega)])); try with_reducible rfl)
            (try simp only [Act.put, List.setIfInBounds_toArray, List.set_cons_zero, List.set_cons_succ])
            refine wpAnyH_take (i := 7) (oi := { dst := some 26, op := Op.move (Operand.tmp 6), type := 3, pos := "order.go:53", after := #[{ on := 4, ground := Ground.guard }], guard := some (4, true) }) (v := ?_) rfl (by kernel_rfl) (by kernel_rfl) (by kernel_rfl) (fun _ _ _ h => h) (Or.inl ⟨by rfl, ?_⟩) (by assumption) ?_
            rotate_left
            · ((intro w hSw; (try dsimp only at hSw); go_simp; (try rw [if_neg (by omega)])); try with_reducible rfl)
            (try simp only [Act.put, List.setIfInBounds_toArray, List.set_cons_zero, List.set_cons_succ])
            refine wpAnyH_take (i := 8) (oi := { dst := some 27, op := Op.indexAddr 26 (Operand.tmp 25) (Operand.tmp 26), type := 0, pos := "order.go:53", after := #[{ on := 6, ground := Ground.data }, { on := 7, ground := Ground.data }, { on := 4, ground := Ground.guard }], guard := some (4, true) }) (v := ?_) rfl (by kernel_rfl) (by kernel_rfl) (by kernel_rfl) (fun _ _ _ h => h) (Or.inl ⟨by rfl, ?_⟩) (by assumption) ?_
            rotate_left
            · ((intro w hSw; (try dsimp only at hSw); go_simp; (try rw [if_neg (by omega)])); try with_reducible rfl)
            (try simp only [Act.put, List.setIfInBounds_toArray, List.set_cons_zero, List.set_cons_succ])
            refine wpAnyH_take (i := 9) (oi := { dst := some 28, op := Op.load 3 (Operand.tmp 27), type := 3, pos := "order.go:53", after := #[{ on := 8, ground := Ground.data }, { on := 4, ground := Ground.guard }], guard := some (4, true) }) (v := ?_) rfl (by kernel_rfl) (by kernel_rfl) (by kernel_rfl) (fun _ _ _ h => h) (Or.inl ⟨by rfl, ?_⟩) (by assumption) ?_
            rotate_left
            · ((intro w hSw; (try dsimp only at hSw); go_simp; (try rw [if_neg (by omega)])); try with_reducible rfl)
            (try simp only [Act.put, List.setIfInBounds_toArray, List.set_cons_zero, List.set_cons_succ])
            refine wpAnyH_take (i := 11) (oi := { dst := some 30, op := Op.move (Operand.tmp 5), type := 4, pos := "order.go:53", after := #[{ on := 4, ground := Ground.guard }], guard := some (4, true) }) (v := ?_) rfl (by kernel_rfl) (by kernel_rfl) (by kernel_rfl) (fun _ _ _ h => h) (Or.inl ⟨by rfl, ?_⟩) (by assumption) ?_
            rotate_left
            · ((intro w hSw; (try dsimp only at hSw); go_simp; (try rw [if_neg (by omega)])); try with_reducible rfl)
            (try simp only [Act.put, List.setIfInBounds_toArray, List.set_cons_zero, List.set_cons_succ])
            refine wpAnyH_ready (rs := [10]) (by kernel_rfl) (by simp) ?_
            refine AllReadyH.cons (o := { dst := some 29, op := Op.call { callee := Callee.value (Operand.tmp 24), args := #[Operand.tmp 28], argTypes := #[3] }, type := 4, pos := "order.go:53", after := #[{ on := 5, ground := Ground.data }, { on := 9, ground := Ground.data }, { on := 4, ground := Ground.chain }, { on := 4, ground := Ground.guard }], guard := some (4, true) }) rfl (fun K hK => ?_) ?_
            · (go_simp; go_at_call 39; refine HC.out.mono ?_; rintro e w4 ⟨rfl, hb4⟩; dsimp only)
              refine hK.out _ _ ?_ (fun hHeld => ?_)
              · first | exact HS.out _ hb4 | exact HS.out _ (Below.refl _ _)
              clear hK K
              (try simp only [Act.put, List.setIfInBounds_toArray, List.set_cons_zero, List.set_cons_succ])
              refine wpAnyH_take (i := 12) (oi := { dst := some 31, op := Op.binOp BinOp.eql 4 (Operand.tmp 29) (Operand.tmp 30) 4, type := 4, pos := "order.go:53", after := #[{ on := 10, ground := Ground.data }, { on := 11, ground := Ground.data }, { on := 4, ground := Ground.guard }], guard := some (4, true) }) (v := ?_) rfl (by kernel_rfl) (by kernel_rfl) (by kernel_rfl) (fun _ _ _ h => h) (Or.inl ⟨by rfl, ?_⟩) (by assumption) ?_
              rotate_left
              · ((intro w hSw; (try dsimp only at hSw); go_simp; (try rw [if_neg (by omega)])); try with_reducible rfl)
              (try simp only [Act.put, List.setIfInBounds_toArray, List.set_cons_zero, List.set_cons_succ])
              refine wpAnyH_take (i := 13) (oi := { dst := some 32, op := Op.pick (Operand.tmp 23) (Operand.tmp 31) (Operand.const (Value.bool false)), type := 4, pos := "order.go:53", after := #[{ on := 4, ground := Ground.data }, { on := 12, ground := Ground.data }], guard := none }) (v := ?_) rfl (by kernel_rfl) (by kernel_rfl) (by kernel_rfl) (fun _ _ _ h => h) (Or.inl ⟨by rfl, ?_⟩) (by assumption) ?_
              rotate_left
              · ((intro w hSw; (try dsimp only at hSw); go_simp; (try rw [if_neg (by omega)])); try with_reducible rfl)
              (try simp only [Act.put, List.setIfInBounds_toArray, List.set_cons_zero, List.set_cons_succ])
              refine wpAnyH_done (by kernel_rfl) ?_ _
              have hjc := HJ.out _ _ _ HJD2.out hb4
              have HQ := Lib.hid hq
              clear hb4 c1 c2 cx HC HS hq
              cases q with
              | true =>
                gi_wp2
                go_roundw
                case rel =>
                  refine ⟨to + 1, by go_num, by omega, htn, Lib.hid fun k z h1 h2 hz => ?_, hjc⟩
                  by_cases hk : k < to
                  · exact HA.out k z h1 hk hz
                  · obtain rfl : k = to := by omega
                    rw [HYT.out] at hz
                    cases hz
                    rw [HU.out]
                    simpa using HQ.out
                case measure => simp [intOf]; omega
              | false =>
                have HG := Lib.hid (show PcGV n K p pre (f, to, v) w4 from ⟨HP.out.symm, by dsimp only; omega, by dsimp only; omega, fun k y h1 h2 hy => HA.out k y h1 h2 hy, fun z hz => (by dsimp only at hz ⊢; rw [HYT.out] at hz; cases hz; rw [HU.out]; simpa using HQ.out)⟩)
                obtain ⟨fn, tmps, assign, body, hy, hR⟩ := HY.out pre (f, to, v) _ hjc HG.out
                simp only [peV] at hy
                clear hjc
                gi_wp2
                refine hR.mono ?_
                rintro e W3 (⟨rfl, hJ3⟩ | ⟨rfl, hJx3⟩)
                · gi_wp2
                  exact ⟨⟨pre ++ [(f, to, v)], to, rfl, pendV_snoc _ _, by omega, hJ3⟩, by simp [intOf]; omega⟩
                · gi_wp2
                  refine bodyPost_ret (results_none rfl _ _ _) rfl ?_
                  exact ⟨⟨_, rfl⟩, .inr ⟨_, trivial, hJx3⟩⟩
        
            exact AllReadyH.nil
          · obtain rfl : n = to := by omega
            have hdec : decide ((n : Int) < (n : Int)) = false := decide_eq_false (by omega)
            gi_upto_region 4 with fail
            refine wpIn_wide.2 ?_
            go_quiet (fail)
            replace hjc := HJ.out pre wr (wr.drewN nq) hjc (below_drewN (Below.refl _ _) _)
            have HG := Lib.hid (show PcGV n K p pre (f, n, v) (wr.drewN nq) from ⟨HP.out.symm, by dsimp only; omega, by dsimp only; omega, fun k y h1 h2 hy => HA.out k y h1 h2 hy, fun z hz => (by dsimp only at hz; rw [List.getElem?_eq_none (by rw [HK.out]; exact Nat.le_refl _)] at hz; cases hz)⟩)
            obtain ⟨fn, tmps, assign, body, hy, hR⟩ := HY.out pre (f, n, v) _ hjc HG.out
            simp only [peV] at hy
            clear hjc
            gi_wp2
            refine hR.mono ?_
            rintro e W3 (⟨rfl, hJ3⟩ | ⟨rfl, hJx3⟩)
            · gi_wp2
              exact ⟨⟨pre ++ [(f, n, v)], n, rfl, pendV_snoc _ _, by omega, hJ3⟩, by simp [intOf]; omega⟩
            · gi_wp2
              refine bodyPost_ret (results_none rfl _ _ _) rfl ?_
              exact ⟨⟨_, rfl⟩, .inr ⟨_, trivial, hJx3⟩⟩
        
      exact AllReadyH.nil
    · obtain rfl : n = f := by omega
      clear nd
      gi_wp2
      go_end0
      exact ⟨⟨_, rfl⟩, .inl ⟨pre, HP.out, hj⟩⟩
theorem pcV_need (m : Nat) (hm : 1 ≤ m) (a : Option Addr) (n c bl bw : Nat) (v1 v2 : Nat) (K : List Int) (p : Int → Bool) (hn : K.length = n) (hn1 : n ≤ 1000000000000) (w : World) :
    SeqNeed Fence.wide m Tryd.prog 53 #[.pointer (some ⟨bl, 0, none⟩), .pointer (some ⟨bw, 0, none⟩)] peV (PcNV a n c bl bw v1 v2 K p) (PcGV n K p) (fun ys => pendV ys = n) (fun _ => True) w := fun l J Jx W _ hJ _ hN hY h0 =>
  pcV_in m hm l a n c bl bw v1 v2 K p J Jx hn hn1 W hJ hN hY h0
end Go.Proofs.YtbgmbcngkmlfeaaDoor
