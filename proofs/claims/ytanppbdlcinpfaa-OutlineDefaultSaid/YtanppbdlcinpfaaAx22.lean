/- Regions that numbers make. No conditions. -/
import Derived.Test.YtanppbdlcinpfaaAx21
import Derived.Test.YtanppbdlcinpfaaHeldIn
namespace Go.Proofs.Ytanppbdlcinpfaa
set_option maxRecDepth 100000
set_option linter.unusedVariables false
open Go.RowKit Go.Deep
/-- An append, of perhaps nothing, in a statement that draws. -/
theorem step_append_any {P : Program} {w : World} {ops : Array Oper} {o : Oper} {a : Act} {K : Act → World → Prop} {Q : Exit → Act → World → Prop} {E : Prop} (hgd : o.guard = none) (s x : Operand) (t : TypeId)
    (ho : o.op = .call { callee := .builtin .append, args := #[s, x], argTypes := #[t, t] })
    (base : Nat) (e : TypeId) (i : TypeInfo) (z : Value) (size bytes : Nat) (ht : P.underlying t = some (.slice e)) (hi : P.info? e = some i) (hz : i.zero = some z)
    (hsize : i.size = size) (hby : i.bytes = bytes) (hzs : z.cells.size = size) (hsz : 0 < size)
    (v : Value) (n : Nat) (xs : List Value) (hs : a.eval s = v) (hown : w.ownsRow base e size v n xs)
    (ad : Addr) (m c : Nat) (news : List Value) (hx : a.eval x = .slice (some ad) m c) (hl : news.length = m * size) (hnews : ∀ j u, news[j]? = some u → w.cell? (ad.add j) = some u) (h1 : ∀ u ∈ news, u.oneCell' = true)
    (h63 : n + m ≤ maxLen) (hbytes : (n + m) * bytes ≤ 140737488355328) (hbase : base ≤ w.heap.size)
    (h : ∀ v' w', w'.ownsRow base e size v' (n + m) (xs ++ news) → w.grownBy w' v.ownBlock → (v'.ownBlock = v.ownBlock ∨ v'.ownBlock = some w.heap.size) → K (a.put o.dst v') w') :
    if Region.wanted o (yielded ops a.tmps) = true then Oper.wp P o a w K Q else E := by
  have hw : Region.wanted o (yielded ops a.tmps) = true := by simp [Region.wanted, hgd]
  rw [if_pos hw]
  obtain ⟨v', w', hr, h2, h3, h4, h5⟩ := run_append_own_at (P := P) w base t o.type e i z size bytes ht hi hz hsize hby hzs hsz v n xs hown ad m c news hl hnews h1 h63 hbytes hbase
  unfold Oper.wp execOp
  simp only [ho, resolve, invoke, builtin, Sem.run_bind, Sem.run_pure, Result.andThen_ok, List.map_toArray, List.map_cons, List.map_nil, hs, hx, hr]
  exact h v' w' h2 h3 h5
theorem own_of_grown {w w' : World} {B e n size : Nat} {v : Value} {xs : List Value} {row : Option Nat} (h : w.ownsRow B e size v n xs) (hg : w.grownBy w' row) (hr : ∀ q, v.ownBlock = some q → row ≠ some q) : w'.ownsRow B e size v n xs :=
  h.kept hg (by cases hw : v.ownBlock with | none => exact Or.inl rfl | some k => exact Or.inr (fun e => hr k hw e.symm))
theorem own_base {w : World} {B B' e n size : Nat} {v : Value} {xs : List Value} (h : w.ownsRow B e size v n xs) (hB : B' ≤ B) : w.ownsRow B' e size v n xs := by
  obtain ⟨h1, h2⟩ := h
  refine ⟨h1, ?_⟩
  rcases h2 with h2 | ⟨g, cap, cur, e1, e2, e3⟩
  · exact .inl h2
  · exact .inr ⟨g, cap, cur, e1, Nat.le_trans hB e2, e3⟩
/-- In a round: the region in one block, its tents in a row behind it. -/
structure RmS (w W : World) (Bx : Nat) (va : Value) (n : Nat) (l : List AX.Tn) : Prop where
  box : W.heap[Bx]? = some (.cells #[va] 63 (0, 0))
  an : W.ownsRow (Bx + 1) 119 3 va n (AX.tnc l)
  bel : Below w.heap.size w W
  le : w.heap.size < Bx
  res : W.heap[w.heap.size]? = some (.cells #[.slice none 0 0] 63 (0, 0))
theorem RmS.box_lt {w W : World} {Bx : Nat} {va : Value} {n : Nat} {l : List AX.Tn} (s : RmS w W Bx va n l) : Bx < W.heap.size := (Array.getElem?_eq_some_iff.1 s.box).1
theorem RmS.cell {w W : World} {Bx : Nat} {va : Value} {n : Nat} {l : List AX.Tn} (s : RmS w W Bx va n l) : W.cell? ⟨Bx, 0, none⟩ = some va := by
  have := s.box
  simp [World.cell?, this]
theorem RmS.frozen {w W : World} {Bx : Nat} {va : Value} {n : Nat} {l : List AX.Tn} (s : RmS w W Bx va n l) : W.frozen? ⟨Bx, 0, none⟩ = false := by
  have := s.box
  simp [World.frozen?, this]
theorem RmS.keep {w W W' : World} {Bx : Nat} {va : Value} {n : Nat} {l : List AX.Tn} (s : RmS w W Bx va n l) (hb : Below W.heap.size W W') : RmS w W' Bx va n l :=
  ⟨(hb.block Bx s.box_lt).trans s.box, own_below s.an hb, bnext s.bel hb, s.le, (hb.block _ (by have := s.box_lt; have := s.le; omega)).trans s.res⟩
theorem RmS.drew {w W : World} {Bx : Nat} {va : Value} {n : Nat} {l : List AX.Tn} (s : RmS w W Bx va n l) : RmS w W.drew Bx va n l := ⟨s.box, s.an, s.bel.drew, s.le, s.res⟩
theorem RmS.push {w W W' : World} {Bx : Nat} {va v' : Value} {n : Nat} {l : List AX.Tn} {z : AX.Tn} (s : RmS w W Bx va n l) (hg : W.grownBy W' va.ownBlock) (hown : W'.ownsRow (Bx + 1) 119 3 v' (n + 1) (AX.tnc l ++ AX.tnv z)) :
    W'.heap[Bx]? = some (.cells #[va] 63 (0, 0)) ∧ RmS w (W'.setCell ⟨Bx, 0, none⟩ v') Bx v' (n + 1) (l ++ [z]) := by
  have hle := s.le
  have hx := (hg.block Bx s.box_lt (fun e => by have := (s.an.lt Bx e.symm).1; omega)).trans s.box
  have hset : ∀ k, k ≠ Bx → (W'.setCell ⟨Bx, 0, none⟩ v').heap[k]? = W'.heap[k]? := fun k hk => Below.heap_setCell _ _ _ k (fun e => hk (by rw [e]))
  have hgs : W'.grownBy (W'.setCell ⟨Bx, 0, none⟩ v') (some Bx) := ⟨rfl, rfl, rfl, by simp, fun k _ hk => hset k (fun e => hk (by rw [e]))⟩
  have hbl : Below w.heap.size w W' := s.bel.grown hg s.bel.size (fun q e => by have := (s.an.lt q e).1; omega)
  refine ⟨hx, (heap_setCell_same W' Bx 0 _ _ v' hx).trans rfl, ?_, bset hbl (by show w.heap.size ≤ Bx; omega) v', hle, (hset _ (by omega)).trans ((hg.block _ (by have := s.box_lt; omega) (fun e => by have := (s.an.lt _ e.symm).1; omega)).trans s.res)⟩
  rw [show AX.tnc (l ++ [z]) = AX.tnc l ++ AX.tnv z by rw [AX.tnc_app]; unfold AX.tnc; simp]
  exact own_of_grown hown hgs (fun q h1 e => by have := (hown.lt q h1).1; have := Option.some.inj e; omega)
set_option maxHeartbeats 8000000 in
theorem maderegion_any (l : List Int) (n : Nat) (v : Value) (w : World) (hv : InAt w v l) (hl : l.length ≤ maxLen) (hn : n ≤ 3) :
    Calls Try.prog 70 #[v, .int .i64 (n : Int)] w fun e w' => ∃ v', e = .returned (.agg #[v']) ∧ w'.ownsRow w.heap.size 119 3 v' n (AX.tnc (AX.mkReg l n)) ∧ Below w.heap.size w w' := by
  obtain ⟨i1, hi1, hy0, hy1, hy2⟩ := info_parts info_tn
  have HV : Hid (∀ V, Below w.heap.size w V → InAt V v l) := Lib.hid fun V hV => hv.keep hV
  obtain ⟨a, c, rfl, -⟩ := hv
  have HLL := Lib.hid hl
  clear hl
  go_enter Try.func70, Try.ntmps70
  go_upto_region 2 with fail
  obtain ⟨W2, hW2⟩ : ∃ W2, (w.alloc (.cells #[.slice none 0 0] 63)).alloc (.cells #[.slice none 0 0] 63) = W2 := ⟨_, rfl⟩
  obtain ⟨Bx, hBx⟩ : ∃ Bx, w.heap.size + 1 = Bx := ⟨_, rfl⟩
  have hs0 : RmS w W2 Bx (.slice none 0 0) 0 [] := by
    rw [← hW2, ← hBx]
    exact ⟨by rw [show w.heap.size + 1 = (w.alloc (.cells #[.slice none 0 0] 63)).heap.size by simp]; exact heap_alloc_new _ _, ⟨rfl, .inl ⟨rfl, rfl⟩⟩, balloc (balloc (Below.refl _ _) _) _, by omega, (Below.block (balloc (Below.refl _ (w.alloc (.cells #[.slice none 0 0] 63))) _) _ (by simp)).trans (heap_alloc_new w _)⟩
  rw [hW2, hBx]
  have HS0 := Lib.hid hs0
  clear hW2 hBx hs0
  go_wp2_with fail
  go_loopw [6] (fun v6 wr => ∃ (k : Nat) (va : Value), v6 = .int .i64 k ∧ k ≤ n ∧ RmS w wr Bx va k (AX.mkReg l k)) (fun v _ => n - (intOf v).toNat)
  case atStart => exact ⟨0, .slice none 0 0, rfl, Nat.zero_le _, HS0.out⟩
  case round =>
    obtain ⟨k, v0, rfl, hk, hs⟩ := hrel
    obtain ⟨va, vc, hva⟩ := own_shape hs.an
    subst hva
    obtain ⟨wo, hwo⟩ : ∃ wo, wo = wr := ⟨_, rfl⟩
    subst hwo
    have HS := Lib.hid hs
    clear hs
    by_cases h1 : k < n
    · have h1i : (k : Int) < (n : Int) := by omega
      have hk0 : (0 : Int) ≤ (k : Int) := by omega
      obtain ⟨r, hr⟩ : ∃ r, AX.num l (3 * k) = r := ⟨_, rfl⟩
      obtain ⟨s, hs⟩ : ∃ s, AX.num l (3 * k + 1) = s := ⟨_, rfl⟩
      obtain ⟨t, ht⟩ : ∃ t, AX.num l (3 * k + 2) = t := ⟨_, rfl⟩
      have hrb := AX.num_bd l (3 * k)
      rw [hr] at hrb
      have hsb := AX.num_bd l (3 * k + 1)
      rw [hs] at hsb
      have htb := AX.num_bd l (3 * k + 2)
      rw [ht] at htb
      obtain ⟨tt, htt⟩ : ∃ tt, AX.mkTent r s t = tt := ⟨_, rfl⟩
      have HQ : Hid (AX.mkReg l (k + 1) = AX.mkReg l k ++ [tt]) := Lib.hid (by rw [AX.mkReg_succ]; unfold AX.mkTn; rw [hr, hs, ht, htt])
      have HR := Lib.hid hr
      have HR1 := Lib.hid hs
      have HR2 := Lib.hid ht
      have HT := Lib.hid htt
      have e1 : IntKind.i64.wrap (3 * (k : Int)) = 3 * (k : Int) := by rw [IntKind.wrap_i64]; omega
      have e2 : IntKind.i64.wrap (3 * (k : Int) + 1) = 3 * (k : Int) + 1 := by rw [IntKind.wrap_i64]; omega
      have e3 : IntKind.i64.wrap (3 * (k : Int) + 2) = 3 * (k : Int) + 2 := by rw [IntKind.wrap_i64]; omega
      generalize AX.mkReg l k = A at HQ HS
      clear hr hs ht htt
      have HSd := Lib.hid HS.out.drew
      have x1 : wo.cell? ⟨Bx, 0, none⟩ = some (.slice va k vc) := HS.out.cell
      have xf : wo.frozen? ⟨Bx, 0, none⟩ = false := HS.out.frozen
      have hi1' := hi1
      go_upto_region 5 with fail
      refine wp_region_last #[{ dst := some 13, op := Op.fieldAddr 63 (Operand.tmp 5) 0, type := 0, pos := "ref.go:254", after := #[], guard := none }, { dst := some 14, op := Op.load 61 (Operand.tmp 13), type := 61, pos := "ref.go:254", after := #[{ on := 0, ground := Ground.data }], guard := none }, { dst := some 15, op := Op.move (Operand.tmp 0), type := 22, pos := "ref.go:254", after := #[], guard := none }, { dst := some 16, op := Op.move (Operand.tmp 6), type := 3, pos := "ref.go:254", after := #[], guard := none }, { dst := some 17, op := Op.binOp BinOp.mul 3 (Operand.const (Value.int IntKind.i64 3)) (Operand.tmp 16) 3, type := 3, pos := "ref.go:254", after := #[{ on := 3, ground := Ground.data }], guard := none }, { dst := some 18, op := Op.call { callee := Callee.value (Operand.func 71), args := #[Operand.tmp 15, Operand.tmp 17], argTypes := #[22, 3] }, type := 3, pos := "ref.go:254", after := #[{ on := 2, ground := Ground.data }, { on := 4, ground := Ground.data }], guard := none }, { dst := some 19, op := Op.move (Operand.tmp 0), type := 22, pos := "ref.go:254", after := #[], guard := none }, { dst := some 20, op := Op.move (Operand.tmp 6), type := 3, pos := "ref.go:254", after := #[], guard := none }, { dst := some 21, op := Op.binOp BinOp.mul 3 (Operand.const (Value.int IntKind.i64 3)) (Operand.tmp 20) 3, type := 3, pos := "ref.go:254", after := #[{ on := 7, ground := Ground.data }], guard := none }, { dst := some 22, op := Op.binOp BinOp.add 3 (Operand.tmp 21) (Operand.const (Value.int IntKind.i64 1)) 3, type := 3, pos := "ref.go:254", after := #[{ on := 8, ground := Ground.data }], guard := none }, { dst := some 23, op := Op.call { callee := Callee.value (Operand.func 71), args := #[Operand.tmp 19, Operand.tmp 22], argTypes := #[22, 3] }, type := 3, pos := "ref.go:254", after := #[{ on := 6, ground := Ground.data }, { on := 9, ground := Ground.data }, { on := 5, ground := Ground.chain }], guard := none }, { dst := some 24, op := Op.move (Operand.tmp 0), type := 22, pos := "ref.go:254", after := #[], guard := none }, { dst := some 25, op := Op.move (Operand.tmp 6), type := 3, pos := "ref.go:254", after := #[], guard := none }, { dst := some 26, op := Op.binOp BinOp.mul 3 (Operand.const (Value.int IntKind.i64 3)) (Operand.tmp 25) 3, type := 3, pos := "ref.go:254", after := #[{ on := 12, ground := Ground.data }], guard := none }, { dst := some 27, op := Op.binOp BinOp.add 3 (Operand.tmp 26) (Operand.const (Value.int IntKind.i64 2)) 3, type := 3, pos := "ref.go:254", after := #[{ on := 13, ground := Ground.data }], guard := none }, { dst := some 28, op := Op.call { callee := Callee.value (Operand.func 71), args := #[Operand.tmp 24, Operand.tmp 27], argTypes := #[22, 3] }, type := 3, pos := "ref.go:254", after := #[{ on := 11, ground := Ground.data }, { on := 14, ground := Ground.data }, { on := 10, ground := Ground.chain }], guard := none }, { dst := some 29, op := Op.call { callee := Callee.value (Operand.func 97), args := #[Operand.tmp 18, Operand.tmp 23, Operand.tmp 28], argTypes := #[3, 3, 3] }, type := 119, pos := "ref.go:254", after := #[{ on := 5, ground := Ground.data }, { on := 10, ground := Ground.data }, { on := 15, ground := Ground.data }, { on := 15, ground := Ground.chain }], guard := none }, { dst := some 30, op := Op.buildSlice 61 1 #[(0, Operand.tmp 29)], type := 61, pos := "ref.go:254", after := #[{ on := 16, ground := Ground.data }], guard := none }, { dst := some 31, op := Op.call { callee := Callee.builtin Builtin.append, args := #[Operand.tmp 14, Operand.tmp 30], argTypes := #[61, 61] }, type := 61, pos := "ref.go:254", after := #[{ on := 1, ground := Ground.data }, { on := 17, ground := Ground.data }, { on := 16, ground := Ground.chain }], guard := none }, { dst := some 32, op := Op.fieldAddr 63 (Operand.tmp 5) 0, type := 0, pos := "ref.go:254", after := #[{ on := 0, ground := Ground.phase }, { on := 1, ground := Ground.phase }, { on := 2, ground := Ground.phase }, { on := 3, ground := Ground.phase }, { on := 4, ground := Ground.phase }, { on := 5, ground := Ground.phase }, { on := 6, ground := Ground.phase }, { on := 7, ground := Ground.phase }, { on := 8, ground := Ground.phase }, { on := 9, ground := Ground.phase }, { on := 10, ground := Ground.phase }, { on := 11, ground := Ground.phase }, { on := 12, ground := Ground.phase }, { on := 13, ground := Ground.phase }, { on := 14, ground := Ground.phase }, { on := 15, ground := Ground.phase }, { on := 16, ground := Ground.phase }, { on := 17, ground := Ground.phase }, { on := 18, ground := Ground.phase }], guard := none }] { dst := none, op := Op.store 61 (Operand.tmp 32) (Operand.tmp 31), type := 0, pos := "ref.go:254", after := #[{ on := 19, ground := Ground.data }, { on := 18, ground := Ground.data }, { on := 18, ground := Ground.chain }, { on := 0, ground := Ground.phase }, { on := 1, ground := Ground.phase }, { on := 2, ground := Ground.phase }, { on := 3, ground := Ground.phase }, { on := 4, ground := Ground.phase }, { on := 5, ground := Ground.phase }, { on := 6, ground := Ground.phase }, { on := 7, ground := Ground.phase }, { on := 8, ground := Ground.phase }, { on := 9, ground := Ground.phase }, { on := 10, ground := Ground.phase }, { on := 11, ground := Ground.phase }, { on := 12, ground := Ground.phase }, { on := 13, ground := Ground.phase }, { on := 14, ground := Ground.phase }, { on := 15, ground := Ground.phase }, { on := 16, ground := Ground.phase }, { on := 17, ground := Ground.phase }, { on := 18, ground := Ground.phase }], guard := none } rfl (by kernel_rfl) (by kernel_rfl) (fun w' => w'.cell? ⟨Bx, 0, none⟩ = some (.slice va k vc)) ?_ (fun hHeld => ?_)
      · first | exact hS1 | exact HS6.out.cell | exact HS5.out.cell | exact x1
      refine wpAnyH_take (i := 0) (oi := { dst := some 13, op := Op.fieldAddr 63 (Operand.tmp 5) 0, type := 0, pos := "ref.go:254", after := #[], guard := none }) (v := ?_) rfl (by kernel_rfl) (by kernel_rfl) (by kernel_rfl) (fun _ _ _ h => h) (Or.inl ⟨by rfl, ?_⟩) (by assumption) ?_
      rotate_left
      · ((intro w hSw; (try dsimp only at hSw); go_simp; (try rw [if_neg (by omega)])); try with_reducible rfl)
      (try simp only [Act.put, List.setIfInBounds_toArray, List.set_cons_zero, List.set_cons_succ])
      refine wpAnyH_take (i := 1) (oi := { dst := some 14, op := Op.load 61 (Operand.tmp 13), type := 61, pos := "ref.go:254", after := #[{ on := 0, ground := Ground.data }], guard := none }) (v := ?_) rfl (by kernel_rfl) (by kernel_rfl) (by kernel_rfl) (fun _ _ _ h => h) (Or.inl ⟨by rfl, ?_⟩) (by assumption) ?_
      rotate_left
      · ((intro w hSw; (try dsimp only at hSw); go_simp; (try rw [if_neg (by omega)])); try with_reducible rfl)
      (try simp only [Act.put, List.setIfInBounds_toArray, List.set_cons_zero, List.set_cons_succ])
      refine wpAnyH_take (i := 2) (oi := { dst := some 15, op := Op.move (Operand.tmp 0), type := 22, pos := "ref.go:254", after := #[], guard := none }) (v := ?_) rfl (by kernel_rfl) (by kernel_rfl) (by kernel_rfl) (fun _ _ _ h => h) (Or.inl ⟨by rfl, ?_⟩) (by assumption) ?_
      rotate_left
      · ((intro w hSw; (try dsimp only at hSw); go_simp; (try rw [if_neg (by omega)])); try with_reducible rfl)
      (try simp only [Act.put, List.setIfInBounds_toArray, List.set_cons_zero, List.set_cons_succ])
      refine wpAnyH_take (i := 3) (oi := { dst := some 16, op := Op.move (Operand.tmp 6), type := 3, pos := "ref.go:254", after := #[], guard := none }) (v := ?_) rfl (by kernel_rfl) (by kernel_rfl) (by kernel_rfl) (fun _ _ _ h => h) (Or.inl ⟨by rfl, ?_⟩) (by assumption) ?_
      rotate_left
      · ((intro w hSw; (try dsimp only at hSw); go_simp; (try rw [if_neg (by omega)])); try with_reducible rfl)
      (try simp only [Act.put, List.setIfInBounds_toArray, List.set_cons_zero, List.set_cons_succ])
      refine wpAnyH_take (i := 4) (oi := { dst := some 17, op := Op.binOp BinOp.mul 3 (Operand.const (Value.int IntKind.i64 3)) (Operand.tmp 16) 3, type := 3, pos := "ref.go:254", after := #[{ on := 3, ground := Ground.data }], guard := none }) (v := ?_) rfl (by kernel_rfl) (by kernel_rfl) (by kernel_rfl) (fun _ _ _ h => h) (Or.inl ⟨by rfl, ?_⟩) (by assumption) ?_
      rotate_left
      · ((intro w hSw; (try dsimp only at hSw); go_simp; (try rw [if_neg (by omega)])); try with_reducible rfl)
      (try simp only [Act.put, List.setIfInBounds_toArray, List.set_cons_zero, List.set_cons_succ])
      refine wpAnyH_take (i := 6) (oi := { dst := some 19, op := Op.move (Operand.tmp 0), type := 22, pos := "ref.go:254", after := #[], guard := none }) (v := ?_) rfl (by kernel_rfl) (by kernel_rfl) (by kernel_rfl) (fun _ _ _ h => h) (Or.inl ⟨by rfl, ?_⟩) (by assumption) ?_
      rotate_left
      · ((intro w hSw; (try dsimp only at hSw); go_simp; (try rw [if_neg (by omega)])); try with_reducible rfl)
      (try simp only [Act.put, List.setIfInBounds_toArray, List.set_cons_zero, List.set_cons_succ])
      refine wpAnyH_take (i := 7) (oi := { dst := some 20, op := Op.move (Operand.tmp 6), type := 3, pos := "ref.go:254", after := #[], guard := none }) (v := ?_) rfl (by kernel_rfl) (by kernel_rfl) (by kernel_rfl) (fun _ _ _ h => h) (Or.inl ⟨by rfl, ?_⟩) (by assumption) ?_
      rotate_left
      · ((intro w hSw; (try dsimp only at hSw); go_simp; (try rw [if_neg (by omega)])); try with_reducible rfl)
      (try simp only [Act.put, List.setIfInBounds_toArray, List.set_cons_zero, List.set_cons_succ])
      refine wpAnyH_take (i := 8) (oi := { dst := some 21, op := Op.binOp BinOp.mul 3 (Operand.const (Value.int IntKind.i64 3)) (Operand.tmp 20) 3, type := 3, pos := "ref.go:254", after := #[{ on := 7, ground := Ground.data }], guard := none }) (v := ?_) rfl (by kernel_rfl) (by kernel_rfl) (by kernel_rfl) (fun _ _ _ h => h) (Or.inl ⟨by rfl, ?_⟩) (by assumption) ?_
      rotate_left
      · ((intro w hSw; (try dsimp only at hSw); go_simp; (try rw [if_neg (by omega)])); try with_reducible rfl)
      (try simp only [Act.put, List.setIfInBounds_toArray, List.set_cons_zero, List.set_cons_succ])
      refine wpAnyH_take (i := 9) (oi := { dst := some 22, op := Op.binOp BinOp.add 3 (Operand.tmp 21) (Operand.const (Value.int IntKind.i64 1)) 3, type := 3, pos := "ref.go:254", after := #[{ on := 8, ground := Ground.data }], guard := none }) (v := ?_) rfl (by kernel_rfl) (by kernel_rfl) (by kernel_rfl) (fun _ _ _ h => h) (Or.inl ⟨by rfl, ?_⟩) (by assumption) ?_
      rotate_left
      · ((intro w hSw; (try dsimp only at hSw); go_simp; (try rw [if_neg (by omega)])); try with_reducible rfl)
      (try simp only [Act.put, List.setIfInBounds_toArray, List.set_cons_zero, List.set_cons_succ])
      refine wpAnyH_take (i := 11) (oi := { dst := some 24, op := Op.move (Operand.tmp 0), type := 22, pos := "ref.go:254", after := #[], guard := none }) (v := ?_) rfl (by kernel_rfl) (by kernel_rfl) (by kernel_rfl) (fun _ _ _ h => h) (Or.inl ⟨by rfl, ?_⟩) (by assumption) ?_
      rotate_left
      · ((intro w hSw; (try dsimp only at hSw); go_simp; (try rw [if_neg (by omega)])); try with_reducible rfl)
      (try simp only [Act.put, List.setIfInBounds_toArray, List.set_cons_zero, List.set_cons_succ])
      refine wpAnyH_take (i := 12) (oi := { dst := some 25, op := Op.move (Operand.tmp 6), type := 3, pos := "ref.go:254", after := #[], guard := none }) (v := ?_) rfl (by kernel_rfl) (by kernel_rfl) (by kernel_rfl) (fun _ _ _ h => h) (Or.inl ⟨by rfl, ?_⟩) (by assumption) ?_
      rotate_left
      · ((intro w hSw; (try dsimp only at hSw); go_simp; (try rw [if_neg (by omega)])); try with_reducible rfl)
      (try simp only [Act.put, List.setIfInBounds_toArray, List.set_cons_zero, List.set_cons_succ])
      refine wpAnyH_take (i := 13) (oi := { dst := some 26, op := Op.binOp BinOp.mul 3 (Operand.const (Value.int IntKind.i64 3)) (Operand.tmp 25) 3, type := 3, pos := "ref.go:254", after := #[{ on := 12, ground := Ground.data }], guard := none }) (v := ?_) rfl (by kernel_rfl) (by kernel_rfl) (by kernel_rfl) (fun _ _ _ h => h) (Or.inl ⟨by rfl, ?_⟩) (by assumption) ?_
      rotate_left
      · ((intro w hSw; (try dsimp only at hSw); go_simp; (try rw [if_neg (by omega)])); try with_reducible rfl)
      (try simp only [Act.put, List.setIfInBounds_toArray, List.set_cons_zero, List.set_cons_succ])
      refine wpAnyH_take (i := 14) (oi := { dst := some 27, op := Op.binOp BinOp.add 3 (Operand.tmp 26) (Operand.const (Value.int IntKind.i64 2)) 3, type := 3, pos := "ref.go:254", after := #[{ on := 13, ground := Ground.data }], guard := none }) (v := ?_) rfl (by kernel_rfl) (by kernel_rfl) (by kernel_rfl) (fun _ _ _ h => h) (Or.inl ⟨by rfl, ?_⟩) (by assumption) ?_
      rotate_left
      · ((intro w hSw; (try dsimp only at hSw); go_simp; (try rw [if_neg (by omega)])); try with_reducible rfl)
      (try simp only [Act.put, List.setIfInBounds_toArray, List.set_cons_zero, List.set_cons_succ])
      refine wpAnyH_ready (rs := [5]) (by kernel_rfl) (by simp) ?_
      refine AllReadyH.cons (o := { dst := some 18, op := Op.call { callee := Callee.value (Operand.func 71), args := #[Operand.tmp 15, Operand.tmp 17], argTypes := #[22, 3] }, type := 3, pos := "ref.go:254", after := #[{ on := 2, ground := Ground.data }, { on := 4, ground := Ground.data }], guard := none }) rfl (fun K hK => ?_) AllReadyH.nil
      (go_simp; go_at_call 71; refine (number_c (k := 3 * k) HR.out (by omega) _ _ (HV.out _ HSd.out.bel) HLL.out (by omega)).mono ?_; rintro e w3 ⟨rfl, he⟩; have he' := he.symm; subst he'; dsimp only)
      refine hK.out _ _ ?_ (fun hHeld => ?_)
      · first | exact hS1 | exact HS6.out.cell | exact HS5.out.cell | exact x1
      clear hK K
      (try simp only [Act.put, List.setIfInBounds_toArray, List.set_cons_zero, List.set_cons_succ])
      refine wpAnyH_ready (rs := [10]) (by kernel_rfl) (by simp) ?_
      refine AllReadyH.cons (o := { dst := some 23, op := Op.call { callee := Callee.value (Operand.func 71), args := #[Operand.tmp 19, Operand.tmp 22], argTypes := #[22, 3] }, type := 3, pos := "ref.go:254", after := #[{ on := 6, ground := Ground.data }, { on := 9, ground := Ground.data }, { on := 5, ground := Ground.chain }], guard := none }) rfl (fun K hK => ?_) AllReadyH.nil
      (go_simp; go_at_call 71; refine (number_c (k := 3 * k + 1) HR1.out (by omega) _ _ (HV.out _ HSd.out.bel) HLL.out (by omega)).mono ?_; rintro e w3 ⟨rfl, he⟩; have he' := he.symm; subst he'; dsimp only)
      refine hK.out _ _ ?_ (fun hHeld => ?_)
      · first | exact hS1 | exact HS6.out.cell | exact HS5.out.cell | exact x1
      clear hK K
      (try simp only [Act.put, List.setIfInBounds_toArray, List.set_cons_zero, List.set_cons_succ])
      refine wpAnyH_ready (rs := [15]) (by kernel_rfl) (by simp) ?_
      refine AllReadyH.cons (o := { dst := some 28, op := Op.call { callee := Callee.value (Operand.func 71), args := #[Operand.tmp 24, Operand.tmp 27], argTypes := #[22, 3] }, type := 3, pos := "ref.go:254", after := #[{ on := 11, ground := Ground.data }, { on := 14, ground := Ground.data }, { on := 10, ground := Ground.chain }], guard := none }) rfl (fun K hK => ?_) AllReadyH.nil
      (go_simp; go_at_call 71; refine (number_c (k := 3 * k + 2) HR2.out (by omega) _ _ (HV.out _ HSd.out.bel) HLL.out (by omega)).mono ?_; rintro e w3 ⟨rfl, he⟩; have he' := he.symm; subst he'; dsimp only)
      refine hK.out _ _ ?_ (fun hHeld => ?_)
      · first | exact hS1 | exact HS6.out.cell | exact HS5.out.cell | exact x1
      clear hK K
      (try simp only [Act.put, List.setIfInBounds_toArray, List.set_cons_zero, List.set_cons_succ])
      refine wpAnyH_ready (rs := [16]) (by kernel_rfl) (by simp) ?_
      refine AllReadyH.cons (o := { dst := some 29, op := Op.call { callee := Callee.value (Operand.func 97), args := #[Operand.tmp 18, Operand.tmp 23, Operand.tmp 28], argTypes := #[3, 3, 3] }, type := 119, pos := "ref.go:254", after := #[{ on := 5, ground := Ground.data }, { on := 10, ground := Ground.data }, { on := 15, ground := Ground.data }, { on := 15, ground := Ground.chain }], guard := none }) rfl (fun K hK => ?_) AllReadyH.nil
      (go_simp; go_at_call 97; refine (mtent_c HT.out _ hrb.1 hrb.2 hsb.1 hsb.2 htb.1 htb.2).mono ?_; rintro e w5 ⟨rfl, hb5⟩; have HS5 := Lib.hid (HSd.out.keep hb5); have HS6 := Lib.hid (HS5.out.keep (balloc (Below.refl _ w5) (.cells #[.int .i64 tt.1, .int .i64 tt.2.1, .int .i64 tt.2.2] 119))); dsimp only)
      refine hK.out _ _ ?_ (fun hHeld => ?_)
      · first | exact hS1 | exact HS6.out.cell | exact HS5.out.cell | exact x1
      clear hK K
      (try simp only [Act.put, List.setIfInBounds_toArray, List.set_cons_zero, List.set_cons_succ])
      refine wpAnyH_ready (rs := [17]) (by kernel_rfl) (by simp) ?_
      refine AllReadyH.cons (o := { dst := some 30, op := Op.buildSlice 61 1 #[(0, Operand.tmp 29)], type := 61, pos := "ref.go:254", after := #[{ on := 16, ground := Ground.data }], guard := none }) rfl (fun K hK => ?_) AllReadyH.nil
      go_simp
      refine hK.out _ _ ?_ (fun hHeld => ?_)
      · first | exact hS1 | exact HS6.out.cell | exact HS5.out.cell | exact x1
      clear hK K
      (try simp only [Act.put, List.setIfInBounds_toArray, List.set_cons_zero, List.set_cons_succ])
      refine wpAnyH_ready (rs := [18]) (by kernel_rfl) (by simp) ?_
      refine AllReadyH.cons (o := { dst := some 31, op := Op.call { callee := Callee.builtin Builtin.append, args := #[Operand.tmp 14, Operand.tmp 30], argTypes := #[61, 61] }, type := 61, pos := "ref.go:254", after := #[{ on := 1, ground := Ground.data }, { on := 17, ground := Ground.data }, { on := 16, ground := Ground.chain }], guard := none }) rfl (fun K hK => ?_) AllReadyH.nil
      (refine step_append_any (by rfl) _ _ _ (by rfl) (Bx + 1) 119 i1 _ 3 24 Try.underlying61 hi1 hy0 hy1 hy2 rfl (by omega) (.slice va k vc) _ _ (by rfl) HS6.out.an ⟨w5.heap.size, 0, none⟩ 1 1 (AX.tnv tt) (by rfl) (by rfl) (World.news_of_block (cs := #[.int .i64 tt.1, .int .i64 tt.2.1, .int .i64 tt.2.2]) (t := 119) (fr := (0, 0)) (heap_alloc_new w5 _)) (by simp [AX.tnv, Value.oneCell']) (by unfold maxLen; omega) (by omega) (by have := HS6.out.box_lt; simp at this ⊢; omega) ?_; intro v' w6 hown1 hgrow hat; obtain ⟨gg, cap', rfl⟩ := ownsRow_succ hown1; obtain ⟨hbx6, hs7⟩ := HS6.out.push hgrow hown1; have hS1 : w6.cell? ⟨Bx, 0, none⟩ = some (.slice va k vc) := (by simp only [World.cell?, hbx6]; rfl); have hfz : w6.frozen? ⟨Bx, 0, none⟩ = false := (by simp [World.frozen?, hbx6]))
      refine hK.out _ _ ?_ (fun hHeld => ?_)
      · first | exact hS1 | exact HS6.out.cell | exact HS5.out.cell | exact x1
      clear hK K
      (try simp only [Act.put, List.setIfInBounds_toArray, List.set_cons_zero, List.set_cons_succ])
      refine wpAnyH_take (i := 19) (oi := { dst := some 32, op := Op.fieldAddr 63 (Operand.tmp 5) 0, type := 0, pos := "ref.go:254", after := #[{ on := 0, ground := Ground.phase }, { on := 1, ground := Ground.phase }, { on := 2, ground := Ground.phase }, { on := 3, ground := Ground.phase }, { on := 4, ground := Ground.phase }, { on := 5, ground := Ground.phase }, { on := 6, ground := Ground.phase }, { on := 7, ground := Ground.phase }, { on := 8, ground := Ground.phase }, { on := 9, ground := Ground.phase }, { on := 10, ground := Ground.phase }, { on := 11, ground := Ground.phase }, { on := 12, ground := Ground.phase }, { on := 13, ground := Ground.phase }, { on := 14, ground := Ground.phase }, { on := 15, ground := Ground.phase }, { on := 16, ground := Ground.phase }, { on := 17, ground := Ground.phase }, { on := 18, ground := Ground.phase }], guard := none }) (v := ?_) rfl (by kernel_rfl) (by kernel_rfl) (by kernel_rfl) (fun _ _ _ h => h) (Or.inl ⟨by rfl, ?_⟩) (by assumption) ?_
      rotate_left
      · ((intro w hSw; (try dsimp only at hSw); go_simp; (try rw [if_neg (by omega)])); try with_reducible rfl)
      (try simp only [Act.put, List.setIfInBounds_toArray, List.set_cons_zero, List.set_cons_succ])
      refine wpAnyH_done (by kernel_rfl) ?_ _
      show Oper.wp _ _ _ _ _ _
      have HS7 := Lib.hid hs7
      clear hs7 hown1 hgrow hat hbx6
      have hf6 : w6.frozen? ⟨Bx, 0, none⟩ = false := hfz
      go_simp
      go_wp2
      go_roundw
      case rel => exact ⟨k + 1, .slice (some ⟨gg, 0, none⟩) (k + 1) cap', by go_num, h1, by rw [HQ.out]; exact HS7.out⟩
      case measure => simp [intOf]; omega
    · obtain rfl : k = n := by omega
      have x1 : wo.cell? ⟨Bx, 0, none⟩ = some (.slice va k vc) := HS.out.cell
      have y0 : wo.cell? ⟨w.heap.size, 0, none⟩ = some (.slice none 0 0) := by have := HS.out.res; simp [World.cell?, this]
      have y1 : wo.frozen? ⟨w.heap.size, 0, none⟩ = false := by have := HS.out.res; simp [World.frozen?, this]
      have hz := (heap_setCell_same wo w.heap.size 0 _ _ (.slice va k vc) HS.out.res)
      have HZ := Lib.hid hz
      clear hz
      go_wp2
      refine bodyPost_ret (v := .agg #[.slice va k vc]) (results_cell_row Try.results70 _ _ w.heap.size 63 _ (0, 0) _ rfl HZ.out Try.underlying63 rfl (by kernel_rfl)) rfl ?_
      have hgs : wo.grownBy (wo.setCell ⟨w.heap.size, 0, none⟩ (.slice va k vc)) (some w.heap.size) := ⟨rfl, rfl, rfl, by simp, fun j _ hk => Below.heap_setCell _ _ _ j (fun e => hk (by rw [e]))⟩
      exact ⟨_, rfl, own_of_grown (own_base HS.out.an (by have := HS.out.le; omega)) hgs (fun q h1 e => by have := (HS.out.an.lt q h1).1; have := HS.out.le; have := Option.some.inj e; omega), bset HS.out.bel (Nat.le_refl _) _⟩
end Go.Proofs.Ytanppbdlcinpfaa
