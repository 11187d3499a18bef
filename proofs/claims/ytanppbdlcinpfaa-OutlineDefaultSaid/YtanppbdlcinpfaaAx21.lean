/- Texts merged: Ax20, Ax21. No conditions. -/
import Derived.Test.YtanppbdlcinpfaaAx19
import Derived.Test.YtanppbdlcinpfaaAx2a
import Derived.Test.YtanppbdlcinpfaaApp
import Derived.Maps.AppendAt
import Derived.Laws.AppendOwnNone
import Derived.Deep.Cut
/- Rows of elements of several cells, as sources of an append; the numbers that make things. No conditions. -/
section
namespace Go.Proofs.Ytanppbdlcinpfaa.AX
set_option linter.unusedVariables false
def tnv (t : Tn) : List Value := [.int .i64 t.1, .int .i64 t.2.1, .int .i64 t.2.2]
def prv (t : Pr) : List Value := [.int .i64 t.1, .int .i64 t.2]
def tnc (l : List Tn) : List Value := l.flatMap tnv
def prc (l : List Pr) : List Value := l.flatMap prv
theorem flat_len {α : Type} {f : α → List Value} {k : Nat} (hf : ∀ x, (f x).length = k) : ∀ l : List α, (l.flatMap f).length = l.length * k
  | [] => by simp
  | x :: l => by rw [List.flatMap_cons, List.length_append, hf, flat_len hf l, List.length_cons, Nat.add_mul, Nat.one_mul, Nat.add_comm]
theorem flat_at {α : Type} {f : α → List Value} {k : Nat} (hf : ∀ x, (f x).length = k) : ∀ (l : List α) (i : Nat) (x : α) (j : Nat) (u : Value), l[i]? = some x → (f x)[j]? = some u → (l.flatMap f)[i * k + j]? = some u
  | [], i, x, j, u, h, _ => by simp at h
  | y :: l, 0, x, j, u, h, hu => by
    obtain rfl : y = x := by simpa using h
    rw [List.flatMap_cons, Nat.zero_mul, Nat.zero_add, List.getElem?_append_left (List.getElem?_eq_some_iff.1 hu).1]
    exact hu
  | y :: l, i + 1, x, j, u, h, hu => by
    have h' : l[i]? = some x := by simpa using h
    rw [List.flatMap_cons, List.getElem?_append_right (by rw [hf, Nat.add_mul]; omega), hf, show (i + 1) * k + j - k = i * k + j by rw [Nat.add_mul]; omega]
    exact flat_at hf l i x j u h' hu
theorem flat_take {α : Type} {f : α → List Value} {k : Nat} (hf : ∀ x, (f x).length = k) : ∀ (l : List α) (m : Nat), (l.take m).flatMap f = (l.flatMap f).take (m * k)
  | [], m => by simp
  | x :: l, 0 => by simp
  | x :: l, m + 1 => by
    rw [List.take_succ_cons, List.flatMap_cons, List.flatMap_cons, flat_take hf l m, Nat.add_mul, Nat.one_mul, Nat.add_comm (m * k) k, List.take_append, hf, List.take_of_length_le (l := f x) (by rw [hf]; omega), show k + m * k - k = m * k by omega]
theorem tnv_len (t : Tn) : (tnv t).length = 3 := rfl
theorem prv_len (t : Pr) : (prv t).length = 2 := rfl
theorem tnc_len (l : List Tn) : (tnc l).length = l.length * 3 := flat_len tnv_len l
theorem prc_len (l : List Pr) : (prc l).length = l.length * 2 := flat_len prv_len l
theorem tnc_app (l m : List Tn) : tnc (l ++ m) = tnc l ++ tnc m := List.flatMap_append
theorem prc_app (l m : List Pr) : prc (l ++ m) = prc l ++ prc m := List.flatMap_append
theorem tnc_one (l : List Tn) : ∀ u ∈ tnc l, u.oneCell' = true := fun u hu => by
  obtain ⟨p, -, h⟩ := List.mem_flatMap.1 hu
  unfold tnv at h
  simp at h
  rcases h with rfl | rfl | rfl <;> rfl
theorem prc_one (l : List Pr) : ∀ u ∈ prc l, u.oneCell' = true := fun u hu => by
  obtain ⟨p, -, h⟩ := List.mem_flatMap.1 hu
  unfold prv at h
  simp at h
  rcases h with rfl | rfl <;> rfl
end Go.Proofs.Ytanppbdlcinpfaa.AX
namespace Go.Proofs.Ytanppbdlcinpfaa
set_option maxRecDepth 100000
set_option linter.unusedVariables false
open Go.RowKit Go.Deep
/-- A row of n elements of k cells each: what an append may read. -/
def SrcN (k : Nat) (W : World) (v : Value) (n : Nat) (U : List Value) : Prop := ∃ ao c, v = .slice ao n c ∧ U.length = n * k ∧ ((n = 0 ∧ (ao = none → c = 0)) ∨ ∃ g o, ao = some ⟨g, o, none⟩ ∧ g < W.heap.size ∧ ∀ (j : Nat) (u : Value), U[j]? = some u → W.cell? ⟨g, o + j, none⟩ = some u)
theorem SrcN.keep {k : Nat} {W W' : World} {v : Value} {n : Nat} {U : List Value} (h : SrcN k W v n U) (hb : Below W.heap.size W W') : SrcN k W' v n U := by
  obtain ⟨ao, c, e, hl, h⟩ := h
  refine ⟨ao, c, e, hl, ?_⟩
  rcases h with h | ⟨g, o, e2, hg, hc⟩
  · exact .inl h
  · exact .inr ⟨g, o, e2, Nat.lt_of_lt_of_le hg hb.size, fun j u hu => (hb.cell (p := ⟨g, o + j, none⟩) hg).trans (hc j u hu)⟩
theorem SrcN.nil (k : Nat) (W : World) : SrcN k W (.slice none 0 0) 0 [] := ⟨none, 0, rfl, by simp, .inl ⟨rfl, fun _ => rfl⟩⟩
theorem SrcN.take {k : Nat} {W : World} {a : Option Addr} {n c m : Nat} {U : List Value} (h : SrcN k W (.slice a n c) n U) (hm : m ≤ n) : SrcN k W (.slice a m c) m (U.take (m * k)) := by
  obtain ⟨ao, c', e, hl, h⟩ := h
  injection e with e1 e2 e3
  subst e1 e3
  refine ⟨a, c, rfl, by rw [List.length_take, hl]; exact Nat.min_eq_left (Nat.mul_le_mul_right k hm), ?_⟩
  rcases h with ⟨h, h'⟩ | ⟨g, o, e2, hg, hc⟩
  · exact .inl ⟨by omega, h'⟩
  · refine .inr ⟨g, o, e2, hg, fun j u hu => hc j u ?_⟩
    rw [List.getElem?_take] at hu
    split at hu
    · exact hu
    · simp at hu
theorem own_srcN {W : World} {B e k n : Nat} {v : Value} {U : List Value} (h : W.ownsRow B e k v n U) : SrcN k W v n U := by
  rcases h.2 with ⟨hv, h0⟩ | ⟨g, cap, cur, hv, hb, hg, _, _, _, hU⟩
  · exact ⟨none, 0, by rw [hv, h0], h.1, .inl ⟨h0, fun _ => rfl⟩⟩
  · refine ⟨_, cap, hv, h.1, .inr ⟨g, 0, rfl, (Array.getElem?_eq_some_iff.1 hg).1, fun j u hu => ?_⟩⟩
    rw [← hU, List.getElem?_take] at hu
    split at hu
    · simp only [World.cell?, hg, Nat.zero_add]
      simpa using hu
    · simp at hu
theorem srcN_new (w : World) (U : List Value) (T : TypeId) (k n c : Nat) (hl : U.length = n * k) : SrcN k (w.alloc (.cells U.toArray T)) (.slice (some ⟨w.heap.size, 0, none⟩) n c) n U :=
  ⟨_, c, rfl, hl, .inr ⟨w.heap.size, 0, rfl, by simp, fun j u hu => by
    simp only [World.cell?, heap_alloc_new w (.cells U.toArray T), Nat.zero_add]
    simpa using hu⟩⟩
theorem SrcN.tn {W : World} {v : Value} {l : List AX.Tn} (h : SrcN 3 W v l.length (AX.tnc l)) : TnAt W v l := by
  obtain ⟨ao, c, e, -, h⟩ := h
  refine ⟨ao, c, e, ?_⟩
  rcases h with ⟨h, -⟩ | ⟨g, o, e2, hg, hc⟩
  · exact .inl (List.eq_nil_of_length_eq_zero h)
  · refine .inr ⟨g, o, e2, hg, fun i z hz => ?_⟩
    have k0 := hc _ _ (AX.flat_at AX.tnv_len l i z 0 _ hz rfl)
    have k1 := hc _ _ (AX.flat_at AX.tnv_len l i z 1 _ hz rfl)
    have k2 := hc _ _ (AX.flat_at AX.tnv_len l i z 2 _ hz rfl)
    exact ⟨k0, k1, k2⟩
theorem SrcN.pr {W : World} {v : Value} {l : List AX.Pr} (h : SrcN 2 W v l.length (AX.prc l)) : PrAt W v l := by
  obtain ⟨ao, c, e, -, h⟩ := h
  refine ⟨ao, c, e, ?_⟩
  rcases h with ⟨h, -⟩ | ⟨g, o, e2, hg, hc⟩
  · exact .inl (List.eq_nil_of_length_eq_zero h)
  · refine .inr ⟨g, o, e2, hg, fun i z hz => ?_⟩
    have k0 := hc _ _ (AX.flat_at AX.prv_len l i z 0 _ hz rfl)
    have k1 := hc _ _ (AX.flat_at AX.prv_len l i z 1 _ hz rfl)
    exact ⟨k0, k1⟩
/-- 'append(v, src...)' of elements of k cells. -/
theorem wpList_appN {P : Program} (w : World) {ops : Array Oper} {rest : List Oper} {o : Oper} {a : Act} {Q : Exit → Act → World → Prop} (hgd : o.guard = none) (s x : Operand) (t : TypeId)
    (ho : o.op = .call { callee := .builtin .append, args := #[s, x], argTypes := #[t, t] })
    (base : Nat) (e : TypeId) (i : TypeInfo) (z : Value) (k bytes : Nat) (ht : P.underlying t = some (.slice e)) (hi : P.info? e = some i) (hz : i.zero = some z)
    (hsize : i.size = k) (hby : i.bytes = bytes) (hzs : z.cells.size = k) (hk : 0 < k)
    (v : Value) (n : Nat) (xs : List Value) (hs : a.eval s = v) (hown : w.ownsRow base e k v n xs)
    (vx : Value) (m : Nat) (U : List Value) (hx : a.eval x = vx) (hS : SrcN k w vx m U) (h1 : ∀ u ∈ U, u.oneCell' = true)
    (h63 : n + m ≤ maxLen) (hbytes : (n + m) * bytes ≤ 140737488355328) (hbase : base ≤ w.heap.size)
    (h : ∀ v' w', w'.ownsRow base e k v' (n + m) (xs ++ U) → w.grownBy w' v.ownBlock → (v'.ownBlock = v.ownBlock ∨ v'.ownBlock = some w.heap.size) → wpList P ops Q rest (a.put o.dst v') w') : wpList P ops Q (o :: rest) a w := by
  obtain ⟨ao, c, rfl, hl, hU⟩ := hS
  rcases hU with ⟨hm, hc⟩ | ⟨g, of, rfl, hg, hcells⟩
  · subst hm
    obtain rfl : U = [] := List.eq_nil_of_length_eq_zero (by rw [hl]; simp)
    cases ao with
    | none =>
      obtain rfl := hc rfl
      refine wpList_append_own_none hgd s x t ho base e i k ht hi v n xs hs hown (by simpa using hx) (h v w (by simpa using hown) (World.grownBy.refl _ _) (.inl rfl))
    | some ad =>
      refine wpList_append_own_at w hgd s x t ho base e i z k bytes ht hi hz hsize hby hzs hk v n xs hs hown ad 0 c [] (by simpa using hx) (by simp) (by simp) (by simp) (by simpa using h63) (by simpa using hbytes) hbase (fun v' w' h1 h2 h3 h4 => h v' w' (by simpa using h1) h2 h4)
  · refine wpList_append_own_at w hgd s x t ho base e i z k bytes ht hi hz hsize hby hzs hk v n xs hs hown ⟨g, of, none⟩ m c U hx hl (fun j u hj => ?_) h1 h63 hbytes hbase (fun v' w' h1 h2 h3 h4 => h v' w' h1 h2 h4)
    rw [Addr.add_lit]
    exact hcells j u hj
theorem info_tn : (Try.prog.info? 119).map (fun i => (i.zero, i.size, i.bytes)) = some (some (.agg #[.int .i64 0, .int .i64 0, .int .i64 0]), 3, 24) := by kernel_rfl
theorem info_pr : (Try.prog.info? 72).map (fun i => (i.zero, i.size, i.bytes)) = some (some (.agg #[.int .i64 0, .int .i64 0]), 2, 16) := by kernel_rfl
theorem i64_and65535 (n : Int) : bits .and .i64 n 65535 = n % 65536 := by
  have h127 : (BitVec.ofInt 64 65535).toNat = 2 ^ 16 - 1 := by decide
  have key : (BitVec.ofInt 64 n &&& BitVec.ofInt 64 65535).toNat = (n % ((2 ^ 64 : Nat) : Int)).toNat % 2 ^ 16 := by
    rw [BitVec.toNat_and, h127, Nat.and_two_pow_sub_one_eq_mod, BitVec.toNat_ofInt]
  show IntKind.i64.wrap ((BitVec.ofInt 64 n &&& BitVec.ofInt 64 65535).toNat : Nat) = n % 65536
  rw [key, IntKind.wrap_i64]
  omega
set_option maxHeartbeats 2000000 in
theorem number_any (l : List Int) (k : Nat) (v : Value) (w : World) (hv : InAt w v l) (hl : l.length ≤ maxLen) (hk : k ≤ 1000) :
    Calls Try.prog 71 #[v, .int .i64 (k : Int)] w fun e w' => e = .returned (.int .i64 (AX.num l k)) ∧ w' = w := by
  obtain ⟨a, c, rfl, hc⟩ := hv
  obtain ⟨n, hn⟩ : ∃ n, l.length = n := ⟨_, rfl⟩
  have HN := Lib.hid hn
  unfold maxLen at hl
  rw [hn] at hl ⊢
  have hk0 : (0 : Int) ≤ (k : Int) := by omega
  by_cases hin : k < n
  · have hii : (k : Int) < (n : Int) := by omega
    obtain ⟨x, hx⟩ : ∃ x, l[k]? = some x := ⟨l[k]'(by omega), List.getElem?_eq_getElem _⟩
    rcases hc with h | ⟨g, o, rfl, hg, hcl⟩
    · rw [h] at hx
      simp at hx
    have c0 := hcl k x hx
    have HA : Hid (AX.num l k = bits .and .i64 x 65535) := Lib.hid (by rw [i64_and65535]; unfold AX.num; rw [List.getD_eq_getElem?_getD, hx]; rfl)
    clear hcl hx hn
    go_enter Try.func71, Try.ntmps71
    go_wp2
    go_ret
    exact ⟨by rw [HA.out]; rfl, rfl⟩
  · have hii : ¬ (k : Int) < (n : Int) := by omega
    have HA : Hid (AX.num l k = 0) := Lib.hid (by unfold AX.num; rw [List.getD_eq_getElem?_getD, List.getElem?_eq_none (by omega)]; rfl)
    clear hc hn
    go_enter Try.func71, Try.ntmps71
    go_wp2
    go_ret
    exact ⟨by rw [HA.out]; rfl, rfl⟩
theorem number_c {l : List Int} {k : Nat} {z r : Int} (hr : AX.num l k = r) (hz : z = (k : Int)) (v : Value) (w : World) (hv : InAt w v l) (hl : l.length ≤ maxLen) (hk : k ≤ 1000) :
    Calls Try.prog 71 #[v, .int .i64 z] w fun e w' => e = .returned (.int .i64 r) ∧ w' = w := by
  have := number_any l k v w hv hl hk
  rwa [hr, ← hz] at this
theorem two_laid (w : World) (o0 o1 : Obj) : ∃ W2, (w.alloc o0).alloc o1 = W2 ∧ W2.heap[w.heap.size]? = some o0 ∧ Below w.heap.size w W2 :=
  ⟨_, rfl, (Below.block (balloc (Below.refl _ (w.alloc o0)) o1) _ (by simp)).trans (heap_alloc_new w o0), balloc (balloc (Below.refl _ _) _) _⟩
theorem tent_set {V : World} {B : Nat} {p q r : Value} (h : V.heap[B]? = some (.cells #[p, q, r] 119 (0, 0))) (a b c : Int) : (((V.setCell ⟨B, 0, none⟩ (.int .i64 a)).setCell ⟨B, 1, none⟩ (.int .i64 b)).setCell ⟨B, 2, none⟩ (.int .i64 c)).heap[B]? = some (.cells #[.int .i64 a, .int .i64 b, .int .i64 c] 119 (0, 0)) :=
  heap_setCell_same _ B 2 _ _ (.int .i64 c) (heap_setCell_same _ B 1 _ _ (.int .i64 b) (heap_setCell_same V B 0 _ _ (.int .i64 a) h))
set_option maxHeartbeats 8000000 in
theorem mtent_any (a b c : Int) (w : World) (a0 : 0 ≤ a) (a1 : a ≤ 65535) (b0 : 0 ≤ b) (b1 : b ≤ 65535) (c0 : 0 ≤ c) (c1 : c ≤ 65535) :
    Calls Try.prog 97 #[.int .i64 a, .int .i64 b, .int .i64 c] w fun e w' => e = .returned (.agg #[.int .i64 (AX.mkTent a b c).1, .int .i64 (AX.mkTent a b c).2.1, .int .i64 (AX.mkTent a b c).2.2]) ∧ Below w.heap.size w w' := by
  obtain ⟨m, hm⟩ : ∃ m, a / 129 % 7 = m := ⟨_, rfl⟩
  have HT : ∀ p, AX.peakOf a = p → AX.mkTent a b c = if 0 < p then (min (b % 65) p, p, max (c % 65) p) else if p < 0 then (min (-(b % 65)) p, p, max (-(c % 65)) p) else (-(b % 65), 0, c % 65) := by
    intro p hp
    unfold AX.mkTent
    rw [hp]
  have HP : AX.peakOf a = [0, 0, 64, -64, 32, -16, a % 129 - 64].getD m.toNat 0 := by unfold AX.peakOf; rw [hm]
  have hmm : m = 0 ∨ m = 1 ∨ m = 2 ∨ m = 3 ∨ m = 4 ∨ m = 5 ∨ m = 6 := by omega
  obtain ⟨x, hx⟩ : ∃ x, b % 65 = x := ⟨_, rfl⟩
  obtain ⟨y, hy⟩ : ∃ y, c % 65 = y := ⟨_, rfl⟩
  obtain ⟨z, hz⟩ : ∃ z, a % 129 - 64 = z := ⟨_, rfl⟩
  have hxb : 0 ≤ x ∧ x < 65 := by omega
  have hyb : 0 ≤ y ∧ y < 65 := by omega
  have hzb : -64 ≤ z ∧ z ≤ 64 := by omega
  rw [hx, hy] at HT
  rw [hz] at HP
  have k5 : IntKind.i64.wrap (-x) = -x := by rw [IntKind.wrap_i64]; omega
  have k6 : IntKind.i64.wrap (-y) = -y := by rw [IntKind.wrap_i64]; omega
  have HT' := Lib.hid HT
  have HP' := Lib.hid HP
  clear HT HP
  rcases hmm with h | h | h | h | h | h | h <;> subst h
  · have HR := Lib.hid (HT'.out 0 HP'.out)
    go_enter Try.func97, Try.ntmps97
    go_upto_region 8 with fail
    obtain ⟨W2, b2, hbx, hb2⟩ := two_laid w (.cells #[.int .i64 0, .int .i64 0, .int .i64 0] 119) (.cells #[.int .i64 0, .int .i64 0, .int .i64 64, .int .i64 (-64), .int .i64 32, .int .i64 (-16), .int .i64 z] 3)
    rw [b2]
    obtain ⟨B, hB⟩ : ∃ B, w.heap.size = B := ⟨_, rfl⟩
    rw [hB] at hbx ⊢
    have hbl : B ≤ B := Nat.le_refl _
    have x0 : W2.cell? ⟨B, 0, none⟩ = some (.int .i64 0) := by simp [World.cell?, hbx]
    have x1 : W2.cell? ⟨B, 1, none⟩ = some (.int .i64 0) := by simp [World.cell?, hbx]
    have x2 : W2.cell? ⟨B, 2, none⟩ = some (.int .i64 0) := by simp [World.cell?, hbx]
    have f0 : W2.frozen? ⟨B, 0, none⟩ = false := by simp [World.frozen?, hbx]
    have f1 : W2.frozen? ⟨B, 1, none⟩ = false := by simp [World.frozen?, hbx]
    have f2 : W2.frozen? ⟨B, 2, none⟩ = false := by simp [World.frozen?, hbx]
    have HZ := Lib.hid (tent_set hbx (-x) (0) (y))
    have HBR := Lib.hid (bset (bset (bset hb2 (p := ⟨B, 0, none⟩) (by rw [← hB]; exact Nat.le_refl _) (.int .i64 (-x))) (p := ⟨B, 1, none⟩) (by rw [← hB]; exact Nat.le_refl _) (.int .i64 (0))) (p := ⟨B, 2, none⟩) (by rw [← hB]; exact Nat.le_refl _) (.int .i64 (y)))
    clear b2 hbx hb2 hB
    go_wp2_with fail
    refine bodyPost_ret (v := .agg #[.int .i64 (-x), .int .i64 (0), .int .i64 (y)]) (results_cell_row Try.results97 _ _ B 119 _ (0, 0) _ rfl HZ.out Try.underlying119 rfl (by kernel_rfl)) rfl ?_
    exact ⟨by first | (rw [HR.out]; done) | (rw [HR.out]; rfl), HBR.out⟩
  · have HR := Lib.hid (HT'.out 0 HP'.out)
    go_enter Try.func97, Try.ntmps97
    go_upto_region 8 with fail
    obtain ⟨W2, b2, hbx, hb2⟩ := two_laid w (.cells #[.int .i64 0, .int .i64 0, .int .i64 0] 119) (.cells #[.int .i64 0, .int .i64 0, .int .i64 64, .int .i64 (-64), .int .i64 32, .int .i64 (-16), .int .i64 z] 3)
    rw [b2]
    obtain ⟨B, hB⟩ : ∃ B, w.heap.size = B := ⟨_, rfl⟩
    rw [hB] at hbx ⊢
    have hbl : B ≤ B := Nat.le_refl _
    have x0 : W2.cell? ⟨B, 0, none⟩ = some (.int .i64 0) := by simp [World.cell?, hbx]
    have x1 : W2.cell? ⟨B, 1, none⟩ = some (.int .i64 0) := by simp [World.cell?, hbx]
    have x2 : W2.cell? ⟨B, 2, none⟩ = some (.int .i64 0) := by simp [World.cell?, hbx]
    have f0 : W2.frozen? ⟨B, 0, none⟩ = false := by simp [World.frozen?, hbx]
    have f1 : W2.frozen? ⟨B, 1, none⟩ = false := by simp [World.frozen?, hbx]
    have f2 : W2.frozen? ⟨B, 2, none⟩ = false := by simp [World.frozen?, hbx]
    have HZ := Lib.hid (tent_set hbx (-x) (0) (y))
    have HBR := Lib.hid (bset (bset (bset hb2 (p := ⟨B, 0, none⟩) (by rw [← hB]; exact Nat.le_refl _) (.int .i64 (-x))) (p := ⟨B, 1, none⟩) (by rw [← hB]; exact Nat.le_refl _) (.int .i64 (0))) (p := ⟨B, 2, none⟩) (by rw [← hB]; exact Nat.le_refl _) (.int .i64 (y)))
    clear b2 hbx hb2 hB
    go_wp2_with fail
    refine bodyPost_ret (v := .agg #[.int .i64 (-x), .int .i64 (0), .int .i64 (y)]) (results_cell_row Try.results97 _ _ B 119 _ (0, 0) _ rfl HZ.out Try.underlying119 rfl (by kernel_rfl)) rfl ?_
    exact ⟨by first | (rw [HR.out]; done) | (rw [HR.out]; rfl), HBR.out⟩
  · have HR := Lib.hid (HT'.out 64 HP'.out)
    obtain ⟨u2, hu2⟩ : ∃ u, (if y < 64 then 64 else y) = u := ⟨_, rfl⟩
    have hm2 : max y 64 = u2 := by rw [← hu2]; split <;> omega
    have hm1 : min x 64 = x := by omega
    have HR' : Hid (AX.mkTent a b c = (x, 64, u2)) := Lib.hid (by rw [HR.out, if_pos (by decide), hm1, hm2])
    go_enter Try.func97, Try.ntmps97
    go_upto_region 5 with fail
    obtain ⟨W2, b2, hbx, hb2⟩ := two_laid w (.cells #[.int .i64 0, .int .i64 0, .int .i64 0] 119) (.cells #[.int .i64 0, .int .i64 0, .int .i64 64, .int .i64 (-64), .int .i64 32, .int .i64 (-16), .int .i64 z] 3)
    rw [b2]
    obtain ⟨B, hB⟩ : ∃ B, w.heap.size = B := ⟨_, rfl⟩
    rw [hB] at hbx ⊢
    have hbl : B ≤ B := Nat.le_refl _
    have x0 : W2.cell? ⟨B, 0, none⟩ = some (.int .i64 0) := by simp [World.cell?, hbx]
    have x1 : W2.cell? ⟨B, 1, none⟩ = some (.int .i64 0) := by simp [World.cell?, hbx]
    have x2 : W2.cell? ⟨B, 2, none⟩ = some (.int .i64 0) := by simp [World.cell?, hbx]
    have f0 : W2.frozen? ⟨B, 0, none⟩ = false := by simp [World.frozen?, hbx]
    have f1 : W2.frozen? ⟨B, 1, none⟩ = false := by simp [World.frozen?, hbx]
    have f2 : W2.frozen? ⟨B, 2, none⟩ = false := by simp [World.frozen?, hbx]
    have HZ := Lib.hid (tent_set hbx (x) (64) (u2))
    have HBR := Lib.hid (bset (bset (bset hb2 (p := ⟨B, 0, none⟩) (by rw [← hB]; exact Nat.le_refl _) (.int .i64 (x))) (p := ⟨B, 1, none⟩) (by rw [← hB]; exact Nat.le_refl _) (.int .i64 (64))) (p := ⟨B, 2, none⟩) (by rw [← hB]; exact Nat.le_refl _) (.int .i64 (u2)))
    clear b2 hbx hb2 hB
    go_wp2_with fail
    refine bodyPost_ret (v := .agg #[.int .i64 (x), .int .i64 (64), .int .i64 (u2)]) (results_cell_row Try.results97 _ _ B 119 _ (0, 0) _ rfl HZ.out Try.underlying119 rfl (by kernel_rfl)) rfl ?_
    exact ⟨by first | (rw [HR'.out]; done) | (rw [HR'.out]; rfl), HBR.out⟩
  · have HR := Lib.hid (HT'.out (-64) HP'.out)
    obtain ⟨u1, hu1⟩ : ∃ u, (if x < 64 then -64 else -x) = u := ⟨_, rfl⟩
    have hm1 : min (-x) (-64) = u1 := by rw [← hu1]; split <;> omega
    have hm2 : max (-y) (-64) = -y := by omega
    have HR' : Hid (AX.mkTent a b c = (u1, -64, -y)) := Lib.hid (by rw [HR.out, if_neg (by decide), if_pos (by decide), hm1, hm2])
    go_enter Try.func97, Try.ntmps97
    go_upto_region 7 with fail
    obtain ⟨W2, b2, hbx, hb2⟩ := two_laid w (.cells #[.int .i64 0, .int .i64 0, .int .i64 0] 119) (.cells #[.int .i64 0, .int .i64 0, .int .i64 64, .int .i64 (-64), .int .i64 32, .int .i64 (-16), .int .i64 z] 3)
    rw [b2]
    obtain ⟨B, hB⟩ : ∃ B, w.heap.size = B := ⟨_, rfl⟩
    rw [hB] at hbx ⊢
    have hbl : B ≤ B := Nat.le_refl _
    have x0 : W2.cell? ⟨B, 0, none⟩ = some (.int .i64 0) := by simp [World.cell?, hbx]
    have x1 : W2.cell? ⟨B, 1, none⟩ = some (.int .i64 0) := by simp [World.cell?, hbx]
    have x2 : W2.cell? ⟨B, 2, none⟩ = some (.int .i64 0) := by simp [World.cell?, hbx]
    have f0 : W2.frozen? ⟨B, 0, none⟩ = false := by simp [World.frozen?, hbx]
    have f1 : W2.frozen? ⟨B, 1, none⟩ = false := by simp [World.frozen?, hbx]
    have f2 : W2.frozen? ⟨B, 2, none⟩ = false := by simp [World.frozen?, hbx]
    have HZ := Lib.hid (tent_set hbx (u1) (-64) (-y))
    have HBR := Lib.hid (bset (bset (bset hb2 (p := ⟨B, 0, none⟩) (by rw [← hB]; exact Nat.le_refl _) (.int .i64 (u1))) (p := ⟨B, 1, none⟩) (by rw [← hB]; exact Nat.le_refl _) (.int .i64 (-64))) (p := ⟨B, 2, none⟩) (by rw [← hB]; exact Nat.le_refl _) (.int .i64 (-y)))
    clear b2 hbx hb2 hB
    go_wp2_with fail
    refine bodyPost_ret (v := .agg #[.int .i64 (u1), .int .i64 (-64), .int .i64 (-y)]) (results_cell_row Try.results97 _ _ B 119 _ (0, 0) _ rfl HZ.out Try.underlying119 rfl (by kernel_rfl)) rfl ?_
    exact ⟨by first | (rw [HR'.out]; done) | (rw [HR'.out]; rfl), HBR.out⟩
  · have HR := Lib.hid (HT'.out 32 HP'.out)
    obtain ⟨u1, hu1⟩ : ∃ u, (if 32 < x then 32 else x) = u := ⟨_, rfl⟩
    obtain ⟨u2, hu2⟩ : ∃ u, (if y < 32 then 32 else y) = u := ⟨_, rfl⟩
    have hm1 : min x 32 = u1 := by rw [← hu1]; split <;> omega
    have hm2 : max y 32 = u2 := by rw [← hu2]; split <;> omega
    have HR' : Hid (AX.mkTent a b c = (u1, 32, u2)) := Lib.hid (by rw [HR.out, if_pos (by decide), hm1, hm2])
    go_enter Try.func97, Try.ntmps97
    go_upto_region 5 with fail
    obtain ⟨W2, b2, hbx, hb2⟩ := two_laid w (.cells #[.int .i64 0, .int .i64 0, .int .i64 0] 119) (.cells #[.int .i64 0, .int .i64 0, .int .i64 64, .int .i64 (-64), .int .i64 32, .int .i64 (-16), .int .i64 z] 3)
    rw [b2]
    obtain ⟨B, hB⟩ : ∃ B, w.heap.size = B := ⟨_, rfl⟩
    rw [hB] at hbx ⊢
    have hbl : B ≤ B := Nat.le_refl _
    have x0 : W2.cell? ⟨B, 0, none⟩ = some (.int .i64 0) := by simp [World.cell?, hbx]
    have x1 : W2.cell? ⟨B, 1, none⟩ = some (.int .i64 0) := by simp [World.cell?, hbx]
    have x2 : W2.cell? ⟨B, 2, none⟩ = some (.int .i64 0) := by simp [World.cell?, hbx]
    have f0 : W2.frozen? ⟨B, 0, none⟩ = false := by simp [World.frozen?, hbx]
    have f1 : W2.frozen? ⟨B, 1, none⟩ = false := by simp [World.frozen?, hbx]
    have f2 : W2.frozen? ⟨B, 2, none⟩ = false := by simp [World.frozen?, hbx]
    have HZ := Lib.hid (tent_set hbx (u1) (32) (u2))
    have HBR := Lib.hid (bset (bset (bset hb2 (p := ⟨B, 0, none⟩) (by rw [← hB]; exact Nat.le_refl _) (.int .i64 (u1))) (p := ⟨B, 1, none⟩) (by rw [← hB]; exact Nat.le_refl _) (.int .i64 (32))) (p := ⟨B, 2, none⟩) (by rw [← hB]; exact Nat.le_refl _) (.int .i64 (u2)))
    clear b2 hbx hb2 hB
    go_wp2_with fail
    refine bodyPost_ret (v := .agg #[.int .i64 (u1), .int .i64 (32), .int .i64 (u2)]) (results_cell_row Try.results97 _ _ B 119 _ (0, 0) _ rfl HZ.out Try.underlying119 rfl (by kernel_rfl)) rfl ?_
    exact ⟨by first | (rw [HR'.out]; done) | (rw [HR'.out]; rfl), HBR.out⟩
  · have HR := Lib.hid (HT'.out (-16) HP'.out)
    obtain ⟨u1, hu1⟩ : ∃ u, (if x < 16 then -16 else -x) = u := ⟨_, rfl⟩
    obtain ⟨u2, hu2⟩ : ∃ u, (if 16 < y then -16 else -y) = u := ⟨_, rfl⟩
    have hm1 : min (-x) (-16) = u1 := by rw [← hu1]; split <;> omega
    have hm2 : max (-y) (-16) = u2 := by rw [← hu2]; split <;> omega
    have HR' : Hid (AX.mkTent a b c = (u1, -16, u2)) := Lib.hid (by rw [HR.out, if_neg (by decide), if_pos (by decide), hm1, hm2])
    go_enter Try.func97, Try.ntmps97
    go_upto_region 7 with fail
    obtain ⟨W2, b2, hbx, hb2⟩ := two_laid w (.cells #[.int .i64 0, .int .i64 0, .int .i64 0] 119) (.cells #[.int .i64 0, .int .i64 0, .int .i64 64, .int .i64 (-64), .int .i64 32, .int .i64 (-16), .int .i64 z] 3)
    rw [b2]
    obtain ⟨B, hB⟩ : ∃ B, w.heap.size = B := ⟨_, rfl⟩
    rw [hB] at hbx ⊢
    have hbl : B ≤ B := Nat.le_refl _
    have x0 : W2.cell? ⟨B, 0, none⟩ = some (.int .i64 0) := by simp [World.cell?, hbx]
    have x1 : W2.cell? ⟨B, 1, none⟩ = some (.int .i64 0) := by simp [World.cell?, hbx]
    have x2 : W2.cell? ⟨B, 2, none⟩ = some (.int .i64 0) := by simp [World.cell?, hbx]
    have f0 : W2.frozen? ⟨B, 0, none⟩ = false := by simp [World.frozen?, hbx]
    have f1 : W2.frozen? ⟨B, 1, none⟩ = false := by simp [World.frozen?, hbx]
    have f2 : W2.frozen? ⟨B, 2, none⟩ = false := by simp [World.frozen?, hbx]
    have HZ := Lib.hid (tent_set hbx (u1) ((-16)) (u2))
    have HBR := Lib.hid (bset (bset (bset hb2 (p := ⟨B, 0, none⟩) (by rw [← hB]; exact Nat.le_refl _) (.int .i64 (u1))) (p := ⟨B, 1, none⟩) (by rw [← hB]; exact Nat.le_refl _) (.int .i64 ((-16)))) (p := ⟨B, 2, none⟩) (by rw [← hB]; exact Nat.le_refl _) (.int .i64 (u2)))
    clear b2 hbx hb2 hB
    go_wp2_with fail
    refine bodyPost_ret (v := .agg #[.int .i64 (u1), .int .i64 ((-16)), .int .i64 (u2)]) (results_cell_row Try.results97 _ _ B 119 _ (0, 0) _ rfl HZ.out Try.underlying119 rfl (by kernel_rfl)) rfl ?_
    exact ⟨by first | (rw [HR'.out]; done) | (rw [HR'.out]; rfl), HBR.out⟩
  · have HR := Lib.hid (HT'.out z HP'.out)
    by_cases hz1 : 0 < z
    · skip
      obtain ⟨u1, hu1⟩ : ∃ u, (if z < x then z else x) = u := ⟨_, rfl⟩
      obtain ⟨u2, hu2⟩ : ∃ u, (if y < z then z else y) = u := ⟨_, rfl⟩
      have hm1 : min x z = u1 := by rw [← hu1]; split <;> omega
      have hm2 : max y z = u2 := by rw [← hu2]; split <;> omega
      have HR' : Hid (AX.mkTent a b c = (u1, z, u2)) := Lib.hid (by rw [HR.out, if_pos hz1, hm1, hm2])
      go_enter Try.func97, Try.ntmps97
      go_upto_region 5 with fail
      obtain ⟨W2, b2, hbx, hb2⟩ := two_laid w (.cells #[.int .i64 0, .int .i64 0, .int .i64 0] 119) (.cells #[.int .i64 0, .int .i64 0, .int .i64 64, .int .i64 (-64), .int .i64 32, .int .i64 (-16), .int .i64 z] 3)
      rw [b2]
      obtain ⟨B, hB⟩ : ∃ B, w.heap.size = B := ⟨_, rfl⟩
      rw [hB] at hbx ⊢
      have hbl : B ≤ B := Nat.le_refl _
      have x0 : W2.cell? ⟨B, 0, none⟩ = some (.int .i64 0) := by simp [World.cell?, hbx]
      have x1 : W2.cell? ⟨B, 1, none⟩ = some (.int .i64 0) := by simp [World.cell?, hbx]
      have x2 : W2.cell? ⟨B, 2, none⟩ = some (.int .i64 0) := by simp [World.cell?, hbx]
      have f0 : W2.frozen? ⟨B, 0, none⟩ = false := by simp [World.frozen?, hbx]
      have f1 : W2.frozen? ⟨B, 1, none⟩ = false := by simp [World.frozen?, hbx]
      have f2 : W2.frozen? ⟨B, 2, none⟩ = false := by simp [World.frozen?, hbx]
      have HZ := Lib.hid (tent_set hbx (u1) (z) (u2))
      have HBR := Lib.hid (bset (bset (bset hb2 (p := ⟨B, 0, none⟩) (by rw [← hB]; exact Nat.le_refl _) (.int .i64 (u1))) (p := ⟨B, 1, none⟩) (by rw [← hB]; exact Nat.le_refl _) (.int .i64 (z))) (p := ⟨B, 2, none⟩) (by rw [← hB]; exact Nat.le_refl _) (.int .i64 (u2)))
      clear b2 hbx hb2 hB
      go_wp2_with fail
      refine bodyPost_ret (v := .agg #[.int .i64 (u1), .int .i64 (z), .int .i64 (u2)]) (results_cell_row Try.results97 _ _ B 119 _ (0, 0) _ rfl HZ.out Try.underlying119 rfl (by kernel_rfl)) rfl ?_
      exact ⟨by first | (rw [HR'.out]; done) | (rw [HR'.out]; rfl), HBR.out⟩
    · by_cases hz2 : z < 0
      · skip
        obtain ⟨u1, hu1⟩ : ∃ u, (if z < -x then z else -x) = u := ⟨_, rfl⟩
        obtain ⟨u2, hu2⟩ : ∃ u, (if -y < z then z else -y) = u := ⟨_, rfl⟩
        have hm1 : min (-x) z = u1 := by rw [← hu1]; split <;> omega
        have hm2 : max (-y) z = u2 := by rw [← hu2]; split <;> omega
        have HR' : Hid (AX.mkTent a b c = (u1, z, u2)) := Lib.hid (by rw [HR.out, if_neg hz1, if_pos hz2, hm1, hm2])
        go_enter Try.func97, Try.ntmps97
        go_upto_region 7 with fail
        obtain ⟨W2, b2, hbx, hb2⟩ := two_laid w (.cells #[.int .i64 0, .int .i64 0, .int .i64 0] 119) (.cells #[.int .i64 0, .int .i64 0, .int .i64 64, .int .i64 (-64), .int .i64 32, .int .i64 (-16), .int .i64 z] 3)
        rw [b2]
        obtain ⟨B, hB⟩ : ∃ B, w.heap.size = B := ⟨_, rfl⟩
        rw [hB] at hbx ⊢
        have hbl : B ≤ B := Nat.le_refl _
        have x0 : W2.cell? ⟨B, 0, none⟩ = some (.int .i64 0) := by simp [World.cell?, hbx]
        have x1 : W2.cell? ⟨B, 1, none⟩ = some (.int .i64 0) := by simp [World.cell?, hbx]
        have x2 : W2.cell? ⟨B, 2, none⟩ = some (.int .i64 0) := by simp [World.cell?, hbx]
        have f0 : W2.frozen? ⟨B, 0, none⟩ = false := by simp [World.frozen?, hbx]
        have f1 : W2.frozen? ⟨B, 1, none⟩ = false := by simp [World.frozen?, hbx]
        have f2 : W2.frozen? ⟨B, 2, none⟩ = false := by simp [World.frozen?, hbx]
        have HZ := Lib.hid (tent_set hbx (u1) (z) (u2))
        have HBR := Lib.hid (bset (bset (bset hb2 (p := ⟨B, 0, none⟩) (by rw [← hB]; exact Nat.le_refl _) (.int .i64 (u1))) (p := ⟨B, 1, none⟩) (by rw [← hB]; exact Nat.le_refl _) (.int .i64 (z))) (p := ⟨B, 2, none⟩) (by rw [← hB]; exact Nat.le_refl _) (.int .i64 (u2)))
        clear b2 hbx hb2 hB
        go_wp2_with fail
        refine bodyPost_ret (v := .agg #[.int .i64 (u1), .int .i64 (z), .int .i64 (u2)]) (results_cell_row Try.results97 _ _ B 119 _ (0, 0) _ rfl HZ.out Try.underlying119 rfl (by kernel_rfl)) rfl ?_
        exact ⟨by first | (rw [HR'.out]; done) | (rw [HR'.out]; rfl), HBR.out⟩
      · have HR' : Hid (AX.mkTent a b c = (-x, 0, y)) := Lib.hid (by rw [HR.out, if_neg hz1, if_neg hz2])
        go_enter Try.func97, Try.ntmps97
        go_upto_region 8 with fail
        obtain ⟨W2, b2, hbx, hb2⟩ := two_laid w (.cells #[.int .i64 0, .int .i64 0, .int .i64 0] 119) (.cells #[.int .i64 0, .int .i64 0, .int .i64 64, .int .i64 (-64), .int .i64 32, .int .i64 (-16), .int .i64 z] 3)
        rw [b2]
        obtain ⟨B, hB⟩ : ∃ B, w.heap.size = B := ⟨_, rfl⟩
        rw [hB] at hbx ⊢
        have hbl : B ≤ B := Nat.le_refl _
        have x0 : W2.cell? ⟨B, 0, none⟩ = some (.int .i64 0) := by simp [World.cell?, hbx]
        have x1 : W2.cell? ⟨B, 1, none⟩ = some (.int .i64 0) := by simp [World.cell?, hbx]
        have x2 : W2.cell? ⟨B, 2, none⟩ = some (.int .i64 0) := by simp [World.cell?, hbx]
        have f0 : W2.frozen? ⟨B, 0, none⟩ = false := by simp [World.frozen?, hbx]
        have f1 : W2.frozen? ⟨B, 1, none⟩ = false := by simp [World.frozen?, hbx]
        have f2 : W2.frozen? ⟨B, 2, none⟩ = false := by simp [World.frozen?, hbx]
        have HZ := Lib.hid (tent_set hbx (-x) (0) (y))
        have HBR := Lib.hid (bset (bset (bset hb2 (p := ⟨B, 0, none⟩) (by rw [← hB]; exact Nat.le_refl _) (.int .i64 (-x))) (p := ⟨B, 1, none⟩) (by rw [← hB]; exact Nat.le_refl _) (.int .i64 (0))) (p := ⟨B, 2, none⟩) (by rw [← hB]; exact Nat.le_refl _) (.int .i64 (y)))
        clear b2 hbx hb2 hB
        go_wp2_with fail
        refine bodyPost_ret (v := .agg #[.int .i64 (-x), .int .i64 (0), .int .i64 (y)]) (results_cell_row Try.results97 _ _ B 119 _ (0, 0) _ rfl HZ.out Try.underlying119 rfl (by kernel_rfl)) rfl ?_
        exact ⟨by first | (rw [HR'.out]; done) | (rw [HR'.out]; rfl), HBR.out⟩
theorem mtent_c {a b c : Int} {t : AX.Tn} (h : AX.mkTent a b c = t) (w : World) (a0 : 0 ≤ a) (a1 : a ≤ 65535) (b0 : 0 ≤ b) (b1 : b ≤ 65535) (c0 : 0 ≤ c) (c1 : c ≤ 65535) :
    Calls Try.prog 97 #[.int .i64 a, .int .i64 b, .int .i64 c] w fun e w' => e = .returned (.agg #[.int .i64 t.1, .int .i64 t.2.1, .int .i64 t.2.2]) ∧ Below w.heap.size w w' := by
  have := mtent_any a b c w a0 a1 b0 b1 c0 c1
  rwa [h] at this
end Go.Proofs.Ytanppbdlcinpfaa
end
/- Coordinates and ranges that numbers make. No conditions. -/
section
namespace Go.Proofs.Ytanppbdlcinpfaa.AX
theorem mkAt_succ (l : List Int) (n : Nat) : mkAt l (n + 1) = mkAt l n ++ [mkC l n] := by unfold mkAt; rw [List.range_succ, List.map_append]; rfl
end Go.Proofs.Ytanppbdlcinpfaa.AX
namespace Go.Proofs.Ytanppbdlcinpfaa
set_option maxRecDepth 100000
set_option linter.unusedVariables false
open Go.RowKit Go.Deep
theorem make_ints (w : World) (n B : Nat) (hB : B ≤ w.heap.size) (hn : n ≤ 1000000000) :
    ∃ w', (Instr.makeSlice 22 (.int .i64 (n : Int)) (.int .i64 (n : Int))).run Try.prog w = .ok (.slice (some ⟨w.heap.size, 0, none⟩) n n) w' ∧
      w'.ownsRow B 3 1 (.slice (some ⟨w.heap.size, 0, none⟩) n n) n ((List.replicate n (0 : Int)).map (Value.int .i64)) ∧ Below w.heap.size w w' ∧ w.heap.size < w'.heap.size := by
  obtain ⟨i0, hi, hz0, hz1, hz2⟩ := info_parts info_int
  have h := run_make (P := Try.prog) w 22 3 i0 (.int .i64 0) Try.underlying22 hi hz0 .i64 .i64 n n (by omega) (by omega) (by rw [hz2]; omega) (by omega)
  simp only [Int.toNat_natCast] at h
  refine ⟨_, h, ?_, balloc (Below.refl _ _) _, by simp⟩
  have := World.ownsRow_lit (base := B) (e := 3) (size := 1) w (madeCells #[.int .i64 0] (n * i0.size)) n hB (by unfold maxLen; omega) (by rw [size_madeCells, hz1])
  rw [toList_madeCells_one, hz1, Nat.mul_one] at this
  rw [show (Value.int .i64 0).cells = #[.int .i64 0] from rfl, hz1, Nat.mul_one, List.map_replicate]
  exact this
theorem set_mid (a b : List Int) (x y : Int) : ((a ++ x :: b).map (Value.int .i64)).set a.length (.int .i64 y) = ((a ++ [y]) ++ b).map (Value.int .i64) := by
  simp
set_option maxHeartbeats 4000000 in
theorem madeat_any (l : List Int) (n : Nat) (v : Value) (w : World) (hv : InAt w v l) (hl : l.length ≤ maxLen) (hn : n ≤ 3) :
    Calls Try.prog 32 #[v, .int .i64 (n : Int)] w fun e w' => ∃ v', e = .returned v' ∧ w'.ownsRow w.heap.size 3 1 v' n ((AX.mkAt l n).map (Value.int .i64)) ∧ Below w.heap.size w w' := by
  have HV : Hid (∀ V, Below w.heap.size w V → InAt V v l) := Lib.hid fun V hV => hv.keep hV
  obtain ⟨a, c, rfl, -⟩ := hv
  obtain ⟨w1, hmk, hown, hb1, hw1⟩ := make_ints w n w.heap.size (Nat.le_refl _) (by omega)
  have HLL := Lib.hid hl
  clear hl
  go_enter Try.func32, Try.ntmps32
  go_wp2
  go_loopw [6] (fun v6 wr => ∃ k : Nat, v6 = .int .i64 k ∧ k ≤ n ∧ wr.ownsRow w.heap.size 3 1 (.slice (some ⟨w.heap.size, 0, none⟩) n n) n ((AX.mkAt l k ++ List.replicate (n - k) 0).map (Value.int .i64)) ∧ Below w.heap.size w wr) (fun v _ => n - (intOf v).toNat)
  case atStart => exact ⟨0, rfl, Nat.zero_le _, by simpa [AX.mkAt] using hown, hb1⟩
  case round =>
    obtain ⟨k, rfl, hk, hrow, hb⟩ := hrel
    have hbs := hb.size
    by_cases h1 : k < n
    · have h1i : (k : Int) < (n : Int) := by omega
      have hk0 : (0 : Int) ≤ (k : Int) := by omega
      have hrep : List.replicate (n - k) (0 : Int) = 0 :: List.replicate (n - (k + 1)) 0 := by rw [← List.replicate_succ]; congr 1; omega
      rw [hrep] at hrow
      have HA := Lib.hid (AX.mkAt_succ l k)
      have HK := Lib.hid (AX.mkAt_len l k)
      obtain ⟨r, hr⟩ : ∃ r, AX.num l k = r := ⟨_, rfl⟩
      have hrb := AX.num_bd l k
      rw [hr] at hrb
      obtain ⟨q, hq⟩ : ∃ q, r % 129 = q := ⟨_, rfl⟩
      have hq2 : q = r % 129 := hq.symm
      have hqb : 0 ≤ q ∧ q < 129 := by omega
      have HQ : Hid (AX.mkC l k = q - 64) := Lib.hid (by unfold AX.mkC; rw [hr, hq2])
      have HR := Lib.hid hr
      generalize AX.mkAt l k = A at hrow HA HK
      generalize hR : List.replicate (n - (k + 1)) (0 : Int) = R at hrow
      have HRR := Lib.hid hR
      have hcell := hrow.cellAt k (by omega)
      have hfr := hrow.frozenAt k
      have hst := hrow.stored k (.int .i64 (q - 64))
      have HB3 := Lib.hid hb
      rw [show ((A ++ 0 :: R).map (Value.int .i64))[k]? = some (.int .i64 0) by rw [← HK.out]; simp] at hcell
      have HST := Lib.hid hst
      clear hst hrow hb hR hr hq2 hrep hmk hown
      go_wp2_with fail
      refine (number_c HR.out rfl _ _ (HV.out _ HB3.out) HLL.out (by omega)).mono ?_
      rintro e w3 ⟨rfl, he⟩
      have he' := he.symm
      subst he'
      go_wp2_with fail
      go_roundw
      case rel =>
        refine ⟨k + 1, by go_num, h1, ?_, bset HB3.out (Nat.le_refl _) _⟩
        have h2 := HST.out.1
        have h3 := set_mid A R 0 (q - 64)
        rw [HK.out] at h3
        rw [h3] at h2
        rw [HA.out, HQ.out, HRR.out]
        exact h2
      case measure => simp [intOf]; omega
    · obtain rfl : k = n := by omega
      rw [Nat.sub_self, List.replicate_zero, List.append_nil] at hrow
      clear hmk hown
      go_wp2
      go_ret
      exact ⟨_, rfl, hrow, hb⟩
end Go.Proofs.Ytanppbdlcinpfaa
end
