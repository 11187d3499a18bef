/- Texts merged: Ol10, Ol11, Ax31. No conditions. -/
import Derived.Test.YtanppbdlcinpfaaOl9
import Derived.BigQuiet
import Derived.Test.YtanppbdlcinpfaaAx22
import Derived.Laws.OwnMore
set_option linter.unusedSimpArgs false
set_option linter.unusedVariables false
/- Rows made anew; the numbers of moves. No conditions. -/
section
namespace Go.Proofs.Ytanppbdlcinpfaa
set_option maxRecDepth 100000
set_option linter.unusedVariables false
open Go.RowKit Go.Deep
theorem own_empty (w : World) (e : TypeId) (size B : Nat) (hB : B ≤ w.heap.size) : (w.alloc (.cells #[] e)).ownsRow B e size (.slice (some ⟨w.heap.size, 0, none⟩) 0 0) 0 [] :=
  ⟨by simp, .inr ⟨w.heap.size, 0, #[], rfl, hB, heap_alloc_new w _, Nat.le_refl _, by unfold maxLen; omega, by simp, by simp⟩⟩
theorem eql_nil_pt (w : World) (a : Option Addr) (n c : Nat) : (binOp .eql 53 (.slice a n c) (.slice none 0 0)).run Try.prog w = .ok (.bool a.isNone) w := by
  simp only [binOp]
  simp [Op.equal, Op.maxDepth, Lib.run_equalIn_slice_nil w 9999 53 81 a n c 0 0 Try.underlying53]
theorem info_pt : (Try.prog.info? 81).map (fun i => (i.zero, i.size, i.bytes)) = some (some (.agg #[.int .i64 0, .int .i64 0, .bool false]), 3, 24) := by kernel_rfl
theorem clone_pt (w : World) (v : Value) (l : List Pt) (hv : PtAt w v l) (hl : l.length ≤ 1000) :
    Calls Try.prog 85 #[v] w fun e w' => ∃ v', e = .returned v' ∧ w'.ownsRow w.heap.size 81 3 v' l.length (ptc l) ∧ Below w.heap.size w w' := by
  obtain ⟨i0, hi0, hz0, hz1, hz2⟩ := info_parts info_pt
  have HS : Hid (∀ V, Below w.heap.size w V → SrcN 3 V v l.length (ptc l)) := Lib.hid fun V hV => hv.keep hV
  obtain ⟨a, c, rfl⟩ := hv.shape
  obtain ⟨n, hn⟩ : ∃ n, l.length = n := ⟨_, rfl⟩
  have HN := Lib.hid hn
  rw [hn] at HS hl ⊢
  have hq := eql_nil_pt w a n c
  cases a with
  | none =>
    have h0 : n = 0 := by
      obtain ⟨ao, c', e1, h2, h3⟩ := hv
      injection e1 with e1 _ _
      rcases h3 with ⟨h3, -⟩ | ⟨g, o, e2, -⟩
      · omega
      · rw [← e1] at e2; cases e2
    have hl0 : l = [] := List.eq_nil_of_length_eq_zero (by omega)
    subst h0 hl0
    clear hv hn
    go_enter Try.func85, Try.ntmps85
    go_wp2
    go_ret
    exact ⟨_, rfl, ⟨rfl, .inl ⟨rfl, rfl⟩⟩, Below.refl _ _⟩
  | some a =>
    clear hv hn
    go_enter Try.func85, Try.ntmps85
    go_wp2_with (at_builtin; refine wpList_appN _ rfl _ _ 53 rfl w.heap.size 81 i0 _ 3 24 Try.underlying53 hi0 hz0 hz1 hz2 rfl (by decide) _ 0 [] rfl (own_empty w 81 3 w.heap.size (Nat.le_refl _)) _ n (ptc l) (by rfl) (HS.out _ (balloc (Below.refl _ _) _)) (ptc_one l) (by unfold maxLen; omega) (by omega) (by simp) ?_; intro v' w1 hown hgrow _; obtain ⟨va, vc, rfl⟩ := own_shape hown)
    have hb : Below w.heap.size w w1 := (balloc (Below.refl _ w) (.cells #[] 81)).grown hgrow (by simp) (fun k e => by have : w.heap.size = k := Option.some.inj e; omega)
    rw [Nat.zero_add, List.nil_append] at hown
    go_wp2
    go_ret
    exact ⟨_, rfl, hown, hb⟩
theorem eql_nil_ac (w : World) (a : Option Addr) (n c : Nat) : (binOp .eql 28 (.slice a n c) (.slice none 0 0)).run Try.prog w = .ok (.bool a.isNone) w := by
  simp only [binOp]
  simp [Op.equal, Op.maxDepth, Lib.run_equalIn_slice_nil w 9999 28 30 a n c 0 0 Try.underlying28]
theorem info_ac : (Try.prog.info? 30).map (fun i => (i.zero, i.size, i.bytes)) = some (some (.agg #[.int .i64 0, .int .i64 0, .int .i64 0]), 3, 24) := by kernel_rfl
theorem clone_ac (w : World) (v : Value) (l : List Ac) (hv : AcAt w v l) (hl : l.length ≤ 1000) :
    Calls Try.prog 45 #[v] w fun e w' => ∃ v', e = .returned v' ∧ w'.ownsRow w.heap.size 30 3 v' l.length (acc l) ∧ Below w.heap.size w w' := by
  obtain ⟨i0, hi0, hz0, hz1, hz2⟩ := info_parts info_ac
  have HS : Hid (∀ V, Below w.heap.size w V → SrcN 3 V v l.length (acc l)) := Lib.hid fun V hV => hv.keep hV
  obtain ⟨a, c, rfl⟩ := hv.shape
  obtain ⟨n, hn⟩ : ∃ n, l.length = n := ⟨_, rfl⟩
  have HN := Lib.hid hn
  rw [hn] at HS hl ⊢
  have hq := eql_nil_ac w a n c
  cases a with
  | none =>
    have h0 : n = 0 := by
      obtain ⟨ao, c', e1, h2, h3⟩ := hv
      injection e1 with e1 _ _
      rcases h3 with ⟨h3, -⟩ | ⟨g, o, e2, -⟩
      · omega
      · rw [← e1] at e2; cases e2
    have hl0 : l = [] := List.eq_nil_of_length_eq_zero (by omega)
    subst h0 hl0
    clear hv hn
    go_enter Try.func45, Try.ntmps45
    go_wp2
    go_ret
    exact ⟨_, rfl, ⟨rfl, .inl ⟨rfl, rfl⟩⟩, Below.refl _ _⟩
  | some a =>
    clear hv hn
    go_enter Try.func45, Try.ntmps45
    go_wp2_with (at_builtin; refine wpList_appN _ rfl _ _ 28 rfl w.heap.size 30 i0 _ 3 24 Try.underlying28 hi0 hz0 hz1 hz2 rfl (by decide) _ 0 [] rfl (own_empty w 30 3 w.heap.size (Nat.le_refl _)) _ n (acc l) (by rfl) (HS.out _ (balloc (Below.refl _ _) _)) (acc_one l) (by unfold maxLen; omega) (by omega) (by simp) ?_; intro v' w1 hown hgrow _; obtain ⟨va, vc, rfl⟩ := own_shape hown)
    have hb : Below w.heap.size w w1 := (balloc (Below.refl _ w) (.cells #[] 30)).grown hgrow (by simp) (fun k e => by have : w.heap.size = k := Option.some.inj e; omega)
    rw [Nat.zero_add, List.nil_append] at hown
    go_wp2
    go_ret
    exact ⟨_, rfl, hown, hb⟩
theorem move_any (W : World) (k p : Int) : Calls Try.prog 74 #[.int .i64 k, .int .i64 p] W fun e w' => e = .returned (.func (.func 75) #[] #[.pointer (some ⟨W.heap.size, 0, none⟩), .pointer (some ⟨W.heap.size + 1, 0, none⟩)]) ∧ w'.heap[W.heap.size]? = some (.cells #[.int .i64 k] 3) ∧ w'.heap[W.heap.size + 1]? = some (.cells #[.int .i64 p] 3) ∧ Below W.heap.size W w' := by
  go_enter Try.func74, Try.ntmps74
  go_wp2
  go_ret
  refine ⟨rfl, ?_, ?_, balloc (balloc (Below.refl _ _) _) _⟩
  · exact (Below.block (balloc (Below.refl _ (W.alloc (.cells #[.int .i64 k] 3))) _) _ (by simp)).trans (heap_alloc_new W _)
  · have h := heap_alloc_new (W.alloc (.cells #[.int .i64 k] 3)) (.cells #[.int .i64 p] 3)
    rw [World.size_alloc] at h
    exact h
set_option maxHeartbeats 2000000 in
/-- Of a delta: one number of its moves. -/
theorem moved_any (W : World) (d : Dl) (v : Value) (K Q : Nat) (k q : Nat) (m : Int × Int) (hv : MvAt W v d.m) (hk : d.m[k]? = some m) (hk9 : k < 10000) (hq : q < 2) (h1 : W.cell? ⟨K, 0, none⟩ = some (.int .i64 (k : Int))) (h2 : W.cell? ⟨Q, 0, none⟩ = some (.int .i64 (q : Int))) (hKl : K < W.heap.size) (hQl : Q < W.heap.size) :
    Calls Try.prog 75 #[.agg #[.int .i64 d.r, .int .i64 d.a, v], .pointer (some ⟨K, 0, none⟩), .pointer (some ⟨Q, 0, none⟩)] W fun e w' => e = .returned (.int .i64 (if q = 0 then m.1 else m.2)) ∧ Below W.heap.size W w' := by
  obtain ⟨ma, mk, rfl⟩ := hv.shape
  obtain ⟨n, hn⟩ : ∃ n, d.m.length = n := ⟨_, rfl⟩
  have hkn : k < n := by rw [← hn]; exact (List.getElem?_eq_some_iff.1 hk).1
  rw [hn] at hv ⊢
  obtain ⟨r, a, l⟩ := d
  dsimp only at hv hk hn ⊢
  obtain ⟨B, hB⟩ : ∃ B, W.heap.size = B := ⟨_, rfl⟩
  have hx1 := heap_alloc_new W (.cells #[.int .i64 r, .int .i64 a, .slice ma n mk] 70)
  have hb1 := balloc (Below.refl _ W) (.cells #[.int .i64 r, .int .i64 a, .slice ma n mk] 70)
  obtain ⟨w1, hw1⟩ : ∃ w1, W.alloc (.cells #[.int .i64 r, .int .i64 a, .slice ma n mk] 70) = w1 := ⟨_, rfl⟩
  rw [hw1, hB] at hx1
  rw [hw1] at hb1
  have HB1 := Lib.hid hb1
  obtain ⟨g, o, rfl, hg, c0, c1⟩ := (hv.keep hb1).cell hk
  have e1 := (hb1.cell (p := ⟨K, 0, none⟩) hKl).trans h1
  have e2 := (hb1.cell (p := ⟨Q, 0, none⟩) hQl).trans h2
  have e3 : w1.cell? ⟨B, 2, none⟩ = some (.slice (some ⟨g, o, none⟩) n mk) := nd_cell hx1 rfl
  have kk : (k : Int) < (n : Int) := by omega
  have k0 : (0 : Int) ≤ (k : Int) := by omega
  have q3 : q = 0 ∨ q = 1 := by omega
  clear hx1 hb1 hv hk h1 h2 hKl hQl hn hg hkn
  go_enter Try.func75, Try.ntmps75
  go_upto_region 1 with fail
  try rw [hw1]
  try rw [hB]
  clear hw1 hB
  rcases q3 with rfl | rfl
  · skip
    go_quiet (fail)
    go_wp2
    go_ret
    exact ⟨by first | rfl | (simp; done), below_drewN HB1.out _⟩
  · skip
    go_quiet (fail)
    go_wp2
    go_ret
    exact ⟨by first | rfl | (simp; done), below_drewN HB1.out _⟩
theorem adv_any (W : World) (d : Dl) (v : Value) :
    Calls Try.prog 76 #[.agg #[.int .i64 d.r, .int .i64 d.a, v]] W fun e w' => e = .returned (.int .i64 d.a) ∧ Below W.heap.size W w' := by
  go_enter Try.func76, Try.ntmps76
  go_wp2
  go_ret
  exact ⟨rfl, balloc (Below.refl _ _) _⟩
theorem areco_any (W : World) (v : Value) (l : List Int) (hv : InAt W v l) (hl : l.length ≤ 1000000000000) :
    Calls Try.prog 33 #[v] W fun e w' => e = .returned (.bool (AX.coords l)) ∧ Below W.heap.size W w' := by
  have hs := sum_any 0 [] [] l (.slice none 0 0) (.slice none 0 0) v W (by simp) (by simp) (by simp) hl ⟨none, 0, rfl, .inl rfl⟩ ⟨none, 0, rfl, .inl rfl⟩ hv
  have hsum : AX.sum 0 [] [] l = (0, AX.coords l) := by
    have h0 : F.FP.partS 0 1 1 = (0, true) := by decide
    unfold AX.sum AX.acc
    rw [h0]
    cases hc : AX.coords l <;> simp
  rw [hsum] at hs
  have HC := Lib.hid hs
  obtain ⟨r, hr⟩ : ∃ r, AX.coords l = r := ⟨_, rfl⟩
  rw [hr] at HC ⊢
  clear hs hsum hr
  go_enter Try.func33, Try.ntmps33
  go_wp2_with fail
  go_at_call 72
  refine HC.out.mono ?_
  rintro e w2 ⟨rfl, k2⟩
  go_wp2
  go_ret
  exact ⟨rfl, k2⟩
end Go.Proofs.Ytanppbdlcinpfaa
end
/- Contours made anew. No conditions. -/
section
namespace Go.Proofs.Ytanppbdlcinpfaa
set_option maxRecDepth 100000
set_option linter.unusedVariables false
open Go.RowKit Go.Deep
theorem own_kept' {w w' : World} {B e n size : Nat} {v : Value} {xs : List Value} {row : Option Nat} (h : w.ownsRow B e size v n xs) (hg : w.grownBy w' row) (hr : ∀ q, v.ownBlock = some q → row ≠ some q) : w'.ownsRow B e size v n xs :=
  h.kept hg (by cases hw : v.ownBlock with | none => exact Or.inl rfl | some k => exact Or.inr (fun e => hr k hw e.symm))
theorem own_rebase {w : World} {B B' e n size : Nat} {v : Value} {xs : List Value} (h : w.ownsRow B e size v n xs) (hB : B' ≤ B) : w.ownsRow B' e size v n xs := by
  obtain ⟨h1, h2⟩ := h
  refine ⟨h1, ?_⟩
  rcases h2 with h2 | ⟨g, cap, cur, e1, e2, e3⟩
  · exact .inl h2
  · exact .inr ⟨g, cap, cur, e1, Nat.le_trans hB e2, e3⟩
theorem own_lt {w : World} {B e n size q : Nat} {v : Value} {xs : List Value} (h : w.ownsRow B e size v n xs) (hq : v.ownBlock = some q) : B ≤ q ∧ q < w.heap.size := by
  rcases h.2 with ⟨hv, -⟩ | ⟨g, cap, cur, hv, e2, e3, -⟩
  · rw [hv] at hq; cases hq
  · rw [hv] at hq
    have e : g = q := Option.some.inj hq
    subst e
    exact ⟨e2, (Array.getElem?_eq_some_iff.1 e3).1⟩
/-- Contours in memory of their own. -/
structure CnS (W : World) (Y : Nat) (v : Value) (C : List (List Pt)) (vs : List Value) : Prop where
  out : W.ownsRow Y 53 1 v C.length vs
  inn : ∀ (i : Nat) (c : List Pt), C[i]? = some c → ∃ u, vs[i]? = some u ∧ W.ownsRow Y 81 3 u c.length (ptc c)
  sep : ∀ (i j : Nat) (u u' : Value) (q : Nat), i < j → vs[i]? = some u → vs[j]? = some u' → u.ownBlock = some q → u'.ownBlock ≠ some q
  sep2 : ∀ (i : Nat) (u : Value) (q : Nat), vs[i]? = some u → u.ownBlock = some q → v.ownBlock ≠ some q ∧ q < W.heap.size
theorem CnS.len {W : World} {Y : Nat} {v : Value} {C : List (List Pt)} {vs : List Value} (h : CnS W Y v C vs) : vs.length = C.length := by
  have := h.out.1
  omega
theorem CnS.below {W V : World} {Y : Nat} {v : Value} {C : List (List Pt)} {vs : List Value} (h : CnS W Y v C vs) (hb : Below W.heap.size W V) : CnS V Y v C vs :=
  ⟨own_below h.out hb, fun i c hc => by obtain ⟨u, h1, h2⟩ := h.inn i c hc; exact ⟨u, h1, own_below h2 hb⟩, h.sep, fun i u q h1 h2 => ⟨(h.sep2 i u q h1 h2).1, Nat.lt_of_lt_of_le (h.sep2 i u q h1 h2).2 hb.size⟩⟩
theorem CnS.next {w w2 w3 w4 : World} {Y i : Nat} {v v' u : Value} {C : List (List Pt)} {c : List Pt} {vs : List Value} (h : CnS w Y v (C.take i) vs) (hc : C[i]? = some c) (hu : w2.ownsRow w.heap.size 81 3 u c.length (ptc c)) (hY : Y ≤ w.heap.size)
    (hb : Below w.heap.size w w2) (hb3 : Below w2.heap.size w2 w3) (hown : w4.ownsRow Y 53 1 v' (i + 1) (vs ++ [u])) (hg : w3.grownBy w4 v.ownBlock) (hor : v'.ownBlock = v.ownBlock ∨ v'.ownBlock = some w3.heap.size) : CnS w4 Y v' (C.take (i + 1)) (vs ++ [u]) := by
  have hi : i < C.length := (List.getElem?_eq_some_iff.1 hc).1
  have hvl : vs.length = i := by rw [h.len, List.length_take]; omega
  have h3 := h.below (bnext hb hb3)
  have hu3 := own_below hu hb3
  have hnv : ∀ q, u.ownBlock = some q → v.ownBlock ≠ some q := fun q hq e => by
    have h1 := (own_lt hu hq).1
    have h2 := (own_lt h.out e).2
    omega
  have hcases : ∀ (j : Nat) (x : Value), (vs ++ [u])[j]? = some x → vs[j]? = some x ∨ (j = i ∧ x = u) := fun j x hx => by
    by_cases hj : j < vs.length
    · rw [List.getElem?_append_left hj] at hx
      exact .inl hx
    · rw [List.getElem?_append_right (by omega)] at hx
      have hj0 : j - vs.length = 0 := by
        refine Classical.byContradiction fun hne => ?_
        rw [List.getElem?_eq_none (by simp; omega)] at hx
        cases hx
      rw [hj0] at hx
      exact .inr ⟨by omega, (Option.some.inj hx).symm⟩
  refine ⟨by rw [List.length_take, Nat.min_eq_left (by omega)]; exact hown, fun j d hd => ?_, fun j k x x' q hjk hx hx' hq => ?_, fun j x q hx hq => ?_⟩
  · rw [List.getElem?_take] at hd
    split at hd
    · by_cases hj : j < i
      · obtain ⟨x, h1, h2⟩ := h3.inn j d (by rw [List.getElem?_take, if_pos hj]; exact hd)
        exact ⟨x, by rw [List.getElem?_append_left (by omega)]; exact h1, own_kept' h2 hg (fun q hq => (h3.sep2 j x q h1 hq).1)⟩
      · obtain rfl : j = i := by omega
        rw [hc] at hd
        rw [← Option.some.inj hd]
        exact ⟨u, by rw [List.getElem?_append_right (by omega), hvl, Nat.sub_self]; rfl, own_kept' (own_rebase hu3 hY) hg hnv⟩
    · cases hd
  · rcases hcases j x hx with h1 | ⟨h1, rfl⟩
    · rcases hcases k x' hx' with h2 | ⟨h2, rfl⟩
      · exact h.sep j k x x' q hjk h1 h2 hq
      · intro e
        have a1 := (h.sep2 j x q h1 hq).2
        have a2 := (own_lt hu e).1
        omega
    · have := (List.getElem?_eq_some_iff.1 hx').1
      rw [List.length_append, List.length_singleton] at this
      omega
  · have hq3 : q < w3.heap.size ∧ v.ownBlock ≠ some q := by
      rcases hcases j x hx with h1 | ⟨h1, rfl⟩
      · exact ⟨(h3.sep2 j x q h1 hq).2, (h3.sep2 j x q h1 hq).1⟩
      · exact ⟨(own_lt hu3 hq).2, hnv q hq⟩
    refine ⟨fun e => ?_, Nat.lt_of_lt_of_le hq3.1 hg.size⟩
    rcases hor with h1 | h1
    · rw [h1] at e
      exact hq3.2 e
    · rw [h1] at e
      have : w3.heap.size = q := Option.some.inj e
      omega
theorem info_ps : (Try.prog.info? 53).map (fun i => (i.zero, i.size, i.bytes)) = some (some (.slice none 0 0), 1, 24) := by kernel_rfl
set_option maxHeartbeats 2000000 in
theorem clonecs_any (W : World) (v : Value) (C : List (List Pt)) (hv : CsAt W v C) (hok : CsOk C) :
    Calls Try.prog 44 #[v] W fun e w' => ∃ v' vs, e = .returned v' ∧ CnS w' W.heap.size v' C vs ∧ Below W.heap.size W w' := by
  obtain ⟨i0, hi0, hz0, hz1, hz2⟩ := info_parts info_ps
  obtain ⟨a, k, rfl⟩ := hv.shape
  obtain ⟨n, hn⟩ : ∃ n, C.length = n := ⟨_, rfl⟩
  have HN := Lib.hid hn
  have hn9 := hok.n
  rw [hn] at hv hn9 ⊢
  have HV := Lib.hid hv
  have HOK := Lib.hid hok
  clear hv hok hn
  go_enter Try.func44, Try.ntmps44
  go_upto_region 3 with fail
  go_loopw [3, 8] (fun v3 v8 wr => ∃ (i : Nat) (vs : List Value), v8 = .int .i64 (i : Int) ∧ i ≤ n ∧ (∃ oa oc, v3 = .slice oa i oc) ∧ Hid (CnS wr W.heap.size v3 (C.take i) vs) ∧ Hid (Below W.heap.size W wr)) (fun v3 v8 _ => n - (intOf v8).toNat)
  case atStart => exact ⟨0, [], rfl, Nat.zero_le _, ⟨none, 0, rfl⟩, Lib.hid ⟨⟨rfl, .inl ⟨rfl, rfl⟩⟩, fun i c h => by simp at h, fun i j u u' q _ h => by simp at h, fun i u q h => by simp at h⟩, Lib.hid (Below.refl _ _)⟩
  case round =>
    obtain ⟨i, vs, rfl, hi, ⟨oa, oc, rfl⟩, HCN, HB⟩ := hrel
    by_cases hin : i < n
    · have hii : (i : Int) < (n : Int) := by omega
      have hi0' : (0 : Int) ≤ (i : Int) := by omega
      obtain ⟨c, hc⟩ : ∃ c, C[i]? = some c := ⟨_, List.getElem?_eq_getElem (by rw [HN.out]; exact hin)⟩
      obtain ⟨g, o, pa, pk, rfl, hg, hcell, hpt⟩ := (HV.out.keep HB.out).cell hc
      have HPT := Lib.hid hpt
      have HCI := Lib.hid hc
      obtain ⟨m, hm⟩ : ∃ m, c.length = m := ⟨_, rfl⟩
      have hcm := HOK.out.m c (List.mem_of_getElem? hc)
      have HM := Lib.hid hm
      rw [hm] at hcell HPT
      clear hc hg hpt hm
      go_upto_region 5 with fail
      clear hcell
      have HC := Lib.hid (clone_pt wr _ c HPT.out hcm)
      go_wp2_with fail
      go_at_call 85
      refine HC.out.mono ?_
      rintro e w2 ⟨u, rfl, hu, k2⟩
      obtain ⟨ua, uc, rfl⟩ := own_shape hu
      have HU := Lib.hid hu
      have HK2 := Lib.hid k2
      clear HC hu k2
      obtain ⟨u, hue⟩ : ∃ u, u = Value.slice ua c.length uc := ⟨_, rfl⟩
      have hu1 : (Value.slice ua c.length uc).oneCell' = true := rfl
      have hlv : (C.take i).length = i := by rw [List.length_take, HN.out]; omega
      have HOUT : Hid (w2.ownsRow W.heap.size 53 1 (.slice oa i oc) i vs) := Lib.hid (by
        have := own_below HCN.out.out HK2.out
        rw [hlv] at this
        exact this)
      have HSZ : Hid (W.heap.size ≤ w2.heap.size) := Lib.hid (Nat.le_trans HB.out.size HK2.out.size)
      clear hlv
      have hi8 : i + 1 ≤ 1001 := by omega
      go_upto_region 6 with (at_builtin; refine wpList_appN _ rfl _ _ 27 rfl W.heap.size 53 i0 (.slice none 0 0) 1 24 Try.underlying27 hi0 hz0 hz1 hz2 rfl (by decide) _ i vs rfl (own_below HOUT.out (balloc (Below.refl _ _) _)) _ 1 [Value.slice ua c.length uc] rfl (srcN_new _ [Value.slice ua c.length uc] _ 1 1 1 rfl) (fun x hx => by rw [List.mem_singleton.1 hx]; exact hu1) (by unfold maxLen; omega) (by omega) (by have := HSZ.out; simp; omega) ?_; intro v4 w4 hown hgrow hor; obtain ⟨na, nc, rfl⟩ := own_shape hown)
      have hcn := HCN.out.next HCI.out HU.out HB.out.size HK2.out (balloc (Below.refl _ w2) (.cells #[Value.slice ua c.length uc] 53)) hown hgrow hor
      have hbw : Below W.heap.size W w4 := (balloc (bnext HB.out HK2.out) (.cells #[Value.slice ua c.length uc] 53)).grown hgrow (by have := HSZ.out; simp; omega) (fun q e => (own_lt HOUT.out e).1)
      have HCN4 := Lib.hid hcn
      have HB4 := Lib.hid hbw
      clear hown hgrow hor hcn hbw hu1
      go_wp2
      go_roundw
      case rel => exact ⟨i + 1, vs ++ [Value.slice ua c.length uc], by go_num, by omega, ⟨_, _, rfl⟩, HCN4, HB4⟩
      case measure => simp [intOf]; omega
    · have hii : ¬ (i : Int) < (n : Int) := by omega
      have HE : Hid (CnS wr W.heap.size (.slice oa i oc) C vs) := Lib.hid (by
        have h := HCN.out
        rw [List.take_of_length_le (by rw [HN.out]; omega)] at h
        exact h)
      clear hin
      go_wp2
      go_ret
      exact ⟨_, rfl, ⟨vs, HE.out⟩, HB.out⟩
end Go.Proofs.Ytanppbdlcinpfaa
end
/- Appends of rows in statements that draw. No conditions. -/
section
namespace Go.Proofs.Ytanppbdlcinpfaa
set_option maxRecDepth 100000
set_option linter.unusedVariables false
open Go.RowKit Go.Deep
theorem run_appN {P : Program} (w : World) (base : Nat) (t ty e : TypeId) (i : TypeInfo) (z : Value) (k bytes : Nat) (ht : P.underlying t = some (.slice e)) (hi : P.info? e = some i) (hz : i.zero = some z)
    (hsize : i.size = k) (hby : i.bytes = bytes) (hzs : z.cells.size = k) (hk : 0 < k)
    (v : Value) (n : Nat) (xs : List Value) (hown : w.ownsRow base e k v n xs)
    (vx : Value) (m : Nat) (U : List Value) (hS : SrcN k w vx m U) (h1 : ∀ u ∈ U, u.oneCell' = true)
    (h63 : n + m ≤ maxLen) (hbytes : (n + m) * bytes ≤ 140737488355328) (hbase : base ≤ w.heap.size) :
    ∃ v' w', (Builtin.append_ #[t, t] ty #[v, vx]).run P w = .ok v' w' ∧ w'.ownsRow base e k v' (n + m) (xs ++ U) ∧ w.grownBy w' v.ownBlock ∧ (v'.ownBlock = v.ownBlock ∨ v'.ownBlock = some w.heap.size) := by
  obtain ⟨ao, c, rfl, hl, hU⟩ := hS
  rcases hU with ⟨hm, hc⟩ | ⟨g, of, rfl, hg, hcells⟩
  · subst hm
    obtain rfl : U = [] := List.eq_nil_of_length_eq_zero (by rw [hl]; simp)
    cases ao with
    | none =>
      obtain rfl := hc rfl
      exact ⟨v, w, run_append_owned_none (P := P) (w := w) base t ty e i k ht hi v n xs hown, by simpa using hown, World.grownBy.refl _ _, .inl rfl⟩
    | some ad =>
      obtain ⟨v', w', hr, h2, h3, -, h5⟩ := run_append_own_at (P := P) w base t ty e i z k bytes ht hi hz hsize hby hzs hk v n xs hown ad 0 c [] (by simp) (by simp) (by simp) (by simpa using h63) (by simpa using hbytes) hbase
      exact ⟨v', w', hr, by simpa using h2, h3, h5⟩
  · obtain ⟨v', w', hr, h2, h3, -, h5⟩ := run_append_own_at (P := P) w base t ty e i z k bytes ht hi hz hsize hby hzs hk v n xs hown ⟨g, of, none⟩ m c U hl (fun j u hj => by rw [Addr.add_lit]; exact hcells j u hj) h1 h63 hbytes hbase
    exact ⟨v', w', hr, h2, h3, h5⟩
/-- An append of a row, in a statement that draws. -/
theorem step_appN {P : Program} {w : World} {ops : Array Oper} {o : Oper} {a : Act} {K : Act → World → Prop} {Q : Exit → Act → World → Prop} {E : Prop} (hgd : o.guard = none) (s x : Operand) (t : TypeId)
    (ho : o.op = .call { callee := .builtin .append, args := #[s, x], argTypes := #[t, t] })
    (base : Nat) (e : TypeId) (i : TypeInfo) (z : Value) (k bytes : Nat) (ht : P.underlying t = some (.slice e)) (hi : P.info? e = some i) (hz : i.zero = some z)
    (hsize : i.size = k) (hby : i.bytes = bytes) (hzs : z.cells.size = k) (hk : 0 < k)
    (v : Value) (n : Nat) (xs : List Value) (hs : a.eval s = v) (hown : w.ownsRow base e k v n xs)
    (vx : Value) (m : Nat) (U : List Value) (hx : a.eval x = vx) (hS : SrcN k w vx m U) (h1 : ∀ u ∈ U, u.oneCell' = true)
    (h63 : n + m ≤ maxLen) (hbytes : (n + m) * bytes ≤ 140737488355328) (hbase : base ≤ w.heap.size)
    (h : ∀ v' w', w'.ownsRow base e k v' (n + m) (xs ++ U) → w.grownBy w' v.ownBlock → (v'.ownBlock = v.ownBlock ∨ v'.ownBlock = some w.heap.size) → K (a.put o.dst v') w') :
    if Region.wanted o (yielded ops a.tmps) = true then Oper.wp P o a w K Q else E := by
  have hw : Region.wanted o (yielded ops a.tmps) = true := by simp [Region.wanted, hgd]
  rw [if_pos hw]
  obtain ⟨v', w', hr, h2, h3, h5⟩ := run_appN (P := P) w base t o.type e i z k bytes ht hi hz hsize hby hzs hk v n xs hown vx m U hS h1 h63 hbytes hbase
  unfold Oper.wp execOp
  simp only [ho, resolve, invoke, builtin, Sem.run_bind, Sem.run_pure, Result.andThen_ok, List.map_toArray, List.map_cons, List.map_nil, hs, hx, hr]
  exact h v' w' h2 h3 h5
end Go.Proofs.Ytanppbdlcinpfaa
end
