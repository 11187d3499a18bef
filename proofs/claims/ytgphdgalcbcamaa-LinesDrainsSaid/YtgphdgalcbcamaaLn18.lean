/- The reference's Next. No conditions. -/
import Derived.Test.YtgphdgalcbcamaaLn17
namespace Go.Proofs.Ytgphdgalcbcamaa
set_option maxRecDepth 100000
set_option linter.unusedVariables false
open Go.RowKit Go.Deep
theorem SrcN.drop {k : Nat} {W : World} {a ad : Option Addr} {n c m : Nat} {U : List Value} (h : SrcN k W (.slice a n c) n U) (hm : m ≤ n) (hd : ∀ g, a = some ⟨g, 0, none⟩ → m < n → ad = some ⟨g, m * k, none⟩) (ha : ∀ g o, a = some ⟨g, o, none⟩ → o = 0) (hz : ad = none → c - m = 0) : SrcN k W (.slice ad (n - m) (c - m)) (n - m) (U.drop (m * k)) := by
  obtain ⟨ao, c', e, hl, h⟩ := h
  injection e with e1 e2 e3
  subst e1 e3
  refine ⟨ad, c - m, rfl, by rw [List.length_drop, hl, Nat.sub_mul], ?_⟩
  rcases Nat.lt_or_ge m n with hlt | hge
  · rcases h with ⟨h, h'⟩ | ⟨g, o, e2, hg, hc⟩
    · omega
    · obtain rfl := ha g o e2
      refine .inr ⟨g, m * k, hd g e2 hlt, hg, fun j u hu => ?_⟩
      rw [List.getElem?_drop] at hu
      have := hc _ u hu
      rwa [Nat.zero_add] at this
  · exact .inl ⟨by omega, hz⟩
theorem bs_snoc {Q : List Pc} {q x : Pc} (hq : Q[LN.bs Q]? = some q) : LN.bs (Q ++ [x]) = if x.t < q.t then Q.length else LN.bs Q := by
  obtain ⟨A, B, rfl, hA, hB⟩ := LN.bs_split hq
  by_cases h : x.t < q.t
  · rw [if_pos h]
    exact (LN.bs_app (A := A ++ q :: B) (q := x) (B := []) (fun a ha => by
      rcases List.mem_append.1 ha with ha | ha
      · have := hA a ha
        omega
      · rcases List.mem_cons.1 ha with rfl | ha
        · exact h
        · have := hB a ha
          omega) (fun b hb => by cases hb)).1
  · rw [if_neg h, (LN.bs_app hA hB).1, List.append_assoc, List.cons_append]
    exact (LN.bs_app hA (fun b hb => by
      rcases List.mem_append.1 hb with hb | hb
      · exact hB b hb
      · rw [List.mem_singleton.1 hb]
        omega)).1
theorem take_snoc {P : List Pc} {i : Nat} {x : Pc} (h : P[i]? = some x) : P.take (i + 1) = P.take i ++ [x] := by
  rw [List.take_add_one, h]
  rfl
theorem bs_lt {Q : List Pc} (h : Q ≠ []) : LN.bs Q < Q.length := by
  obtain ⟨q, hq⟩ := LN.bs_some h
  exact (List.getElem?_eq_some_iff.1 hq).1
section
variable {W w w' : World} {r : Nat} {nd : Int} {T : List Tr} {k k' : Nat} {P Q : List Pc} {F F' S : Nat → Prop}
set_option maxHeartbeats 2000000 in
theorem rnext_none (h : RS W r nd T k [] F) : Calls Try.prog 23 #[ptr r] W fun x w' => x = .returned (.tuple #[ms0V, .int .i64 0, .bool false]) ∧ RSr W F w' r nd T k [] := by
  have hb1 := balloc (Below.refl _ W) ms0C
  have hx1 := heap_alloc_new W ms0C
  obtain ⟨X, hX⟩ : ∃ X, W.heap.size = X := ⟨_, rfl⟩
  obtain ⟨w1, hw1⟩ : ∃ w1, W.alloc ms0C = w1 := ⟨_, rfl⟩
  rw [hw1] at hb1 hx1
  rw [hX] at hx1
  have hl1 := h.below hb1
  obtain ⟨V, hV, hxV, hfV⟩ := set3 hx1 (.int .i64 0) (.int .i64 0) (.string ⟨#[]⟩)
  have HE : Hid (RSr W F V r nd T k []) := Lib.hid ⟨(FrS.of hb1).over hfV (fun b e => .inr (by omega)), F, hl1.kept hfV (fun b hb e => by have := h.lt b hb; omega), fun b hb => .inl hb⟩
  obtain ⟨⟨sc, v, hq, hr, hv, hs, hsf⟩, fM, lt⟩ := hl1
  rw [List.length_nil] at hr
  obtain ⟨va, vc, rfl⟩ := own_shape hr
  have c3 : w1.cell? ⟨r, 3, none⟩ = some (.slice va ((0 : Nat) : Int).toNat vc) := nd_cell hq rfl
  have x0 : w1.cell? ⟨X, 0, none⟩ = some (.int .i64 0) := nd_cell hx1 rfl
  have x1 : w1.cell? ⟨X, 1, none⟩ = some (.int .i64 0) := nd_cell hx1 rfl
  have x2 : w1.cell? ⟨X, 2, none⟩ = some (.string ⟨#[]⟩) := nd_cell hx1 rfl
  have y0 := nd_froz hx1 0
  have y1 := nd_froz hx1 1
  have y2 := nd_froz hx1 2
  have HXV := Lib.hid hxV
  have HX := Lib.hid hX
  have HW1 := Lib.hid hw1
  have HV := Lib.hid hV
  clear h hb1 hx1 hV hxV hfV hq hr hv hs hsf fM lt hX hw1
  go_enter Try.func23, Try.ntmps23
  go_upto_region 1 with fail
  have HW1' : W.alloc (.cells #[.int .i64 0, .int .i64 0, .string ⟨#[]⟩] 31) = w1 := HW1.out
  rw [HW1']
  try rw [HX.out]
  go_wp2
  try rw [HV.out]
  refine bodyPost_ret (v := .tuple #[ms0V, .int .i64 0, .bool false]) (results_ctt Try.results23 _ _ X 31 _ (0, 0) _ rfl HXV.out Try.underlying31 rfl (by kernel_rfl)) rfl ⟨rfl, HE.out⟩
set_option maxHeartbeats 8000000 in
theorem rnext_some (h : RS W r nd T k P F) (hne : P ≠ []) (hl : P.length ≤ 100000) (p : Pc) (hp : P[LN.bs P]? = some p) : Calls Try.prog 23 #[ptr r] W fun x w' => x = .returned (.tuple #[msV p.f p.o p.s, .int .i64 p.t, .bool true]) ∧ RSr W F w' r nd T k (P.eraseIdx (LN.bs P)) := by
  have hb1 := balloc (Below.refl _ W) ms0C
  have hx1 := heap_alloc_new W ms0C
  obtain ⟨X, hX⟩ : ∃ X, W.heap.size = X := ⟨_, rfl⟩
  obtain ⟨w1, hw1⟩ : ∃ w1, W.alloc ms0C = w1 := ⟨_, rfl⟩
  rw [hw1] at hb1 hx1
  rw [hX] at hx1
  have hl1 := h.below hb1
  have HL1 := Lib.hid hl1
  obtain ⟨⟨sc, v, hq, hr, hv, hs, hsf⟩, fM, lt⟩ := hl1
  obtain ⟨n, hn⟩ : ∃ n, P.length = n := ⟨_, rfl⟩
  rw [hn] at hr hl
  have hn1 : 1 ≤ n := by rw [← hn]; exact List.length_pos_iff.2 hne
  obtain ⟨va, vc, rfl⟩ := own_shape hr
  have HAT : Hid (∃ g, va = some ⟨g, 0, none⟩ ∧ n ≤ vc ∧ vc ≤ maxLen) := Lib.hid (by
    rcases hr.2 with ⟨hv, h0⟩ | ⟨g, cap, cur, hv, hb, hg, h1, h2, _⟩
    · omega
    · injection hv with e1 _ e3
      exact ⟨g, e1, by rw [e3]; exact h1, by rw [e3]; exact h2⟩)
  obtain ⟨g, rfl, hcap1, hcap2⟩ := HAT.out
  unfold maxLen at hcap2
  have HROW : Hid (∀ V, Below w1.heap.size w1 V → V.ownsRow (r + 1) 74 4 (.slice (some ⟨g, 0, none⟩) n vc) n (cys P)) := Lib.hid fun V hV => own_below hr hV
  have HBLK : Hid (∀ V, Below w1.heap.size w1 V → V.heap[r]? = some (.cells #[.int .i64 nd, .int .i64 (k : Int), sc, .slice (some ⟨g, 0, none⟩) n vc] 65 (0, 0))) := Lib.hid fun V hV => (hV.block r (Array.getElem?_eq_some_iff.1 hq).1).trans hq
  have HAD : Hid (∀ V, Below w1.heap.size w1 V → ∀ (i : Nat) (t : Pc), P[i]? = some t → V.cell? ⟨g, i * 4, none⟩ = some (.int .i64 t.f) ∧ V.cell? ⟨g, i * 4 + 1, none⟩ = some (.int .i64 t.o) ∧ V.cell? ⟨g, i * 4 + 2, none⟩ = some (.string t.s) ∧ V.cell? ⟨g, i * 4 + 3, none⟩ = some (.int .i64 t.t)) := Lib.hid fun V hV i t ht => by
    obtain ⟨g', o', e, -, z⟩ := cy_at (own_srcN (own_below hr hV)) ht (by rw [← hn]; exact (List.getElem?_eq_some_iff.1 ht).1)
    injection e with e
    injection e with e1 e2
    subst e1 e2
    simpa using z
  have HXX := Lib.hid hx1
  have HX := Lib.hid hX
  have HW1 := Lib.hid hw1
  have HB1 := Lib.hid hb1
  have HNN := Lib.hid hn
  have HP := Lib.hid hp
  have HLT : Hid (∀ b, F b → b < X) := Lib.hid fun b hb => by rw [← hX]; exact h.lt b hb
  have hnz : ((n : Int) == 0) = false := by simp; omega
  have c3 : w1.cell? ⟨r, 3, none⟩ = some (.slice (some ⟨g, 0, none⟩) n vc) := nd_cell hq rfl
  have hbs1 : LN.bs (P.take 1) = 0 := by
    obtain ⟨x, hx⟩ : ∃ x, P[0]? = some x := ⟨_, List.getElem?_eq_getElem (by omega)⟩
    rw [take_snoc hx]
    rfl
  have HBS1 := Lib.hid hbs1
  clear h hb1 hx1 hq hr hv hs hsf fM lt hX hw1 hn hne hp hbs1
  go_enter Try.func23, Try.ntmps23
  go_upto_region 1 with fail
  have HW1' : W.alloc (.cells #[.int .i64 0, .int .i64 0, .string ⟨#[]⟩] 31) = w1 := HW1.out
  rw [HW1']
  try rw [HX.out]
  go_upto_region 5 with fail
  clear c3 HW1'
  go_loopw [5, 6] (fun v5 v6 wr => ∃ j : Nat, v6 = .int .i64 (j : Int) ∧ v5 = .int .i64 ((LN.bs (P.take j) : Nat) : Int) ∧ 1 ≤ j ∧ j ≤ n ∧ Hid (Below w1.heap.size w1 wr)) (fun _ v _ => n - (intOf v).toNat)
  case atStart => exact ⟨1, rfl, by rw [HBS1.out]; rfl, Nat.le_refl _, hn1, Lib.hid (Below.refl _ _)⟩
  case round =>
    obtain ⟨j, rfl, rfl, hj1, hjn, HBW⟩ := hrel
    by_cases hlt : j < n
    · have hjz : (j : Int) < (n : Int) := by omega
      have hj0 : (0 : Int) ≤ (j : Int) := by omega
      have hjl : (P.take j).length = j := by rw [List.length_take, HNN.out]; omega
      have hbl := bs_lt (Q := P.take j) (fun e => by rw [e] at hjl; simp at hjl; omega)
      obtain ⟨q, hq⟩ := LN.bs_some (P := P.take j) (fun e => by rw [e] at hjl; simp at hjl; omega)
      obtain ⟨x, hx⟩ : ∃ x, P[j]? = some x := ⟨_, List.getElem?_eq_getElem (by rw [HNN.out]; exact hlt)⟩
      have hsn := bs_snoc (x := x) hq
      rw [← take_snoc hx, hjl] at hsn
      rw [hjl] at hbl
      have hqp : P[LN.bs (P.take j)]? = some q := by
        rw [List.getElem?_take] at hq
        rwa [if_pos hbl] at hq
      obtain ⟨b, hb⟩ : ∃ b, LN.bs (P.take j) = b := ⟨_, rfl⟩
      rw [hb] at hsn hbl hqp ⊢
      obtain ⟨xt, hxt⟩ : ∃ t, x.t = t := ⟨_, rfl⟩
      obtain ⟨qt, hqt⟩ : ∃ t, q.t = t := ⟨_, rfl⟩
      have k1 := (HAD.out wr HBW.out j x hx).2.2.2
      have k2 := (HAD.out wr HBW.out b q hqp).2.2.2
      have c3 : wr.cell? ⟨r, 3, none⟩ = some (.slice (some ⟨g, 0, none⟩) n vc) := nd_cell (HBLK.out wr HBW.out) rfl
      rw [hxt] at k1
      rw [hqt] at k2
      rw [hxt, hqt] at hsn
      have HSN := Lib.hid hsn
      have hbz : (b : Int) < (n : Int) := by omega
      have hb0 : (0 : Int) ≤ (b : Int) := by omega
      clear hq hx hsn hqp hb hxt hqt hjl
      by_cases hlt2 : xt < qt
      · have hs2 : LN.bs (P.take (j + 1)) = j := by rw [HSN.out, if_pos hlt2]
        have HS2 := Lib.hid hs2
        clear hs2
        go_upto_region 7 with fail
        go_quiet (fail)
        go_wp2
        go_roundw
        case rel => exact ⟨j + 1, by go_num, by rw [HS2.out], by omega, hlt, Lib.hid (below_drewN HBW.out _)⟩
        case measure => simp [intOf]; omega
      · have hs2 : LN.bs (P.take (j + 1)) = b := by rw [HSN.out, if_neg hlt2]
        have HS2 := Lib.hid hs2
        clear hs2
        go_upto_region 7 with fail
        go_quiet (fail)
        go_wp2
        go_roundw
        case rel => exact ⟨j + 1, by go_num, by rw [HS2.out], by omega, hlt, Lib.hid (below_drewN HBW.out _)⟩
        case measure => simp [intOf]; omega
    · have hjz : ¬ (j : Int) < (n : Int) := by omega
      obtain rfl : j = n := by omega
      have c3 : wr.cell? ⟨r, 3, none⟩ = some (.slice (some ⟨g, 0, none⟩) j vc) := nd_cell (HBLK.out wr HBW.out) rfl
      have hpt : P.take j = P := List.take_of_length_le (Nat.le_of_eq HNN.out)
      rw [hpt]
      have hbl : LN.bs P < j := by
        have := (List.getElem?_eq_some_iff.1 HP.out).1
        rwa [HNN.out] at this
      obtain ⟨b, hb⟩ : ∃ b, LN.bs P = b := ⟨_, rfl⟩
      have hp := HP.out
      rw [hb] at hbl hp ⊢
      have HBB := Lib.hid hb
      have hbz : (b : Int) < (j : Int) := by omega
      have hb0 : (0 : Int) ≤ (b : Int) := by omega
      obtain ⟨k0, k1, k2, k3⟩ := HAD.out wr HBW.out b p hp
      obtain ⟨pf, hpf⟩ : ∃ f, p.f = f := ⟨_, rfl⟩
      obtain ⟨po, hpo⟩ : ∃ f, p.o = f := ⟨_, rfl⟩
      obtain ⟨ps, hps⟩ : ∃ f, p.s = f := ⟨_, rfl⟩
      obtain ⟨pt, hpt2⟩ : ∃ f, p.t = f := ⟨_, rfl⟩
      rw [hpf] at k0
      rw [hpo] at k1
      rw [hps] at k2
      rw [hpt2] at k3
      have hER : P.eraseIdx b = P.take b ++ P.drop (b + 1) := List.eraseIdx_eq_take_drop_succ P b
      obtain ⟨R, hR⟩ : ∃ R, P.eraseIdx b = R := ⟨_, rfl⟩
      rw [hR] at hER
      have HRR := Lib.hid hR
      have HPF := Lib.hid hpf
      have HPO := Lib.hid hpo
      have HPS := Lib.hid hps
      have HPT := Lib.hid hpt2
      have HRL : Hid (R.length = 0 + b + (j - (b + 1))) := Lib.hid (by rw [hER, List.length_append, List.length_take, List.length_drop, HNN.out]; omega)
      have hcd : (cys P).drop ((b + 1) * 4) = cys (P.drop (b + 1)) := by
        have h1 : cys P = cys (P.take (b + 1)) ++ cys (P.drop (b + 1)) := by rw [← cys_app, List.take_append_drop]
        rw [h1, List.drop_left' (by rw [cys_len, List.length_take, HNN.out]; omega)]
      have HCR : Hid ([] ++ (cys P).take (b * 4) ++ (cys P).drop ((b + 1) * 4) = cys R) := Lib.hid (by
        rw [hER, cys_app, hcd, List.nil_append, show (cys P).take (b * 4) = cys (P.take b) from (flat_take cyL_len P b).symm])
      clear hpt hb hp hpf hpo hps hpt2 hR hER hcd
      go_upto_region 9 with fail
      clear c3
      have c3 : wr.cell? ⟨r, 3, none⟩ = some (.slice (some ⟨g, 0, none⟩) j vc) := nd_cell (HBLK.out wr HBW.out) rfl
      go_upto_region 10 with fail
      have hb7 := balloc (Below.refl _ wr) (.cells #[.int .i64 pf, .int .i64 po, .string ps, .int .i64 pt] 74)
      have hx7 := heap_alloc_new wr (.cells #[.int .i64 pf, .int .i64 po, .string ps, .int .i64 pt] 74)
      obtain ⟨X7, hX7⟩ : ∃ X, wr.heap.size = X := ⟨_, rfl⟩
      obtain ⟨w7, hw7⟩ : ∃ w7, wr.alloc (.cells #[.int .i64 pf, .int .i64 po, .string ps, .int .i64 pt] 74) = w7 := ⟨_, rfl⟩
      rw [hX7] at hx7
      rw [hw7] at hb7 hx7
      rw [hw7]
      try rw [hX7]
      have HBW7 := Lib.hid (bnext HBW.out hb7)
      have HX7 := Lib.hid hx7
      have HX7G : Hid (w1.heap.size ≤ X7) := Lib.hid (by rw [← hX7]; exact HBW.out.size)
      have hs := own_srcN (HROW.out w7 HBW7.out)
      obtain ⟨ad, had⟩ : ∃ ad : Option Addr, (if vc = b + 1 then some (⟨g, 0, none⟩ : Addr) else some ⟨g, (b + 1) * 4, none⟩) = ad := ⟨_, rfl⟩
      have HT := Lib.hid (hs.take (m := b) (by omega))
      have HD := Lib.hid (hs.drop (m := b + 1) (ad := ad) (by omega) (fun g' e1 hlt => by injection e1 with e1; injection e1 with e1; subst e1; rw [← had, if_neg (by omega)]) (fun g' o e1 => by injection e1 with e1; injection e1 with _ e1; exact e1.symm) (fun e1 => by rw [← had] at e1; split at e1 <;> cases e1))
      have HONE1 : Hid (∀ u ∈ (cys P).take (b * 4), u.oneCell' = true) := Lib.hid fun u hu => cys_cells _ u (List.take_subset _ _ hu)
      have HONE2 : Hid (∀ u ∈ (cys P).drop ((b + 1) * 4), u.oneCell' = true) := Lib.hid fun u hu => cys_cells _ u (List.drop_subset _ _ hu)
      have HS : Hid (∀ V, Below w7.heap.size w7 V → V.cell? ⟨r, 3, none⟩ = some (.slice (some ⟨g, 0, none⟩) j vc)) := Lib.hid fun V hV => nd_cell (HBLK.out V (bnext HBW7.out hV)) rfl
      have hw1 : IntKind.i64.wrap ((b : Int) + 1) = ((b + 1 : Nat) : Int) := by rw [IntWalk.i64_in _ (by omega)]; rfl
      have q1 : (b : Int) ≤ (j : Int) := by omega
      have hb3 : Below w7.heap.size w7 w7.drew := Below.drew (Below.refl _ _)
      obtain ⟨i0, hi0, hz0, hz1, hz2⟩ := info_parts info_cy
      have mixed : Try.prog.follows .mixedOrders = true := by kernel_rfl
      clear hb7 hx7 hX7 hw7 hs k0 k1 k2 k3 c3
      refine wp_region_last #[{ dst := some 53, op := Op.move (Operand.tmp 0), type := 28, pos := "ref.go:59", after := #[], guard := none }, { dst := some 54, op := Op.buildSlice 63 0 #[], type := 63, pos := "ref.go:59", after := #[], guard := none }, { dst := some 55, op := Op.move (Operand.tmp 0), type := 28, pos := "ref.go:59", after := #[], guard := none }, { dst := some 56, op := Op.nilCheck (Operand.tmp 55), type := 0, pos := "ref.go:59", after := #[{ on := 2, ground := Ground.data }], guard := none }, { dst := some 57, op := Op.fieldAddr 65 (Operand.tmp 56) 3, type := 0, pos := "ref.go:59", after := #[{ on := 3, ground := Ground.data }], guard := none }, { dst := some 58, op := Op.load 63 (Operand.tmp 57), type := 63, pos := "ref.go:59", after := #[{ on := 4, ground := Ground.data }], guard := none }, { dst := some 59, op := Op.move (Operand.tmp 5), type := 3, pos := "ref.go:59", after := #[], guard := none }, { dst := some 60, op := Op.slice 63 (Operand.tmp 58) none (some (Operand.tmp 59)) none, type := 63, pos := "ref.go:59", after := #[{ on := 5, ground := Ground.data }, { on := 6, ground := Ground.data }], guard := none }, { dst := some 61, op := Op.call { callee := Callee.builtin Builtin.append, args := #[Operand.tmp 54, Operand.tmp 60], argTypes := #[63, 63] }, type := 63, pos := "ref.go:59", after := #[{ on := 1, ground := Ground.data }, { on := 7, ground := Ground.data }], guard := none }, { dst := some 62, op := Op.move (Operand.tmp 0), type := 28, pos := "ref.go:59", after := #[], guard := none }, { dst := some 63, op := Op.nilCheck (Operand.tmp 62), type := 0, pos := "ref.go:59", after := #[{ on := 9, ground := Ground.data }], guard := none }, { dst := some 64, op := Op.fieldAddr 65 (Operand.tmp 63) 3, type := 0, pos := "ref.go:59", after := #[{ on := 10, ground := Ground.data }], guard := none }, { dst := some 65, op := Op.load 63 (Operand.tmp 64), type := 63, pos := "ref.go:59", after := #[{ on := 11, ground := Ground.data }], guard := none }, { dst := some 66, op := Op.move (Operand.tmp 5), type := 3, pos := "ref.go:59", after := #[], guard := none }, { dst := some 67, op := Op.binOp BinOp.add 3 (Operand.tmp 66) (Operand.const (Value.int IntKind.i64 1)) 3, type := 3, pos := "ref.go:59", after := #[{ on := 13, ground := Ground.data }], guard := none }, { dst := some 68, op := Op.slice 63 (Operand.tmp 65) (some (Operand.tmp 67)) none none, type := 63, pos := "ref.go:59", after := #[{ on := 12, ground := Ground.data }, { on := 14, ground := Ground.data }], guard := none }, { dst := some 69, op := Op.call { callee := Callee.builtin Builtin.append, args := #[Operand.tmp 61, Operand.tmp 68], argTypes := #[63, 63] }, type := 63, pos := "ref.go:59", after := #[{ on := 8, ground := Ground.data }, { on := 15, ground := Ground.data }, { on := 8, ground := Ground.chain }], guard := none }, { dst := some 70, op := Op.nilCheck (Operand.tmp 53), type := 0, pos := "ref.go:59", after := #[{ on := 0, ground := Ground.data }, { on := 0, ground := Ground.phase }, { on := 1, ground := Ground.phase }, { on := 2, ground := Ground.phase }, { on := 3, ground := Ground.phase }, { on := 4, ground := Ground.phase }, { on := 5, ground := Ground.phase }, { on := 6, ground := Ground.phase }, { on := 7, ground := Ground.phase }, { on := 8, ground := Ground.phase }, { on := 9, ground := Ground.phase }, { on := 10, ground := Ground.phase }, { on := 11, ground := Ground.phase }, { on := 12, ground := Ground.phase }, { on := 13, ground := Ground.phase }, { on := 14, ground := Ground.phase }, { on := 15, ground := Ground.phase }, { on := 16, ground := Ground.phase }], guard := none }, { dst := some 71, op := Op.fieldAddr 65 (Operand.tmp 70) 3, type := 0, pos := "ref.go:59", after := #[{ on := 17, ground := Ground.data }, { on := 0, ground := Ground.phase }, { on := 1, ground := Ground.phase }, { on := 2, ground := Ground.phase }, { on := 3, ground := Ground.phase }, { on := 4, ground := Ground.phase }, { on := 5, ground := Ground.phase }, { on := 6, ground := Ground.phase }, { on := 7, ground := Ground.phase }, { on := 8, ground := Ground.phase }, { on := 9, ground := Ground.phase }, { on := 10, ground := Ground.phase }, { on := 11, ground := Ground.phase }, { on := 12, ground := Ground.phase }, { on := 13, ground := Ground.phase }, { on := 14, ground := Ground.phase }, { on := 15, ground := Ground.phase }, { on := 16, ground := Ground.phase }], guard := none }] { dst := none, op := Op.store 63 (Operand.tmp 71) (Operand.tmp 69), type := 0, pos := "ref.go:59", after := #[{ on := 18, ground := Ground.data }, { on := 16, ground := Ground.data }, { on := 16, ground := Ground.chain }, { on := 0, ground := Ground.phase }, { on := 1, ground := Ground.phase }, { on := 2, ground := Ground.phase }, { on := 3, ground := Ground.phase }, { on := 4, ground := Ground.phase }, { on := 5, ground := Ground.phase }, { on := 6, ground := Ground.phase }, { on := 7, ground := Ground.phase }, { on := 8, ground := Ground.phase }, { on := 9, ground := Ground.phase }, { on := 10, ground := Ground.phase }, { on := 11, ground := Ground.phase }, { on := 12, ground := Ground.phase }, { on := 13, ground := Ground.phase }, { on := 14, ground := Ground.phase }, { on := 15, ground := Ground.phase }, { on := 16, ground := Ground.phase }], guard := none } rfl (by kernel_rfl) (by kernel_rfl) ((fun w' => w'.cell? ⟨r, 3, none⟩ = some (.slice (some ⟨g, 0, none⟩) j vc))) ?_ (fun hHeld => ?_)
      · first | exact HS.out _ hb6 | exact HS.out _ hb5 | exact HS.out _ hb4 | exact HS.out _ hb3
      refine wpAnyH_take (i := 0) (oi := { dst := some 53, op := Op.move (Operand.tmp 0), type := 28, pos := "ref.go:59", after := #[], guard := none }) (v := ?_) rfl (by kernel_rfl) (by kernel_rfl) (by kernel_rfl) (fun _ _ _ h => h) (Or.inl ⟨by rfl, ?_⟩) (by assumption) ?_
      rotate_left
      · ((intro w hSw; (try dsimp only at hSw); go_simp; (try rw [if_neg (by omega)])); try with_reducible rfl)
      (try simp only [Act.put, List.setIfInBounds_toArray, List.set_cons_zero, List.set_cons_succ])
      refine wpAnyH_take (i := 2) (oi := { dst := some 55, op := Op.move (Operand.tmp 0), type := 28, pos := "ref.go:59", after := #[], guard := none }) (v := ?_) rfl (by kernel_rfl) (by kernel_rfl) (by kernel_rfl) (fun _ _ _ h => h) (Or.inl ⟨by rfl, ?_⟩) (by assumption) ?_
      rotate_left
      · ((intro w hSw; (try dsimp only at hSw); go_simp; (try rw [if_neg (by omega)])); try with_reducible rfl)
      (try simp only [Act.put, List.setIfInBounds_toArray, List.set_cons_zero, List.set_cons_succ])
      refine wpAnyH_take (i := 3) (oi := { dst := some 56, op := Op.nilCheck (Operand.tmp 55), type := 0, pos := "ref.go:59", after := #[{ on := 2, ground := Ground.data }], guard := none }) (v := ?_) rfl (by kernel_rfl) (by kernel_rfl) (by kernel_rfl) (fun _ _ _ h => h) (Or.inl ⟨by rfl, ?_⟩) (by assumption) ?_
      rotate_left
      · ((intro w hSw; (try dsimp only at hSw); go_simp; (try rw [if_neg (by omega)])); try with_reducible rfl)
      (try simp only [Act.put, List.setIfInBounds_toArray, List.set_cons_zero, List.set_cons_succ])
      refine wpAnyH_take (i := 4) (oi := { dst := some 57, op := Op.fieldAddr 65 (Operand.tmp 56) 3, type := 0, pos := "ref.go:59", after := #[{ on := 3, ground := Ground.data }], guard := none }) (v := ?_) rfl (by kernel_rfl) (by kernel_rfl) (by kernel_rfl) (fun _ _ _ h => h) (Or.inl ⟨by rfl, ?_⟩) (by assumption) ?_
      rotate_left
      · ((intro w hSw; (try dsimp only at hSw); go_simp; (try rw [if_neg (by omega)])); try with_reducible rfl)
      (try simp only [Act.put, List.setIfInBounds_toArray, List.set_cons_zero, List.set_cons_succ])
      refine wpAnyH_take (i := 5) (oi := { dst := some 58, op := Op.load 63 (Operand.tmp 57), type := 63, pos := "ref.go:59", after := #[{ on := 4, ground := Ground.data }], guard := none }) (v := ?_) rfl (by kernel_rfl) (by kernel_rfl) (by kernel_rfl) (fun _ _ _ h => h) (Or.inl ⟨by rfl, ?_⟩) (by assumption) ?_
      rotate_left
      · ((intro w hSw; (try dsimp only at hSw); go_simp; (try rw [if_neg (by omega)])); try with_reducible rfl)
      (try simp only [Act.put, List.setIfInBounds_toArray, List.set_cons_zero, List.set_cons_succ])
      refine wpAnyH_take (i := 6) (oi := { dst := some 59, op := Op.move (Operand.tmp 5), type := 3, pos := "ref.go:59", after := #[], guard := none }) (v := ?_) rfl (by kernel_rfl) (by kernel_rfl) (by kernel_rfl) (fun _ _ _ h => h) (Or.inl ⟨by rfl, ?_⟩) (by assumption) ?_
      rotate_left
      · ((intro w hSw; (try dsimp only at hSw); go_simp; (try rw [if_neg (by omega)])); try with_reducible rfl)
      (try simp only [Act.put, List.setIfInBounds_toArray, List.set_cons_zero, List.set_cons_succ])
      refine wpAnyH_take (i := 7) (oi := { dst := some 60, op := Op.slice 63 (Operand.tmp 58) none (some (Operand.tmp 59)) none, type := 63, pos := "ref.go:59", after := #[{ on := 5, ground := Ground.data }, { on := 6, ground := Ground.data }], guard := none }) (v := ?_) rfl (by kernel_rfl) (by kernel_rfl) (by kernel_rfl) (fun _ _ _ h => h) (Or.inl ⟨by rfl, ?_⟩) (by assumption) ?_
      rotate_left
      · ((intro w hSw; (try dsimp only at hSw); go_simp; (try rw [if_pos (by omega)])); try with_reducible rfl)
      (try simp only [Act.put, List.setIfInBounds_toArray, List.set_cons_zero, List.set_cons_succ])
      refine wpAnyH_take (i := 9) (oi := { dst := some 62, op := Op.move (Operand.tmp 0), type := 28, pos := "ref.go:59", after := #[], guard := none }) (v := ?_) rfl (by kernel_rfl) (by kernel_rfl) (by kernel_rfl) (fun _ _ _ h => h) (Or.inl ⟨by rfl, ?_⟩) (by assumption) ?_
      rotate_left
      · ((intro w hSw; (try dsimp only at hSw); go_simp; (try rw [if_neg (by omega)])); try with_reducible rfl)
      (try simp only [Act.put, List.setIfInBounds_toArray, List.set_cons_zero, List.set_cons_succ])
      refine wpAnyH_take (i := 10) (oi := { dst := some 63, op := Op.nilCheck (Operand.tmp 62), type := 0, pos := "ref.go:59", after := #[{ on := 9, ground := Ground.data }], guard := none }) (v := ?_) rfl (by kernel_rfl) (by kernel_rfl) (by kernel_rfl) (fun _ _ _ h => h) (Or.inl ⟨by rfl, ?_⟩) (by assumption) ?_
      rotate_left
      · ((intro w hSw; (try dsimp only at hSw); go_simp; (try rw [if_neg (by omega)])); try with_reducible rfl)
      (try simp only [Act.put, List.setIfInBounds_toArray, List.set_cons_zero, List.set_cons_succ])
      refine wpAnyH_take (i := 11) (oi := { dst := some 64, op := Op.fieldAddr 65 (Operand.tmp 63) 3, type := 0, pos := "ref.go:59", after := #[{ on := 10, ground := Ground.data }], guard := none }) (v := ?_) rfl (by kernel_rfl) (by kernel_rfl) (by kernel_rfl) (fun _ _ _ h => h) (Or.inl ⟨by rfl, ?_⟩) (by assumption) ?_
      rotate_left
      · ((intro w hSw; (try dsimp only at hSw); go_simp; (try rw [if_neg (by omega)])); try with_reducible rfl)
      (try simp only [Act.put, List.setIfInBounds_toArray, List.set_cons_zero, List.set_cons_succ])
      refine wpAnyH_take (i := 12) (oi := { dst := some 65, op := Op.load 63 (Operand.tmp 64), type := 63, pos := "ref.go:59", after := #[{ on := 11, ground := Ground.data }], guard := none }) (v := ?_) rfl (by kernel_rfl) (by kernel_rfl) (by kernel_rfl) (fun _ _ _ h => h) (Or.inl ⟨by rfl, ?_⟩) (by assumption) ?_
      rotate_left
      · ((intro w hSw; (try dsimp only at hSw); go_simp; (try rw [if_neg (by omega)])); try with_reducible rfl)
      (try simp only [Act.put, List.setIfInBounds_toArray, List.set_cons_zero, List.set_cons_succ])
      refine wpAnyH_take (i := 13) (oi := { dst := some 66, op := Op.move (Operand.tmp 5), type := 3, pos := "ref.go:59", after := #[], guard := none }) (v := ?_) rfl (by kernel_rfl) (by kernel_rfl) (by kernel_rfl) (fun _ _ _ h => h) (Or.inl ⟨by rfl, ?_⟩) (by assumption) ?_
      rotate_left
      · ((intro w hSw; (try dsimp only at hSw); go_simp; (try rw [if_neg (by omega)])); try with_reducible rfl)
      (try simp only [Act.put, List.setIfInBounds_toArray, List.set_cons_zero, List.set_cons_succ])
      refine wpAnyH_take (i := 14) (oi := { dst := some 67, op := Op.binOp BinOp.add 3 (Operand.tmp 66) (Operand.const (Value.int IntKind.i64 1)) 3, type := 3, pos := "ref.go:59", after := #[{ on := 13, ground := Ground.data }], guard := none }) (v := ?_) rfl (by kernel_rfl) (by kernel_rfl) (by kernel_rfl) (fun _ _ _ h => h) (Or.inl ⟨by rfl, ?_⟩) (by assumption) ?_
      rotate_left
      · ((intro w hSw; (try dsimp only at hSw); go_simp; (try rw [if_neg (by omega)])); try with_reducible rfl)
      (try simp only [Act.put, List.setIfInBounds_toArray, List.set_cons_zero, List.set_cons_succ])
      refine wpAnyH_take (i := 15) (oi := { dst := some 68, op := Op.slice 63 (Operand.tmp 65) (some (Operand.tmp 67)) none none, type := 63, pos := "ref.go:59", after := #[{ on := 12, ground := Ground.data }, { on := 14, ground := Ground.data }], guard := none }) (v := ?_) rfl (by kernel_rfl) (by kernel_rfl) (by kernel_rfl) (fun _ _ _ h => h) (Or.inl ⟨by rfl, ?_⟩) (by assumption) ?_
      rotate_left
      · ((intro w hSw; (try dsimp only at hSw); go_simp; (try rw [if_pos (by omega)])); try with_reducible rfl)
      (try simp only [Act.put, List.setIfInBounds_toArray, List.set_cons_zero, List.set_cons_succ])
      refine wpAnyH_ready (rs := [1]) (by kernel_rfl) (by simp) ?_
      refine AllReadyH.cons (o := { dst := some 54, op := Op.buildSlice 63 0 #[], type := 63, pos := "ref.go:59", after := #[], guard := none }) rfl (fun K hK => ?_) AllReadyH.nil
      (go_simp; have hb4 : Below w7.heap.size w7 (w7.alloc (.cells #[] 74)).drew := Below.drew (balloc (Below.refl _ _) _))
      refine hK.out _ _ ?_ (fun hHeld => ?_)
      · first | exact HS.out _ hb6 | exact HS.out _ hb5 | exact HS.out _ hb4 | exact HS.out _ hb3
      clear hK K
      (try simp only [Act.put, List.setIfInBounds_toArray, List.set_cons_zero, List.set_cons_succ])
      refine wpAnyH_ready (rs := [8]) (by kernel_rfl) (by simp) ?_
      refine AllReadyH.cons (o := { dst := some 61, op := Op.call { callee := Callee.builtin Builtin.append, args := #[Operand.tmp 54, Operand.tmp 60], argTypes := #[63, 63] }, type := 63, pos := "ref.go:59", after := #[{ on := 1, ground := Ground.data }, { on := 7, ground := Ground.data }], guard := none }) rfl (fun K hK => ?_) AllReadyH.nil
      (refine step_appN (by rfl) _ _ _ (by rfl) w7.heap.size 74 i0 _ 4 40 Try.underlying63 hi0 hz0 hz1 hz2 rfl (by omega) _ 0 [] (by rfl) (own_empty w7.drew 74 4 w7.heap.size (Nat.le_refl _)) (.slice (some ⟨g, 0, none⟩) b vc) b _ (by rfl) (HT.out.keep hb4) HONE1.out (by unfold maxLen; omega) (by omega) (by simp) ?_; intro v5 w5 hown5 hg5 hat5; have hb5 : Below w7.heap.size w7 w5 := hb4.grown hg5 (by simp) (fun q e => Nat.le_of_eq (Option.some.inj e)))
      refine hK.out _ _ ?_ (fun hHeld => ?_)
      · first | exact HS.out _ hb6 | exact HS.out _ hb5 | exact HS.out _ hb4 | exact HS.out _ hb3
      clear hK K
      (try simp only [Act.put, List.setIfInBounds_toArray, List.set_cons_zero, List.set_cons_succ])
      refine wpAnyH_ready (rs := [16]) (by kernel_rfl) (by simp) ?_
      refine AllReadyH.cons (o := { dst := some 69, op := Op.call { callee := Callee.builtin Builtin.append, args := #[Operand.tmp 61, Operand.tmp 68], argTypes := #[63, 63] }, type := 63, pos := "ref.go:59", after := #[{ on := 8, ground := Ground.data }, { on := 15, ground := Ground.data }, { on := 8, ground := Ground.chain }], guard := none }) rfl (fun K hK => ?_) AllReadyH.nil
      (refine step_appN (by rfl) _ _ _ (by rfl) w7.heap.size 74 i0 _ 4 40 Try.underlying63 hi0 hz0 hz1 hz2 rfl (by omega) _ _ _ (by rfl) hown5 (.slice ad (j - (b + 1)) (vc - (b + 1))) (j - (b + 1)) _ (by rfl) (HD.out.keep hb5) HONE2.out (by unfold maxLen; omega) (by omega) hb5.size ?_; intro v6 w6 hown6 hg6 hat6; have hb6 : Below w7.heap.size w7 w6 := hb5.grown hg6 hb5.size (fun q e => (hown5.lt q e).1))
      refine hK.out _ _ ?_ (fun hHeld => ?_)
      · first | exact HS.out _ hb6 | exact HS.out _ hb5 | exact HS.out _ hb4 | exact HS.out _ hb3
      clear hK K
      (try simp only [Act.put, List.setIfInBounds_toArray, List.set_cons_zero, List.set_cons_succ])
      refine wpAnyH_take (i := 17) (oi := { dst := some 70, op := Op.nilCheck (Operand.tmp 53), type := 0, pos := "ref.go:59", after := #[{ on := 0, ground := Ground.data }, { on := 0, ground := Ground.phase }, { on := 1, ground := Ground.phase }, { on := 2, ground := Ground.phase }, { on := 3, ground := Ground.phase }, { on := 4, ground := Ground.phase }, { on := 5, ground := Ground.phase }, { on := 6, ground := Ground.phase }, { on := 7, ground := Ground.phase }, { on := 8, ground := Ground.phase }, { on := 9, ground := Ground.phase }, { on := 10, ground := Ground.phase }, { on := 11, ground := Ground.phase }, { on := 12, ground := Ground.phase }, { on := 13, ground := Ground.phase }, { on := 14, ground := Ground.phase }, { on := 15, ground := Ground.phase }, { on := 16, ground := Ground.phase }], guard := none }) (v := ?_) rfl (by kernel_rfl) (by kernel_rfl) (by kernel_rfl) (fun _ _ _ h => h) (Or.inl ⟨by rfl, ?_⟩) (by assumption) ?_
      rotate_left
      · ((intro w hSw; (try dsimp only at hSw); go_simp; (try rw [if_neg (by omega)])); try with_reducible rfl)
      (try simp only [Act.put, List.setIfInBounds_toArray, List.set_cons_zero, List.set_cons_succ])
      refine wpAnyH_take (i := 18) (oi := { dst := some 71, op := Op.fieldAddr 65 (Operand.tmp 70) 3, type := 0, pos := "ref.go:59", after := #[{ on := 17, ground := Ground.data }, { on := 0, ground := Ground.phase }, { on := 1, ground := Ground.phase }, { on := 2, ground := Ground.phase }, { on := 3, ground := Ground.phase }, { on := 4, ground := Ground.phase }, { on := 5, ground := Ground.phase }, { on := 6, ground := Ground.phase }, { on := 7, ground := Ground.phase }, { on := 8, ground := Ground.phase }, { on := 9, ground := Ground.phase }, { on := 10, ground := Ground.phase }, { on := 11, ground := Ground.phase }, { on := 12, ground := Ground.phase }, { on := 13, ground := Ground.phase }, { on := 14, ground := Ground.phase }, { on := 15, ground := Ground.phase }, { on := 16, ground := Ground.phase }], guard := none }) (v := ?_) rfl (by kernel_rfl) (by kernel_rfl) (by kernel_rfl) (fun _ _ _ h => h) (Or.inl ⟨by rfl, ?_⟩) (by assumption) ?_
      rotate_left
      · ((intro w hSw; (try dsimp only at hSw); go_simp; (try rw [if_neg (by omega)])); try with_reducible rfl)
      (try simp only [Act.put, List.setIfInBounds_toArray, List.set_cons_zero, List.set_cons_succ])
      refine wpAnyH_done (by kernel_rfl) ?_ _
      show Oper.wp _ _ _ _ _ _
      rw [HCR.out, ← HRL.out] at hown6
      obtain ⟨oa, oc, hvv⟩ : ∃ oa oc, v6 = .slice oa R.length oc := own_shape hown6
      subst hvv
      have hq6 := HBLK.out w6 (bnext HBW7.out hb6)
      have hfz := nd_froz hq6 3
      have hset := FrS.set (S := fun b => b = r) w6 (b := r) (i := 3) rfl (.slice oa R.length oc)
      obtain ⟨w8, hw8⟩ : ∃ w8, w6.setCell ⟨r, 3, none⟩ (.slice oa R.length oc) = w8 := ⟨_, rfl⟩
      have hsz8 : w8.heap.size = w6.heap.size := by rw [← hw8]; simp
      have hblk8 : w8.heap[r]? = some (.cells #[.int .i64 nd, .int .i64 (k : Int), sc, .slice oa R.length oc] 65 (0, 0)) := by rw [← hw8]; exact heap_setCell_same w6 r 3 _ _ _ hq6
      rw [hw8] at hset
      have hrX : r < X := HLT.out r HL1.out.fM
      have hX1 : X < w1.heap.size := (Array.getElem?_eq_some_iff.1 HXX.out).1
      have h71 := HBW7.out.size
      have hRS : RS w8 r nd T k R (fun b => F b ∨ (Value.slice oa R.length oc).ownBlock = some b) := by
        obtain ⟨⟨sc', v', hq, -, -, hs, hsf⟩, fM, lt⟩ := HL1.out
        have he : sc' = sc := by
          have h1 := (HBLK.out w1 (Below.refl _ _)).symm.trans hq
          simp at h1
          exact h1.1.symm
        subst he
        exact ⟨⟨sc', _, hblk8, hset.own (own_base hown6 (by omega)) (fun q e => by have := (hown6.lt q e).1; omega), fun b e => .inr e, hset.own (own_below hs (bnext HBW7.out hb6)) (fun q e => by have := (hsf q e).1; omega), fun b e => ⟨(hsf b e).1, .inl (hsf b e).2⟩⟩, .inl fM, fun b hb => by
          have h6 := hb6.size
          rw [hsz8]
          rcases hb with hb | hb
          · have := lt b hb
            omega
          · exact (hown6.lt b hb).2⟩
      have hF8 : FrS F W w8 := (FrS.of (bnext (bnext HB1.out HBW7.out) hb6)).trans (hset.mono (fun b e => by rw [e]; exact HL1.out.fM))
      have hn2 : ∀ b, (Value.slice oa R.length oc).ownBlock = some b → w7.heap.size ≤ b := fun b e => (hown6.lt b e).1
      have hx8 : w8.heap[X]? = some (.cells #[.int .i64 0, .int .i64 0, .string ⟨#[]⟩] 31 (0, 0)) := hset.nd (((bnext HBW7.out hb6).block X hX1).trans HXX.out) (fun e => by omega)
      have hx78 := hset.nd ((hb6.block X7 (Array.getElem?_eq_some_iff.1 HX7.out).1).trans HX7.out) (fun e => by have h1 := (Array.getElem?_eq_some_iff.1 HX7.out).1; have h2 := HX7G.out; omega)
      obtain ⟨V, hV, hxV, hfV⟩ := set3 hx8 (.int .i64 pf) (.int .i64 po) (.string ps)
      have HXV := Lib.hid hxV
      have HV := Lib.hid hV
      have HFIN : Hid (RSr W F V.drew r nd T k R) := Lib.hid (by
        refine RSr.below ?_ (Below.drew (Below.refl V.heap.size V))
        have hWX := HX.out
        refine ⟨hF8.over hfV (fun b e => .inr (by omega)), _, hRS.kept hfV (fun b hb e => ?_), fun b hb => ?_⟩
        · rcases hb with hb | hb
          · have := HLT.out b hb
            omega
          · have := hn2 b hb
            omega
        · rcases hb with hb | hb
          · exact .inl hb
          · have := hn2 b hb
            exact .inr (by omega))
      have HDR : Hid (V.drew.heap[X]? = some (.cells #[.int .i64 pf, .int .i64 po, .string ps] 31 (0, 0))) := HXV
      have x0 := nd_cell (i := 0) hx8 rfl
      have x1 := nd_cell (i := 1) hx8 rfl
      have x2 := nd_cell (i := 2) hx8 rfl
      have y0 := nd_froz hx8 0
      have y1 := nd_froz hx8 1
      have y2 := nd_froz hx8 2
      have z0 := nd_cell (i := 0) hx78 rfl
      have z1 := nd_cell (i := 1) hx78 rfl
      have z2 := nd_cell (i := 2) hx78 rfl
      have z3 := nd_cell (i := 3) hx78 rfl
      have HW8 := Lib.hid hw8
      have c3 := HS.out w6 hb6
      clear hown6 hb6 hg6 hat6 hown5 hg5 hat5 hb5 hb4 hb3 hq6 hset hsz8 hblk8 hRS hF8 hn2 hx8 hx78 hV hxV hfV hw8 hHeld
      go_upto_region 11 with fail
      rw [HW8.out]
      clear c3 hfz
      go_region
      rw [HV.out]
      go_wp2
      refine bodyPost_ret (v := .tuple #[msV pf po ps, .int .i64 pt, .bool true]) (results_ctt Try.results23 _ _ X 31 _ (0, 0) _ rfl HDR.out Try.underlying31 rfl (by kernel_rfl)) rfl ?_
      rw [HBB.out, HRR.out, HPF.out, HPO.out, HPS.out, HPT.out]
      exact ⟨rfl, HFIN.out⟩
end
end Go.Proofs.Ytgphdgalcbcamaa
