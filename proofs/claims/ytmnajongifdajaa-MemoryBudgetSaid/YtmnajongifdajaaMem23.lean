/- The reference's memory without a key. No conditions. -/
import Derived.Test.YtmnajongifdajaaMem22
namespace Go.Proofs.Ytmnajongifdajaa
set_option maxRecDepth 100000
set_option linter.unusedVariables false
open Go.RowKit Go.Deep ME
theorem own_empty (w : World) (e : TypeId) (size B : Nat) (hB : B ≤ w.heap.size) : (w.alloc (.cells #[] e)).ownsRow B e size (.slice (some ⟨w.heap.size, 0, none⟩) 0 0) 0 [] :=
  ⟨by simp, .inr ⟨w.heap.size, 0, #[], rfl, hB, heap_alloc_new w _, Nat.le_refl _, by unfold maxLen; omega, by simp, by simp⟩⟩
theorem info_kept : (Try.prog.info? 55).map (fun i => (i.zero, i.size, i.bytes)) = some (some (.agg #[.int .i64 0, .int .i64 0, .int .i64 0, .int .i64 0, .int .i64 0, .bool false]), 6, 48) := by kernel_rfl
theorem SrcN.drop {k : Nat} {W : World} {a ad : Option Addr} {n c m : Nat} {U : List Value} (h : SrcN k W (.slice a n c) n U) (hm : m ≤ n) (hd : ∀ g, a = some ⟨g, 0, none⟩ → m < n → ad = some ⟨g, m * k, none⟩) (ha : ∀ g o, a = some ⟨g, o, none⟩ → o = 0) (hz : ad = none → c - m = 0) : SrcN k W (.slice ad (n - m) (c - m)) (n - m) (U.drop (m * k)) := by
  obtain ⟨ao, c', e, hl, h⟩ := h
  injection e with e1 e2 e3
  subst e1 e3
  refine ⟨ad, c - m, rfl, by rw [List.length_drop, hl, Nat.sub_mul], ?_⟩
  rcases Nat.lt_or_ge m n with hlt | hge
  · rcases h with ⟨h, h'⟩ | ⟨g, o, e2, hg, hc⟩
    · omega
    · obtain rfl := ha g o e2
      refine .inr ⟨g, m * k, hd g e2 hlt, hg, fun j u hu => ?_⟩
      rw [List.getElem?_drop] at hu
      have := hc _ u hu
      rwa [Nat.zero_add] at this
  · exact .inl ⟨by omega, hz⟩
set_option maxHeartbeats 4000000 in
theorem rwithout_any (W : World) (r : Nat) (bu : Int) (A C : List En) (e : En) (G : Nat → Prop) (h : RrAt W r bu (A ++ e :: C) G) (hlen : (A ++ e :: C).length ≤ 1000000) :
    Calls Try.prog 41 #[ptr r, .int .i64 (A.length : Int)] W fun x w' => ∃ v, x = .returned v ∧ w'.ownsRow W.heap.size 55 6 v (A ++ C).length (ME.kp (A ++ C)) ∧ Below W.heap.size W w' := by
  obtain ⟨i0, hi0, hz0, hz1, hz2⟩ := info_parts info_kept
  have mixed : Try.prog.follows .mixedOrders = true := by kernel_rfl
  obtain ⟨⟨v, hr, hrow, -⟩, -, -⟩ := h
  obtain ⟨va, vc, rfl⟩ := own_shape hrow
  obtain ⟨p, hp⟩ : ∃ p, A.length = p := ⟨_, rfl⟩
  obtain ⟨n, hn⟩ : ∃ n, (A ++ e :: C).length = n := ⟨_, rfl⟩
  have hpn : p < n := by rw [← hp, ← hn]; simp
  rw [hn] at hr hrow hlen
  have hs := own_srcN hrow
  obtain ⟨g, rfl, hcap⟩ : ∃ g, va = some ⟨g, 0, none⟩ ∧ n ≤ vc ∧ vc ≤ maxLen := by
    rcases hrow.2 with ⟨hv, h0⟩ | ⟨g, cap, cur, hv, hb, hg, h1, h2, _⟩
    · omega
    · injection hv with e1 _ e3
      exact ⟨g, e1, by rw [e3]; exact h1, by rw [e3]; exact h2⟩
  obtain ⟨ad, had⟩ : ∃ ad : Option Addr, (if vc = p + 1 then some (⟨g, 0, none⟩ : Addr) else some ⟨g, (p + 1) * 6, none⟩) = ad := ⟨_, rfl⟩
  have hcap2 := hcap.2
  unfold maxLen at hcap2
  have HT := Lib.hid (hs.take (m := p) (by omega))
  have HD := Lib.hid (hs.drop (m := p + 1) (ad := ad) (by omega) (fun g' e1 hlt => by injection e1 with e1; injection e1 with e1; subst e1; rw [← had, if_neg (by omega)]) (fun g' o e1 => by injection e1 with e1; injection e1 with _ e1; exact e1.symm) (fun e1 => by rw [← had] at e1; split at e1 <;> cases e1))
  have HONE1 : Hid (∀ u ∈ (ME.kp (A ++ e :: C)).take (p * 6), u.oneCell' = true) := Lib.hid fun u hu => ME.kp_one _ u (List.take_subset _ _ hu)
  have HONE2 : Hid (∀ u ∈ (ME.kp (A ++ e :: C)).drop ((p + 1) * 6), u.oneCell' = true) := Lib.hid fun u hu => ME.kp_one _ u (List.drop_subset _ _ hu)
  have HE : Hid ([] ++ (ME.kp (A ++ e :: C)).take (p * 6) ++ (ME.kp (A ++ e :: C)).drop ((p + 1) * 6) = ME.kp (A ++ C)) := Lib.hid (by
    unfold ME.kp
    rw [List.nil_append, ← flat_take ME.kpL_len, List.take_left' hp]
    have h2 : List.drop ((p + 1) * 6) (List.flatMap kpL (A ++ e :: C)) = List.flatMap kpL C := by
      rw [show A ++ e :: C = (A ++ [e]) ++ C by simp, List.flatMap_append, List.drop_left']
      rw [flat_len ME.kpL_len, List.length_append, hp]
      rfl
    rw [h2, List.flatMap_append])
  have HLEN : Hid (0 + p + (n - (p + 1)) = (A ++ C).length) := Lib.hid (by
    rw [← hn, List.length_append, List.length_append, List.length_cons, hp]
    omega)
  have HS : Hid (∀ V, Below W.heap.size W V → (fun w' => w'.cell? ⟨r, 2, none⟩ = some (.slice (some ⟨g, 0, none⟩) n vc)) V) := Lib.hid fun V hV => (rmem_cells ((hV.block r (Array.getElem?_eq_some_iff.1 hr).1).trans hr)).2.2
  have hw1 : IntKind.i64.wrap ((p : Int) + 1) = ((p + 1 : Nat) : Int) := by rw [IntWalk.i64_in _ (by omega)]; rfl
  have q1 : (p : Int) ≤ (n : Int) := by omega
  have q2 : (0 : Int) ≤ (p : Int) := by omega
  have hb3 : Below W.heap.size W W.drew := Below.drew (Below.refl _ _)
  rw [hp]
  clear hr hrow hs hp hn
  go_enter Try.func41, Try.ntmps41
  go_wp2
  refine wp_region_held_drew (S := (fun w' => w'.cell? ⟨r, 2, none⟩ = some (.slice (some ⟨g, 0, none⟩) n vc))) (by kernel_rfl) ?_ (fun hHeld => ?_)
  · first | exact HS.out _ hb6 | exact HS.out _ hb5 | exact HS.out _ hb4 | exact HS.out _ hb3
  refine wpAnyH_take (i := 1) (oi := { dst := some 6, op := Op.move (Operand.tmp 0), type := 25, pos := "ref.go:43", after := #[], guard := none }) (v := ?_) rfl (by kernel_rfl) (by kernel_rfl) (by kernel_rfl) (fun _ _ _ h => h) (Or.inl ⟨by rfl, ?_⟩) (by assumption) ?_
  rotate_left
  · ((intro w hSw; (try dsimp only at hSw); go_simp; (try rw [if_neg (by omega)])); try with_reducible rfl)
  (try simp only [Act.put, List.setIfInBounds_toArray, List.set_cons_zero, List.set_cons_succ])
  refine wpAnyH_take (i := 2) (oi := { dst := some 7, op := Op.nilCheck (Operand.tmp 6), type := 0, pos := "ref.go:43", after := #[{ on := 1, ground := Ground.data }], guard := none }) (v := ?_) rfl (by kernel_rfl) (by kernel_rfl) (by kernel_rfl) (fun _ _ _ h => h) (Or.inl ⟨by rfl, ?_⟩) (by assumption) ?_
  rotate_left
  · ((intro w hSw; (try dsimp only at hSw); go_simp; (try rw [if_neg (by omega)])); try with_reducible rfl)
  (try simp only [Act.put, List.setIfInBounds_toArray, List.set_cons_zero, List.set_cons_succ])
  refine wpAnyH_take (i := 3) (oi := { dst := some 8, op := Op.fieldAddr 53 (Operand.tmp 7) 2, type := 0, pos := "ref.go:43", after := #[{ on := 2, ground := Ground.data }], guard := none }) (v := ?_) rfl (by kernel_rfl) (by kernel_rfl) (by kernel_rfl) (fun _ _ _ h => h) (Or.inl ⟨by rfl, ?_⟩) (by assumption) ?_
  rotate_left
  · ((intro w hSw; (try dsimp only at hSw); go_simp; (try rw [if_neg (by omega)])); try with_reducible rfl)
  (try simp only [Act.put, List.setIfInBounds_toArray, List.set_cons_zero, List.set_cons_succ])
  refine wpAnyH_take (i := 4) (oi := { dst := some 9, op := Op.load 51 (Operand.tmp 8), type := 51, pos := "ref.go:43", after := #[{ on := 3, ground := Ground.data }], guard := none }) (v := ?_) rfl (by kernel_rfl) (by kernel_rfl) (by kernel_rfl) (fun _ _ _ h => h) (Or.inl ⟨by rfl, ?_⟩) (by assumption) ?_
  rotate_left
  · ((intro w hSw; (try dsimp only at hSw); go_simp; (try rw [if_neg (by omega)])); try with_reducible rfl)
  (try simp only [Act.put, List.setIfInBounds_toArray, List.set_cons_zero, List.set_cons_succ])
  refine wpAnyH_take (i := 5) (oi := { dst := some 10, op := Op.move (Operand.tmp 1), type := 3, pos := "ref.go:43", after := #[], guard := none }) (v := ?_) rfl (by kernel_rfl) (by kernel_rfl) (by kernel_rfl) (fun _ _ _ h => h) (Or.inl ⟨by rfl, ?_⟩) (by assumption) ?_
  rotate_left
  · ((intro w hSw; (try dsimp only at hSw); go_simp; (try rw [if_neg (by omega)])); try with_reducible rfl)
  (try simp only [Act.put, List.setIfInBounds_toArray, List.set_cons_zero, List.set_cons_succ])
  refine wpAnyH_take (i := 6) (oi := { dst := some 11, op := Op.slice 51 (Operand.tmp 9) none (some (Operand.tmp 10)) none, type := 51, pos := "ref.go:43", after := #[{ on := 4, ground := Ground.data }, { on := 5, ground := Ground.data }], guard := none }) (v := ?_) rfl (by kernel_rfl) (by kernel_rfl) (by kernel_rfl) (fun _ _ _ h => h) (Or.inl ⟨by rfl, ?_⟩) (by assumption) ?_
  rotate_left
  · ((intro w hSw; (try dsimp only at hSw); go_simp; (try rw [if_pos (by omega)])); try with_reducible rfl)
  (try simp only [Act.put, List.setIfInBounds_toArray, List.set_cons_zero, List.set_cons_succ])
  refine wpAnyH_take (i := 8) (oi := { dst := some 13, op := Op.move (Operand.tmp 0), type := 25, pos := "ref.go:43", after := #[], guard := none }) (v := ?_) rfl (by kernel_rfl) (by kernel_rfl) (by kernel_rfl) (fun _ _ _ h => h) (Or.inl ⟨by rfl, ?_⟩) (by assumption) ?_
  rotate_left
  · ((intro w hSw; (try dsimp only at hSw); go_simp; (try rw [if_neg (by omega)])); try with_reducible rfl)
  (try simp only [Act.put, List.setIfInBounds_toArray, List.set_cons_zero, List.set_cons_succ])
  refine wpAnyH_take (i := 9) (oi := { dst := some 14, op := Op.nilCheck (Operand.tmp 13), type := 0, pos := "ref.go:43", after := #[{ on := 8, ground := Ground.data }], guard := none }) (v := ?_) rfl (by kernel_rfl) (by kernel_rfl) (by kernel_rfl) (fun _ _ _ h => h) (Or.inl ⟨by rfl, ?_⟩) (by assumption) ?_
  rotate_left
  · ((intro w hSw; (try dsimp only at hSw); go_simp; (try rw [if_neg (by omega)])); try with_reducible rfl)
  (try simp only [Act.put, List.setIfInBounds_toArray, List.set_cons_zero, List.set_cons_succ])
  refine wpAnyH_take (i := 10) (oi := { dst := some 15, op := Op.fieldAddr 53 (Operand.tmp 14) 2, type := 0, pos := "ref.go:43", after := #[{ on := 9, ground := Ground.data }], guard := none }) (v := ?_) rfl (by kernel_rfl) (by kernel_rfl) (by kernel_rfl) (fun _ _ _ h => h) (Or.inl ⟨by rfl, ?_⟩) (by assumption) ?_
  rotate_left
  · ((intro w hSw; (try dsimp only at hSw); go_simp; (try rw [if_neg (by omega)])); try with_reducible rfl)
  (try simp only [Act.put, List.setIfInBounds_toArray, List.set_cons_zero, List.set_cons_succ])
  refine wpAnyH_take (i := 11) (oi := { dst := some 16, op := Op.load 51 (Operand.tmp 15), type := 51, pos := "ref.go:43", after := #[{ on := 10, ground := Ground.data }], guard := none }) (v := ?_) rfl (by kernel_rfl) (by kernel_rfl) (by kernel_rfl) (fun _ _ _ h => h) (Or.inl ⟨by rfl, ?_⟩) (by assumption) ?_
  rotate_left
  · ((intro w hSw; (try dsimp only at hSw); go_simp; (try rw [if_neg (by omega)])); try with_reducible rfl)
  (try simp only [Act.put, List.setIfInBounds_toArray, List.set_cons_zero, List.set_cons_succ])
  refine wpAnyH_take (i := 12) (oi := { dst := some 17, op := Op.move (Operand.tmp 1), type := 3, pos := "ref.go:43", after := #[], guard := none }) (v := ?_) rfl (by kernel_rfl) (by kernel_rfl) (by kernel_rfl) (fun _ _ _ h => h) (Or.inl ⟨by rfl, ?_⟩) (by assumption) ?_
  rotate_left
  · ((intro w hSw; (try dsimp only at hSw); go_simp; (try rw [if_neg (by omega)])); try with_reducible rfl)
  (try simp only [Act.put, List.setIfInBounds_toArray, List.set_cons_zero, List.set_cons_succ])
  refine wpAnyH_take (i := 13) (oi := { dst := some 18, op := Op.binOp BinOp.add 3 (Operand.tmp 17) (Operand.const (Value.int IntKind.i64 1)) 3, type := 3, pos := "ref.go:43", after := #[{ on := 12, ground := Ground.data }], guard := none }) (v := ?_) rfl (by kernel_rfl) (by kernel_rfl) (by kernel_rfl) (fun _ _ _ h => h) (Or.inl ⟨by rfl, ?_⟩) (by assumption) ?_
  rotate_left
  · ((intro w hSw; (try dsimp only at hSw); go_simp; (try rw [if_neg (by omega)])); try with_reducible rfl)
  (try simp only [Act.put, List.setIfInBounds_toArray, List.set_cons_zero, List.set_cons_succ])
  refine wpAnyH_take (i := 14) (oi := { dst := some 19, op := Op.slice 51 (Operand.tmp 16) (some (Operand.tmp 18)) none none, type := 51, pos := "ref.go:43", after := #[{ on := 11, ground := Ground.data }, { on := 13, ground := Ground.data }], guard := none }) (v := ?_) rfl (by kernel_rfl) (by kernel_rfl) (by kernel_rfl) (fun _ _ _ h => h) (Or.inl ⟨by rfl, ?_⟩) (by assumption) ?_
  rotate_left
  · ((intro w hSw; (try dsimp only at hSw); go_simp; (try rw [if_pos (by omega)])); try with_reducible rfl)
  (try simp only [Act.put, List.setIfInBounds_toArray, List.set_cons_zero, List.set_cons_succ])
  refine wpAnyH_ready (rs := [0]) (by kernel_rfl) (by simp) ?_
  refine AllReadyH.cons (o := { dst := some 5, op := Op.buildSlice 51 0 #[], type := 51, pos := "ref.go:43", after := #[], guard := none }) rfl (fun K hK => ?_) ?_
  · (go_simp; have hb4 : Below W.heap.size W (W.alloc (.cells #[] 55)).drew := Below.drew (balloc (Below.refl _ _) _))
    refine hK.out _ _ ?_ (fun hHeld => ?_)
    · first | exact HS.out _ hb6 | exact HS.out _ hb5 | exact HS.out _ hb4 | exact HS.out _ hb3
    clear hK K
    (try simp only [Act.put, List.setIfInBounds_toArray, List.set_cons_zero, List.set_cons_succ])
    refine wpAnyH_ready (rs := [7]) (by kernel_rfl) (by simp) ?_
    refine AllReadyH.cons (o := { dst := some 12, op := Op.call { callee := Callee.builtin Builtin.append, args := #[Operand.tmp 5, Operand.tmp 11], argTypes := #[51, 51] }, type := 51, pos := "ref.go:43", after := #[{ on := 0, ground := Ground.data }, { on := 6, ground := Ground.data }], guard := none }) rfl (fun K hK => ?_) ?_
    · (refine step_appN (by rfl) _ _ _ (by rfl) W.heap.size 55 i0 _ 6 48 Try.underlying51 hi0 hz0 hz1 hz2 rfl (by omega) _ 0 [] (by rfl) (own_empty W.drew 55 6 W.heap.size (Nat.le_refl _)) (.slice (some ⟨g, 0, none⟩) p vc) p _ (by rfl) (HT.out.keep hb4) HONE1.out (by unfold maxLen; omega) (by omega) (by simp) ?_; intro v5 w5 hown5 hg5 hat5; have hb5 : Below W.heap.size W w5 := hb4.grown hg5 (by simp) (fun q e => Nat.le_of_eq (Option.some.inj e)))
      refine hK.out _ _ ?_ (fun hHeld => ?_)
      · first | exact HS.out _ hb6 | exact HS.out _ hb5 | exact HS.out _ hb4 | exact HS.out _ hb3
      clear hK K
      (try simp only [Act.put, List.setIfInBounds_toArray, List.set_cons_zero, List.set_cons_succ])
      refine wpAnyH_ready (rs := [15]) (by kernel_rfl) (by simp) ?_
      refine AllReadyH.cons (o := { dst := some 20, op := Op.call { callee := Callee.builtin Builtin.append, args := #[Operand.tmp 12, Operand.tmp 19], argTypes := #[51, 51] }, type := 51, pos := "ref.go:43", after := #[{ on := 7, ground := Ground.data }, { on := 14, ground := Ground.data }, { on := 7, ground := Ground.chain }], guard := none }) rfl (fun K hK => ?_) ?_
      · (refine step_appN (by rfl) _ _ _ (by rfl) W.heap.size 55 i0 _ 6 48 Try.underlying51 hi0 hz0 hz1 hz2 rfl (by omega) _ _ _ (by rfl) hown5 (.slice ad (n - (p + 1)) (vc - (p + 1))) (n - (p + 1)) _ (by rfl) (HD.out.keep hb5) HONE2.out (by unfold maxLen; omega) (by omega) hb5.size ?_; intro v6 w6 hown6 hg6 hat6; have hb6 : Below W.heap.size W w6 := hb5.grown hg6 hb5.size (fun q e => (hown5.lt q e).1))
        refine hK.out _ _ ?_ (fun hHeld => ?_)
        · first | exact HS.out _ hb6 | exact HS.out _ hb5 | exact HS.out _ hb4 | exact HS.out _ hb3
        clear hK K
        (try simp only [Act.put, List.setIfInBounds_toArray, List.set_cons_zero, List.set_cons_succ])
        refine wpAnyH_take (i := 16) (oi := { dst := some 4, op := Op.assign (Operand.tmp 20), type := 51, pos := "ref.go:43", after := #[{ on := 15, ground := Ground.data }, { on := 15, ground := Ground.chain }, { on := 0, ground := Ground.phase }, { on := 1, ground := Ground.phase }, { on := 2, ground := Ground.phase }, { on := 3, ground := Ground.phase }, { on := 4, ground := Ground.phase }, { on := 5, ground := Ground.phase }, { on := 6, ground := Ground.phase }, { on := 7, ground := Ground.phase }, { on := 8, ground := Ground.phase }, { on := 9, ground := Ground.phase }, { on := 10, ground := Ground.phase }, { on := 11, ground := Ground.phase }, { on := 12, ground := Ground.phase }, { on := 13, ground := Ground.phase }, { on := 14, ground := Ground.phase }, { on := 15, ground := Ground.phase }], guard := none }) (v := ?_) rfl (by kernel_rfl) (by kernel_rfl) (by kernel_rfl) (fun _ _ _ h => h) (Or.inl ⟨by rfl, ?_⟩) (by assumption) ?_
        rotate_left
        · ((intro w hSw; (try dsimp only at hSw); go_simp; (try rw [if_neg (by omega)])); try with_reducible rfl)
        (try simp only [Act.put, List.setIfInBounds_toArray, List.set_cons_zero, List.set_cons_succ])
        refine wpAnyH_done (by kernel_rfl) ?_ _
        rw [HE.out, HLEN.out] at hown6
        have HO := Lib.hid hown6
        have HB6 := Lib.hid hb6
        clear hown6 hb6 hg6 hat6 hown5 hg5 hat5 hb5 hb4 hb3
        go_wp2
        go_ret
        exact ⟨_, rfl, HO.out, HB6.out⟩
      exact AllReadyH.nil
    exact AllReadyH.nil
  exact AllReadyH.nil
end Go.Proofs.Ytmnajongifdajaa
