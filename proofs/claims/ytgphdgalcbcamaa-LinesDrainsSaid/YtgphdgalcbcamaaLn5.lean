/- Lines: clamped numbers, nodes, troubles, new ones. No conditions. -/
import Derived.Test.YtgphdgalcbcamaaLn4
namespace Go.Proofs.Ytgphdgalcbcamaa
set_option maxRecDepth 100000
set_option linter.unusedVariables false
open Go.RowKit Go.Deep
/-- A trouble: lost, its copies, its delay. -/
structure Tr where
  l : Bool
  c : Int
  d : Int
def trL (t : Tr) : List Value := [.bool t.l, .int .i64 t.c, .int .i64 t.d]
abbrev trV (t : Tr) : Value := .agg #[.bool t.l, .int .i64 t.c, .int .i64 t.d]
theorem trL_len (t : Tr) : (trL t).length = 3 := rfl
def trs (T : List Tr) : List Value := T.flatMap trL
theorem trs_len (T : List Tr) : (trs T).length = T.length * 3 := flat_len trL_len T
theorem trs_app (A B : List Tr) : trs (A ++ B) = trs A ++ trs B := List.flatMap_append
theorem trs_one (t : Tr) : trs [t] = trL t := by simp [trs]
theorem trs_cells (l : List Tr) : ∀ u ∈ trs l, u.oneCell' = true := fun u hu => by
  obtain ⟨k, -, hk⟩ := List.mem_flatMap.1 hu
  simp only [trL, List.mem_cons, List.not_mem_nil, or_false] at hk
  rcases hk with rfl | rfl | rfl <;> rfl
theorem tr_at {W : World} {n c : Nat} {a : Option Addr} {T : List Tr} (h : SrcN 3 W (.slice a n c) n (trs T)) {i : Nat} {t : Tr} (hk : T[i]? = some t) (hi : i < n) :
    ∃ g o, a = some ⟨g, o, none⟩ ∧ g < W.heap.size ∧ W.cell? ⟨g, o + i * 3, none⟩ = some (.bool t.l) ∧ W.cell? ⟨g, o + i * 3 + 1, none⟩ = some (.int .i64 t.c) ∧ W.cell? ⟨g, o + i * 3 + 2, none⟩ = some (.int .i64 t.d) := by
  obtain ⟨ao, c', e1, hl, h1⟩ := h
  injection e1 with e1 _ _
  subst e1
  rcases h1 with ⟨h1, _⟩ | ⟨g, o, rfl, hgl, hc⟩
  · omega
  · have q := fun (j : Nat) (u : Value) (hu : (trL t)[j]? = some u) => hc (i * 3 + j) u (flat_at trL_len T i t j u hk hu)
    exact ⟨g, o, rfl, hgl, q 0 _ rfl, q 1 _ rfl, q 2 _ rfl⟩
theorem own_empty (w : World) (e : TypeId) (size B : Nat) (hB : B ≤ w.heap.size) : (w.alloc (.cells #[] e)).ownsRow B e size (.slice (some ⟨w.heap.size, 0, none⟩) 0 0) 0 [] :=
  ⟨by simp, .inr ⟨w.heap.size, 0, #[], rfl, hB, heap_alloc_new w _, Nat.le_refl _, by unfold maxLen; omega, by simp, by simp⟩⟩
/-- The trouble with a number. -/
def tro (T : List Tr) (i : Nat) : Tr := T.getD i ⟨false, 1, 0⟩
def clp (x lo hi : Int) : Int := max lo (min x hi)
theorem clamp_any (a l h : Int) (w : World) : Calls Try.prog 26 #[.int .i64 a, .int .i64 l, .int .i64 h] w fun e w' => e = .returned (.int .i64 (clp a l h)) ∧ w' = w := by
  unfold clp
  go_enter Try.func26, Try.ntmps26
  go_wp2
  all_goals
    go_ret
    exact ⟨ret1 (by omega), rfl⟩
theorem rclamp_any (a l h : Int) (w : World) : Calls Try.prog 19 #[.int .i64 a, .int .i64 l, .int .i64 h] w fun e w' => e = .returned (.int .i64 (clp a l h)) ∧ w' = w := by
  unfold clp
  go_enter Try.func19, Try.ntmps19
  go_wp2
  all_goals
    go_ret
    exact ⟨ret1 (by omega), rfl⟩
theorem clt_any (a : Int) (w : World) : Calls Try.prog 27 #[.int .i64 a] w fun e w' => e = .returned (.int .i64 (clp a 0 1048576)) ∧ w' = w := by
  go_enter Try.func27, Try.ntmps27
  go_wp2_with fail
  go_at_call 26
  refine (clamp_any _ _ _ _).mono ?_
  rintro x w1 ⟨rfl, he⟩
  have he' := he.symm
  subst he'
  go_wp2
  go_ret
  exact ⟨rfl, rfl⟩
theorem clp_bd (a : Int) {l h : Int} (hl : l ≤ h) : l ≤ clp a l h ∧ clp a l h ≤ h := by unfold clp; omega
def nodeB (nd x : Int) : Bool := decide (0 ≤ x) && decide (x < nd)
theorem node_any (W : World) (M : Nat) (nd : Int) (x : Int) (c0 : W.cell? ⟨M, 0, none⟩ = some (.int .i64 nd)) :
    Calls Try.prog 25 #[ptr M, .int .i64 x] W fun e w' => e = .returned (.bool (nodeB nd x)) ∧ w' = W := by
  by_cases h0 : 0 ≤ x
  · by_cases h1 : x < nd
    · have e : nodeB nd x = true := by simp [nodeB, h0, h1]
      rw [e]
      go_enter Try.func25, Try.ntmps25
      go_wp2
      go_ret
      exact ⟨rfl, rfl⟩
    · have e : nodeB nd x = false := by simp [nodeB, h1]
      rw [e]
      go_enter Try.func25, Try.ntmps25
      go_wp2
      go_ret
      exact ⟨rfl, rfl⟩
  · have e : nodeB nd x = false := by simp [nodeB, h0]
    rw [e]
    go_enter Try.func25, Try.ntmps25
    go_wp2
    go_ret
    exact ⟨rfl, rfl⟩
theorem eql_nilT (w : World) (a : Option Addr) (n c : Nat) : (binOp .eql 22 (.slice a n c) (.slice none 0 0)).run Try.prog w = .ok (.bool a.isNone) w := by
  simp only [binOp]
  simp [Op.equal, Op.maxDepth, Lib.run_equalIn_slice_nil w 9999 22 43 a n c 0 0 Try.underlying22]
theorem info_tr : (Try.prog.info? 43).map (fun i => (i.zero, i.size, i.bytes)) = some (some (.agg #[.bool false, .int .i64 0, .int .i64 0]), 3, 24) := by kernel_rfl
set_option maxHeartbeats 1000000 in
theorem clone_any (T : List Tr) (v : Value) (w : World) (n : Nat) (hn : T.length = n) (hv : SrcN 3 w v n (trs T)) (hl : n ≤ 1000000) :
    Calls Try.prog 22 #[v] w fun e w' => ∃ v', e = .returned v' ∧ w'.ownsRow w.heap.size 43 3 v' n (trs T) ∧ Below w.heap.size w w' := by
  obtain ⟨i0, hi0, hz0, hz1, hz2⟩ := info_parts info_tr
  have HS : Hid (∀ V, Below w.heap.size w V → SrcN 3 V v n (trs T)) := Lib.hid fun V hV => hv.keep hV
  obtain ⟨ao, c, rfl, -, h⟩ := hv
  cases ao with
  | none =>
    have hK : T = [] := by
      rcases h with ⟨h, -⟩ | ⟨g, o, h, -⟩
      · exact List.eq_nil_of_length_eq_zero (hn.trans h)
      · cases h
    subst hK
    obtain rfl : n = 0 := hn.symm
    have hq := eql_nilT w none 0 c
    go_enter Try.func22, Try.ntmps22
    go_wp2
    go_ret
    exact ⟨_, rfl, World.ownsRow_nil _ _ _ _, Below.refl _ _⟩
  | some a =>
    clear h hn
    have hq := eql_nilT w (some a) n c
    go_enter Try.func22, Try.ntmps22
    go_wp2_with (at_builtin; refine wpList_appN _ rfl _ _ 22 rfl w.heap.size 43 i0 _ 3 24 Try.underlying22 hi0 hz0 hz1 hz2 rfl (by decide) _ 0 [] rfl (own_empty w 43 3 w.heap.size (Nat.le_refl _)) _ n (trs T) (by rfl) (HS.out _ (balloc (Below.refl _ _) _)) (trs_cells T) (by unfold maxLen; omega) (by omega) (by simp) ?_; intro v' w1 hown hgrow _; obtain ⟨va, vc, rfl⟩ := own_shape hown)
    have hb : Below w.heap.size w w1 := (balloc (Below.refl _ w) (.cells #[] 43)).grown hgrow (by simp) (fun k e => by have : w.heap.size = k := Option.some.inj e; omega)
    rw [Nat.zero_add, List.nil_append] at hown
    go_wp2
    go_ret
    exact ⟨_, rfl, hown, hb⟩
/-- Lines within the blocks F: n nodes, the troubles T, k sent, P waiting. -/
structure LS (W : World) (M : Nat) (nd : Int) (T : List Tr) (k : Nat) (P : List Pc) (F : Nat → Prop) : Prop where
  q : ∃ sc v A, Qu W M nd sc (k : Int) v A ∧ A.Perm P ∧ LN.Hp A ∧ (∀ b, v.ownBlock = some b → F b) ∧ W.ownsRow 0 43 3 sc T.length (trs T) ∧ (∀ b, sc.ownBlock = some b → b < M ∧ F b)
  fM : F M
  lt : ∀ b, F b → b < W.heap.size
def LSr (W : World) (F : Nat → Prop) (w : World) (M : Nat) (nd : Int) (T : List Tr) (k : Nat) (P : List Pc) : Prop := FrS F W w ∧ ∃ F', LS w M nd T k P F' ∧ ∀ b, F' b → F b ∨ W.heap.size ≤ b
section
variable {W w w' : World} {M : Nat} {nd : Int} {T : List Tr} {k k' : Nat} {P Q : List Pc} {F F' S : Nat → Prop}
theorem LS.kept (h : LS W M nd T k P F) (hf : FrS S W w) (hd : ∀ b, F b → ¬ S b) : LS w M nd T k P F := by
  obtain ⟨⟨sc, v, A, hq, hp, hh, hv, hs, hsf⟩, fM, lt⟩ := h
  exact ⟨⟨sc, v, A, ⟨hf.nd hq.blk (hd _ fM), hf.own hq.row (fun b e => hd b (hv b e))⟩, hp, hh, hv, hf.own hs (fun b e => hd b (hsf b e).2), hsf⟩, fM, fun b hb => Nat.lt_of_lt_of_le (lt b hb) hf.size⟩
theorem LS.below (h : LS W M nd T k P F) (hb : Below W.heap.size W w) : LS w M nd T k P F := h.kept (FrS.of (S := fun _ => False) hb) (fun _ _ x => x)
theorem LS.here (h : LS W M nd T k P F) : LSr W F W M nd T k P := ⟨FrS.refl _ _, F, h, fun b hb => .inl hb⟩
theorem LSr.below (h : LSr W F w M nd T k P) (hb : Below w.heap.size w w') : LSr W F w' M nd T k P := by
  obtain ⟨f, F', h1, h2⟩ := h
  exact ⟨f.then hb, F', h1.below hb, h2⟩
theorem LSr.glue (h1 : FrS F W w) (h3 : ∀ b, F' b → F b ∨ W.heap.size ≤ b) (hn : LSr w F' w' M nd T k P) : LSr W F w' M nd T k P := by
  obtain ⟨f, F2, g1, g2⟩ := hn
  exact ⟨h1.over f h3, F2, g1, fun b hb => (g2 b hb).elim (h3 b) (fun x => .inr (Nat.le_trans h1.size x))⟩
theorem LSr.to_below {w0 : World} (h : LSr W F w M nd T k P) (h0 : Below w0.heap.size w0 W) (hH : ∀ b, F b → w0.heap.size ≤ b) : Below w0.heap.size w0 w := h.1.below w0 h0 hH
theorem LS.cells (h : LS W M nd T k P F) : ∃ sc v, W.heap[M]? = some (.cells #[.int .i64 nd, sc, .int .i64 k, v] 59 (0, 0)) ∧ W.ownsRow 0 43 3 sc T.length (trs T) := by
  obtain ⟨⟨sc, v, A, hq, -, -, -, hs, -⟩, -, -⟩ := h
  exact ⟨sc, v, hq.blk, hs⟩
end
set_option maxHeartbeats 2000000 in
theorem trouble_any (W : World) (M : Nat) (nd : Int) (T : List Tr) (k : Nat) (P : List Pc) (F : Nat → Prop) (h : LS W M nd T k P F) (i : Nat) :
    Calls Try.prog 24 #[ptr M, .int .i64 (i : Int)] W fun x w' => x = .returned (trV (tro T i)) ∧ Below W.heap.size W w' := by
  obtain ⟨sc, v, hb, hs⟩ := h.cells
  have hMl : M < W.heap.size := (Array.getElem?_eq_some_iff.1 hb).1
  have c1 : W.cell? ⟨M, 1, none⟩ = some sc := nd_cell hb rfl
  obtain ⟨n, hn⟩ : ∃ n, T.length = n := ⟨_, rfl⟩
  rw [hn] at hs
  obtain ⟨sa, c, rfl⟩ := own_shape hs
  have hi0 : (0 : Int) ≤ (i : Int) := by omega
  by_cases hi : i < n
  · have hiz : (i : Int) < (n : Int) := by omega
    obtain ⟨t, ht⟩ : ∃ t, T[i]? = some t := ⟨_, List.getElem?_eq_getElem (by rw [hn]; exact hi)⟩
    obtain ⟨g, o, rfl, hgl, k0, k1, k2⟩ := tr_at (own_srcN hs) ht hi
    have he : tro T i = t := by unfold tro; rw [List.getD_eq_getElem?_getD, ht]; rfl
    rw [he]
    clear hs hb ht he hn h
    go_enter Try.func24, Try.ntmps24
    go_wp2
    refine bodyPost_ret (v := trV t) (results_cell_row Try.results24 _ _ W.heap.size 43 _ (0, 0) _ rfl (heap_alloc_new W _) Try.underlying43 rfl (by kernel_rfl)) rfl ⟨rfl, ?_⟩
    exact balloc (Below.refl _ _) _
  · have hiz : ¬ (i : Int) < (n : Int) := by omega
    have he : tro T i = ⟨false, 1, 0⟩ := by unfold tro; rw [List.getD_eq_getElem?_getD, List.getElem?_eq_none (by omega)]; rfl
    rw [he]
    clear hs hb he hn h
    go_enter Try.func24, Try.ntmps24
    go_wp2
    refine bodyPost_ret (v := trV ⟨false, 1, 0⟩) (results_cell_row Try.results24 _ _ W.heap.size 43 _ (0, 0) _ rfl (heap_alloc_new W _) Try.underlying43 rfl (by kernel_rfl)) rfl ⟨rfl, ?_⟩
    exact balloc (Below.refl _ _) _
set_option maxHeartbeats 2000000 in
theorem new_any (W : World) (nd : Int) (v : Value) (T : List Tr) (n : Nat) (hn : T.length = n) (hl : n ≤ 1000000) (hv : SrcN 3 W v n (trs T)) :
    Calls Try.prog 11 #[.int .i64 nd, v] W fun x w' => ∃ M, x = .returned (ptr M) ∧ LS w' M nd T 0 [] (fun b => W.heap.size ≤ b ∧ b < w'.heap.size) ∧ Below W.heap.size W w' := by
  go_enter Try.func11, Try.ntmps11
  go_wp2_with fail
  go_at_call 22
  refine (clone_any T v W n hn hv hl).mono ?_
  rintro x w1 ⟨v1, rfl, hrow, hb⟩
  have hb2 := balloc hb (.cells #[.int .i64 nd, v1, .int .i64 0, .slice none 0 0] 59)
  have hx := heap_alloc_new w1 (.cells #[.int .i64 nd, v1, .int .i64 0, .slice none 0 0] 59)
  have hrow2 := own_below hrow (balloc (Below.refl _ w1) (.cells #[.int .i64 nd, v1, .int .i64 0, .slice none 0 0] 59))
  have hlt := hrow.lt
  obtain ⟨va, vc, rfl⟩ := own_shape hrow
  have HF : Hid (LS (w1.alloc (.cells #[.int .i64 nd, .slice va n vc, .int .i64 0, .slice none 0 0] 59)) w1.heap.size nd T 0 [] (fun b => W.heap.size ≤ b ∧ b < (w1.alloc (.cells #[.int .i64 nd, .slice va n vc, .int .i64 0, .slice none 0 0] 59)).heap.size)) := Lib.hid ⟨⟨_, .slice none 0 0, [], ⟨hx, World.ownsRow_nil _ _ _ _⟩, List.Perm.refl _, LN.Hp.nil, fun b e => (by cases e), by rw [hn]; exact own_base hrow2 (Nat.zero_le _), fun b e => ⟨(hlt b e).2, (hlt b e).1, by have := (hlt b e).2; simp; omega⟩⟩, ⟨hb.size, by simp⟩, fun b hb => hb.2⟩
  have HB := Lib.hid hb2
  clear hrow hb hb2 hx hrow2 hlt
  go_wp2
  go_ret
  exact ⟨_, rfl, HF.out, HB.out⟩
end Go.Proofs.Ytgphdgalcbcamaa
