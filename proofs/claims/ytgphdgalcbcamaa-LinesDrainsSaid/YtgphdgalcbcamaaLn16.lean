/- The reference's lines. No conditions. -/
import Derived.Test.YtgphdgalcbcamaaLn15
namespace Go.Proofs.Ytgphdgalcbcamaa
set_option maxRecDepth 100000
set_option linter.unusedVariables false
open Go.RowKit Go.Deep
/-- A copy that waits, as the reference has it. -/
def cyL (p : Pc) : List Value := [.int .i64 p.f, .int .i64 p.o, .string p.s, .int .i64 p.t]
abbrev cyV (p : Pc) : Value := .agg #[.int .i64 p.f, .int .i64 p.o, .string p.s, .int .i64 p.t]
theorem cyL_len (p : Pc) : (cyL p).length = 4 := rfl
def cys (L : List Pc) : List Value := L.flatMap cyL
theorem cys_len (L : List Pc) : (cys L).length = L.length * 4 := flat_len cyL_len L
theorem cys_app (A B : List Pc) : cys (A ++ B) = cys A ++ cys B := List.flatMap_append
theorem cys_one (p : Pc) : cys [p] = cyL p := by simp [cys]
theorem cys_cells (l : List Pc) : ∀ u ∈ cys l, u.oneCell' = true := fun u hu => by
  obtain ⟨p, -, hp⟩ := List.mem_flatMap.1 hu
  simp [cyL] at hp
  rcases hp with rfl | rfl | rfl | rfl <;> rfl
theorem cy_at {W : World} {n c : Nat} {a : Option Addr} {P : List Pc} (h : SrcN 4 W (.slice a n c) n (cys P)) {i : Nat} {t : Pc} (hk : P[i]? = some t) (hi : i < n) :
    ∃ g o, a = some ⟨g, o, none⟩ ∧ g < W.heap.size ∧ W.cell? ⟨g, o + i * 4, none⟩ = some (.int .i64 t.f) ∧ W.cell? ⟨g, o + i * 4 + 1, none⟩ = some (.int .i64 t.o) ∧ W.cell? ⟨g, o + i * 4 + 2, none⟩ = some (.string t.s) ∧ W.cell? ⟨g, o + i * 4 + 3, none⟩ = some (.int .i64 t.t) := by
  obtain ⟨ao, c', e1, hl, h1⟩ := h
  injection e1 with e1 _ _
  subst e1
  rcases h1 with ⟨h1, _⟩ | ⟨g, o, rfl, hgl, hc⟩
  · omega
  · have q := fun (j : Nat) (u : Value) (hu : (cyL t)[j]? = some u) => hc (i * 4 + j) u (flat_at cyL_len P i t j u hk hu)
    exact ⟨g, o, rfl, hgl, q 0 _ rfl, q 1 _ rfl, q 2 _ rfl, q 3 _ rfl⟩
theorem info_cy : (Try.prog.info? 74).map (fun i => (i.zero, i.size, i.bytes)) = some (some (.agg #[.int .i64 0, .int .i64 0, .string ⟨#[]⟩, .int .i64 0]), 4, 40) := by kernel_rfl
/-- The reference's lines within the blocks F. -/
structure RS (W : World) (r : Nat) (nd : Int) (T : List Tr) (k : Nat) (P : List Pc) (F : Nat → Prop) : Prop where
  q : ∃ sc v, W.heap[r]? = some (.cells #[.int .i64 nd, .int .i64 (k : Int), sc, v] 65 (0, 0)) ∧ W.ownsRow (r + 1) 74 4 v P.length (cys P) ∧ (∀ b, v.ownBlock = some b → F b) ∧ W.ownsRow 0 43 3 sc T.length (trs T) ∧ (∀ b, sc.ownBlock = some b → b < r ∧ F b)
  fM : F r
  lt : ∀ b, F b → b < W.heap.size
def RSr (W : World) (F : Nat → Prop) (w : World) (r : Nat) (nd : Int) (T : List Tr) (k : Nat) (P : List Pc) : Prop := FrS F W w ∧ ∃ F', RS w r nd T k P F' ∧ ∀ b, F' b → F b ∨ W.heap.size ≤ b
section
variable {W w w' : World} {r : Nat} {nd : Int} {T : List Tr} {k k' : Nat} {P Q : List Pc} {F F' S : Nat → Prop}
theorem RS.kept (h : RS W r nd T k P F) (hf : FrS S W w) (hd : ∀ b, F b → ¬ S b) : RS w r nd T k P F := by
  obtain ⟨⟨sc, v, hq, hr, hv, hs, hsf⟩, fM, lt⟩ := h
  exact ⟨⟨sc, v, hf.nd hq (hd _ fM), hf.own hr (fun b e => hd b (hv b e)), hv, hf.own hs (fun b e => hd b (hsf b e).2), hsf⟩, fM, fun b hb => Nat.lt_of_lt_of_le (lt b hb) hf.size⟩
theorem RS.below (h : RS W r nd T k P F) (hb : Below W.heap.size W w) : RS w r nd T k P F := h.kept (FrS.of (S := fun _ => False) hb) (fun _ _ x => x)
theorem RS.here (h : RS W r nd T k P F) : RSr W F W r nd T k P := ⟨FrS.refl _ _, F, h, fun b hb => .inl hb⟩
theorem RSr.below (h : RSr W F w r nd T k P) (hb : Below w.heap.size w w') : RSr W F w' r nd T k P := by
  obtain ⟨f, F', h1, h2⟩ := h
  exact ⟨f.then hb, F', h1.below hb, h2⟩
theorem RSr.glue (h1 : FrS F W w) (h3 : ∀ b, F' b → F b ∨ W.heap.size ≤ b) (hn : RSr w F' w' r nd T k P) : RSr W F w' r nd T k P := by
  obtain ⟨f, F2, g1, g2⟩ := hn
  exact ⟨h1.over f h3, F2, g1, fun b hb => (g2 b hb).elim (h3 b) (fun x => .inr (Nat.le_trans h1.size x))⟩
/-- One more was sent. -/
theorem RS.sent (h : RS W r nd T k P F) : RS (W.setCell ⟨r, 1, none⟩ (.int .i64 ((k : Int) + 1))) r nd T (k + 1) P F ∧ FrS F W (W.setCell ⟨r, 1, none⟩ (.int .i64 ((k : Int) + 1))) := by
  obtain ⟨⟨sc, v, hq, hr, hv, hs, hsf⟩, fM, lt⟩ := h
  have hf := FrS.set (S := fun b => b = r) W (b := r) (i := 1) rfl (.int .i64 ((k : Int) + 1))
  have e : ((k + 1 : Nat) : Int) = (k : Int) + 1 := by omega
  exact ⟨⟨⟨sc, v, by rw [e]; exact heap_setCell_same W r 1 _ _ _ hq, hf.own hr (fun q e => by have := (hr.lt q e).1; omega), hv, hf.own hs (fun q e => by have := (hsf q e).1; omega), hsf⟩, fM, fun b hb => Nat.lt_of_lt_of_le (lt b hb) hf.size⟩, hf.mono (fun b hb => by rw [hb]; exact fM)⟩
end
set_option maxHeartbeats 2000000 in
theorem rnew_any (W : World) (nd : Int) (v : Value) (T : List Tr) (n : Nat) (hn : T.length = n) (hl : n ≤ 1000000) (hv : SrcN 3 W v n (trs T)) :
    Calls Try.prog 13 #[.int .i64 nd, v] W fun x w' => ∃ r, x = .returned (ptr r) ∧ RS w' r nd T 0 [] (fun b => W.heap.size ≤ b ∧ b < w'.heap.size) ∧ Below W.heap.size W w' := by
  obtain ⟨i0, hi0, hz0, hz1, hz2⟩ := info_parts info_tr
  have HS : Hid (∀ V, Below W.heap.size W V → SrcN 3 V v n (trs T)) := Lib.hid fun V hV => hv.keep hV
  have HNT := Lib.hid hn
  clear hv hn
  go_enter Try.func13, Try.ntmps13
  go_wp2_with (at_builtin; refine wpList_appN _ rfl _ _ 22 rfl W.heap.size 43 i0 _ 3 24 Try.underlying22 hi0 hz0 hz1 hz2 rfl (by decide) _ 0 [] rfl (own_empty W 43 3 W.heap.size (Nat.le_refl _)) _ n (trs T) (by rfl) (HS.out _ (balloc (Below.refl _ _) _)) (trs_cells T) (by unfold maxLen; omega) (by omega) (by simp) ?_; intro v' w1 hown hgrow _; obtain ⟨va, vc, rfl⟩ := own_shape hown)
  have hb : Below W.heap.size W w1 := (balloc (Below.refl _ W) (.cells #[] 43)).grown hgrow (by simp) (fun k e => by have : W.heap.size = k := Option.some.inj e; omega)
  rw [Nat.zero_add, List.nil_append] at hown
  rw [Nat.zero_add] at *
  have hlt := hown.lt
  have HF : Hid (RS (w1.alloc (.cells #[.int .i64 nd, .int .i64 0, .slice va n vc, .slice none 0 0] 65)) w1.heap.size nd T 0 [] (fun b => W.heap.size ≤ b ∧ b < (w1.alloc (.cells #[.int .i64 nd, .int .i64 0, .slice va n vc, .slice none 0 0] 65)).heap.size)) := Lib.hid ⟨⟨_, .slice none 0 0, heap_alloc_new w1 _, World.ownsRow_nil _ _ _ _, fun b e => (by cases e), by rw [HNT.out]; exact own_base (own_below hown (balloc (Below.refl _ w1) _)) (Nat.zero_le _), fun b e => ⟨(hlt b e).2, (hlt b e).1, by have := (hlt b e).2; simp; omega⟩⟩, ⟨hb.size, by simp⟩, fun b hb => hb.2⟩
  have HB := Lib.hid (balloc hb (.cells #[.int .i64 nd, .int .i64 0, .slice va n vc, .slice none 0 0] 65))
  clear hown hgrow hb hlt
  go_wp2
  go_ret
  exact ⟨_, rfl, HF.out, HB.out⟩
end Go.Proofs.Ytgphdgalcbcamaa
