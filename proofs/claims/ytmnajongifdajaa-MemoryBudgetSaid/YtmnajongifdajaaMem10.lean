/- A memory in the heap; finding and removing. No conditions. -/
import Derived.Test.YtmnajongifdajaaMem9
namespace Go.Proofs.Ytmnajongifdajaa.ME
set_option linter.unusedVariables false
def sm (P : List En) : Int := (P.map En.size).sum
def pn (P : List En) : Int := ((P.filter En.pin).map En.size).sum
def wo (k : K4) (P : List En) : List En := P.filter fun e => decide (e.key ≠ k)
def fnd (k : K4) (P : List En) : Option En := P.find? fun e => decide (e.key = k)
structure Ok (bu : Int) (P : List En) : Prop where
  b0 : 0 ≤ bu
  b1 : bu ≤ 1073741824
  sz : ∀ e ∈ P, 0 ≤ e.size ∧ e.size ≤ 65536
  sum : sm P ≤ bu
  keys : (P.map En.key).Nodup
  ok : ∀ e ∈ P, K4ok e.key
theorem sm_nonneg : ∀ {P : List En}, (∀ e ∈ P, 0 ≤ e.size ∧ e.size ≤ 65536) → 0 ≤ sm P
  | [], _ => by simp [sm]
  | x :: P, h => by
    have h1 := h x (by simp)
    have h2 := sm_nonneg (P := P) (fun e he => h e (by simp [he]))
    unfold sm at h2 ⊢
    simp only [List.map_cons, List.sum_cons]
    omega
theorem pn_le : ∀ {P : List En}, (∀ e ∈ P, 0 ≤ e.size ∧ e.size ≤ 65536) → 0 ≤ pn P ∧ pn P ≤ sm P
  | [], _ => by simp [sm, pn]
  | x :: P, h => by
    have h1 := h x (by simp)
    have h2 := pn_le (P := P) (fun e he => h e (by simp [he]))
    unfold sm pn at h2 ⊢
    cases hx : x.pin <;> simp only [List.filter_cons, hx, List.map_cons, List.sum_cons, Bool.false_eq_true, if_false, if_true] <;> omega
theorem sm_app (A C : List En) : sm (A ++ C) = sm A + sm C := by simp [sm]
theorem pn_app (A C : List En) : pn (A ++ C) = pn A + pn C := by simp [pn]
theorem sm_cons (e : En) (C : List En) : sm (e :: C) = e.size + sm C := by simp [sm]
theorem pn_cons (e : En) (C : List En) : pn (e :: C) = (if e.pin then e.size else 0) + pn C := by
  unfold pn
  cases hx : e.pin <;> simp [hx]
theorem Ok.del {bu : Int} {A C : List En} {e : En} (h : Ok bu (A ++ e :: C)) : Ok bu (A ++ C) := by
  have hs := h.sz
  have hm : ∀ x ∈ A ++ C, x ∈ A ++ e :: C := fun x hx => by simp at hx ⊢; rcases hx with h | h <;> simp [h]
  refine ⟨h.b0, h.b1, fun x hx => hs x (hm x hx), ?_, ?_, fun x hx => h.ok x (hm x hx)⟩
  · have h1 := h.sum
    rw [sm_app, sm_cons] at h1
    rw [sm_app]
    have := (hs e (by simp)).1
    omega
  · have h1 := h.keys
    refine h1.sublist ?_
    exact List.Sublist.map _ (List.Sublist.append (List.Sublist.refl _) (List.sublist_cons_self _ _))
end Go.Proofs.Ytmnajongifdajaa.ME
namespace Go.Proofs.Ytmnajongifdajaa
set_option maxRecDepth 100000
set_option linter.unusedVariables false
open Go.RowKit Go.Maps
/-- A memory: its block, its ring, its map, within the blocks F. -/
structure MmAt (W : World) (M mb root : Nat) (bu : Int) (L : List (Nat × En)) (n : Nat) (F : Nat → Prop) : Prop where
  mem : Mm W M bu (ME.sm (L.map Prod.snd)) (ME.pn (L.map Prod.snd)) (.map (some mb)) root ∧ Rg W root L ∧ OM W mb n (look L) ∧ F mb ∧ F root
  fM : F M
  fL : ∀ b ∈ L.map Prod.fst, F b
  lt : ∀ b, F b → b < W.heap.size
theorem FrS.of {S : Nat → Prop} {A B : World} (h : Below A.heap.size A B) : FrS S A B := ⟨h.size, fun b h1 _ => h.block b h1, fun U h1 _ => bnext h1 h⟩
theorem Rg.kept {S : Nat → Prop} {W W' : World} {root : Nat} {L : List (Nat × En)} (h : Rg W root L) (hf : FrS S W W') (hr : ¬ S root) (hl : ∀ b ∈ L.map Prod.fst, ¬ S b) : Rg W' root L :=
  ⟨h.1, h.2.1.kept hf hr, h.2.2.keep fun b hb => hf.block b (h.2.2.lt b hb) (hl b hb)⟩
theorem MmAt.kept {S : Nat → Prop} {W W' : World} {M mb root : Nat} {bu : Int} {L : List (Nat × En)} {n : Nat} {F : Nat → Prop} (h : MmAt W M mb root bu L n F) (hf : FrS S W W') (hs : ∀ b, F b → ¬ S b) : MmAt W' M mb root bu L n F := by
  obtain ⟨⟨h1, h2, h3, h4, h5⟩, h6, h7, h8⟩ := h
  exact ⟨⟨h1.kept hf (hs _ h6), h2.kept hf (hs _ h5) (fun b hb => hs _ (h7 b hb)), h3.same (hf.block mb h3.lt (hs _ h4)), h4, h5⟩, h6, h7, fun b hb => Nat.lt_of_lt_of_le (h8 b hb) hf.size⟩
theorem MmAt.below {W W' : World} {M mb root : Nat} {bu : Int} {L : List (Nat × En)} {n : Nat} {F : Nat → Prop} (h : MmAt W M mb root bu L n F) (hb : Below W.heap.size W W') : MmAt W' M mb root bu L n F :=
  h.kept (S := fun _ => False) (FrS.of hb) (fun _ _ x => x)
theorem Mm.ne {W : World} {M : Nat} {bu us pn : Int} {mp : Value} {root b : Nat} {e : En} {p q : Value} (h : Mm W M bu us pn mp root) (hn : Nd W b e p q) : M ≠ b := by
  rintro rfl
  unfold Mm at h
  unfold Nd at hn
  rw [hn] at h
  injection h with h
  injection h with h1 h2
  cases h2
theorem OM.ne_cells {W : World} {mb n b : Nat} {f : K4 → Option Nat} (h : OM W mb n f) {cs : Array Value} {t : TypeId} {fr : Nat × Nat} (hb : W.heap[b]? = some (.cells cs t fr)) : mb ≠ b := by
  rintro rfl
  obtain ⟨D, ⟨es, cl, h1, h2⟩, h3⟩ := h.out
  rw [hb] at h1
  cases h1
theorem Sg.node {W : World} : ∀ {a : Nat} {L : List (Nat × En)} {c : Nat}, Sg W a L c → ∀ x ∈ L, ∃ p q, Nd W x.1 x.2 p q
  | _, [], _, _, x, hx => by cases hx
  | _, y :: L, _, h, x, hx => by
    rcases List.mem_cons.1 hx with rfl | hx
    · exact ⟨_, _, h.1⟩
    · exact h.2.node x hx
/-- All nodes of a ring lie in blocks of cells. -/
theorem Rg.node {W : World} {root : Nat} {L : List (Nat × En)} (h : Rg W root L) : ∀ b ∈ root :: L.map Prod.fst, ∃ e p q, Nd W b e p q := fun b hb => by
  rcases List.mem_cons.1 hb with rfl | hb
  · exact ⟨_, _, _, h.2.1⟩
  · obtain ⟨x, hx, rfl⟩ := List.mem_map.1 hb
    obtain ⟨p, q, hn⟩ := h.2.2.node x hx
    exact ⟨_, _, _, hn⟩
theorem look_some {L : List (Nat × En)} {k : K4} {b : Nat} (h : look L k = some b) : ∃ A e C, L = A ++ (b, e) :: C ∧ e.key = k := by
  unfold look at h
  rw [Option.map_eq_some_iff] at h
  obtain ⟨x, hx, rfl⟩ := h
  obtain ⟨A, C, rfl, _⟩ := (List.find?_eq_some_iff_append.1 hx).2
  exact ⟨A, x.2, C, rfl, by simpa using (List.find?_eq_some_iff_append.1 hx).1⟩
theorem look_none {L : List (Nat × En)} {k : K4} (h : look L k = none) : ∀ x ∈ L, x.2.key ≠ k := by
  unfold look at h
  rw [Option.map_eq_none_iff] at h
  intro x hx
  simpa using List.find?_eq_none.1 h x hx
theorem look_mid {A C : List (Nat × En)} {b : Nat} {e : En} (h : ((A ++ (b, e) :: C).map fun x => x.2.key).Nodup) : look (A ++ (b, e) :: C) e.key = some b := by
  unfold look
  rw [List.map_append, List.map_cons] at h
  have h1 := (List.nodup_append.1 h).2.2
  rw [List.find?_append, List.find?_eq_none.2 (fun x hx => by
    have := h1 x.2.key (List.mem_map.2 ⟨x, hx, rfl⟩) e.key (by simp)
    simpa using this)]
  simp
theorem look_del {A C : List (Nat × En)} {b : Nat} {e : En} (h : ((A ++ (b, e) :: C).map fun x => x.2.key).Nodup) (k : K4) : look (A ++ C) k = if k = e.key then none else look (A ++ (b, e) :: C) k := by
  rw [List.map_append, List.map_cons] at h
  have h0 := List.nodup_append.1 h
  have h1 := h0.2.2
  have h2 := (List.nodup_cons.1 h0.2.1).1
  by_cases hk : k = e.key
  · subst hk
    rw [if_pos rfl]
    unfold look
    rw [List.find?_eq_none.2 (fun x hx => ?_)]
    · rfl
    · rcases List.mem_append.1 hx with hx | hx
      · have := h1 x.2.key (List.mem_map.2 ⟨x, hx, rfl⟩) e.key (by simp)
        simpa using this
      · have : x.2.key ≠ e.key := fun y => h2 (by rw [← y]; exact List.mem_map.2 ⟨x, hx, rfl⟩)
        simpa using this
  · rw [if_neg hk]
    unfold look
    rw [List.find?_append, List.find?_append, List.find?_cons]
    have : decide (e.key = k) = false := by simp [Ne.symm hk]
    simp only [this]
theorem look_app {L : List (Nat × En)} {b : Nat} {e : En} (h : look L e.key = none) (k : K4) : look (L ++ [(b, e)]) k = if k = e.key then some b else look L k := by
  by_cases hk : k = e.key
  · subst hk
    rw [if_pos rfl]
    unfold look at h ⊢
    rw [List.find?_append, Option.map_eq_none_iff.1 h]
    simp
  · rw [if_neg hk]
    unfold look
    rw [List.find?_append, List.find?_cons]
    have : decide (e.key = k) = false := by simp [Ne.symm hk]
    simp [this]
set_option maxHeartbeats 1000000 in
theorem find_any (W : World) (M mb root : Nat) (bu : Int) (L : List (Nat × En)) (n : Nat) (F : Nat → Prop) (k : K4) (hk : K4ok k) (h : MmAt W M mb root bu L n F) :
    Calls Try.prog 27 #[ptr M, kyV k] W fun x w' => x = .returned (optP (look L k)) ∧ Below W.heap.size W w' := by
  obtain ⟨⟨h1, h2, h3, h4, h5⟩, h6, h7, h8⟩ := h
  have HZ := Lib.hid fun V (hV : Below W.heap.size W V) => iszero_some V M bu _ _ mb root (h1.kept (S := fun _ => False) (FrS.of hV) (fun x => x))
  have HM := Lib.hid fun V (hV : Below W.heap.size W V) => (h3.same (hV.block mb h3.lt)).look k hk
  have c3 := Lib.hid fun V (hV : Below W.heap.size W V) => (h1.kept (S := fun _ => False) (FrS.of hV) (fun x => x)).cells.2.2.2.1
  clear h1 h2 h3 h4 h5 h6 h7 h8
  obtain ⟨x, hx⟩ : ∃ x, optP (look L k) = x := ⟨_, rfl⟩
  rw [hx] at HM ⊢
  have bx := heap_alloc_new W (.cells #[.int .i64 k.1, .int .i64 k.2.1, .int .i64 k.2.2.1, .int .i64 k.2.2.2] 34)
  have hb := balloc (Below.refl _ W) (.cells #[.int .i64 k.1, .int .i64 k.2.1, .int .i64 k.2.2.1, .int .i64 k.2.2.2] 34)
  obtain ⟨W1, hW1⟩ : ∃ W1, W.alloc (.cells #[.int .i64 k.1, .int .i64 k.2.1, .int .i64 k.2.2.1, .int .i64 k.2.2.2] 34) = W1 := ⟨_, rfl⟩
  rw [hW1] at bx hb
  have C3 := c3.out W1 hb
  have z1 := HZ.out W1 hb
  have z2 : ∀ q, (Instr.lookup 62 (.map (some mb)) (kyV k) false).run Try.prog (W1.drewN q) = .ok x (W1.drewN q) := fun q => HM.out (W1.drewN q) ⟨hb.os, hb.tape, hb.output, hb.size, hb.block⟩
  have x0 : W1.cell? ⟨W.heap.size, 0, none⟩ = some (.int .i64 k.1) := nd_cell bx rfl
  have x1 : W1.cell? ⟨W.heap.size, 1, none⟩ = some (.int .i64 k.2.1) := nd_cell bx rfl
  have x2 : W1.cell? ⟨W.heap.size, 2, none⟩ = some (.int .i64 k.2.2.1) := nd_cell bx rfl
  have x3 : W1.cell? ⟨W.heap.size, 3, none⟩ = some (.int .i64 k.2.2.2) := nd_cell bx rfl
  go_enter Try.func27, Try.ntmps27
  go_wp2_with fail
  try rw [hW1]
  go_at_call 32
  refine z1.mono ?_
  rintro e w' ⟨rfl, rfl⟩
  go_wp2
  go_quiet (fail)
  go_wp2
  go_ret
  exact ⟨rfl, ⟨hb.os, hb.tape, hb.output, hb.size, hb.block⟩⟩
end Go.Proofs.Ytmnajongifdajaa
