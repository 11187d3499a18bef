/- Lines beside a map of what is due. No conditions. -/
import Derived.Test.YtgphdgalcbcamaaLn21
namespace Go.Proofs.Ytgphdgalcbcamaa
set_option maxRecDepth 100000
set_option linter.unusedVariables false
open Go.RowKit Go.Deep
theorem FrS.turned {S : Nat → Prop} {W W' : World} {b : Nat} (h : W.mapTurned W' b) (hb : S b) : FrS S W W' := by
  have hg := h.grown
  exact ⟨hg.size, fun c h1 h2 => hg.block c h1 (fun e => h2 (by rw [Option.some.inj e]; exact hb)), fun U h1 h2 => h1.grown hg h1.size (fun r e => by rw [← Option.some.inj e]; exact h2 b hb)⟩
/-- A row of numbers that is read. -/
def IntsAt (V : World) (v : Value) (L : List Int) : Prop := SrcN 1 V v L.length (L.map (Value.int .i64))
theorem IntsAt.nil (V : World) : IntsAt V (.slice none 0 0) [] := SrcN.nil 1 V
theorem IntsAt.frame {S : Nat → Prop} {V V' : World} {v : Value} {L : List Int} (h : IntsAt V v L) (hf : FrS S V V') (hn : ∀ q, v.ownBlock = some q → ¬ S q) : IntsAt V' v L := by
  obtain ⟨ao, c, e, hl, h⟩ := h
  refine ⟨ao, c, e, hl, ?_⟩
  rcases h with h | ⟨g, o, e2, hg, hc⟩
  · exact .inl h
  · refine .inr ⟨g, o, e2, Nat.lt_of_lt_of_le hg hf.size, fun j u hu => ?_⟩
    have hb := hf.block g hg (hn g (by rw [e, e2]; rfl))
    have := hc j u hu
    simp only [World.cell?] at this ⊢
    rw [hb]
    exact this
/-- Lines within blocks F, and beside them a map, whose values are read as L; H: the map's block and those of its rows. -/
structure Dr (w : World) (m0 : Nat) (V : World) (M mb : Nat) (T : List Tr) (k : Nat) (P : List Pc) (N : Nat) (f : Nat → Value) (L : Nat → List Int) (H : Nat → Prop) : Prop where
  out : ∃ F, LS V M 2 T k P F ∧ (∀ b, F b → ¬ H b) ∧ (∀ b, F b → m0 ≤ b)
  map : MDu V mb N f
  row : ∀ j, IntsAt V (f j) (L j) ∧ ∀ q, (f j).ownBlock = some q → H q ∧ q ≠ mb
  mbH : H mb
  hb : ∀ b, H b → m0 ≤ b ∧ b < V.heap.size
  bel : Below w.heap.size w V
  le : w.heap.size ≤ m0
  cap : ∀ j, Cap (f j)
section
variable {w V V' : World} {m0 M mb k k' N : Nat} {T : List Tr} {P Q : List Pc} {f : Nat → Value} {L : Nat → List Int} {H : Nat → Prop}
/-- What keeps H's blocks keeps the map and its rows. -/
theorem Dr.kept {S : Nat → Prop} (h : Dr w m0 V M mb T k P N f L H) (hf : FrS S V V') (hS : ∀ b, S b → ¬ H b) : MDu V' mb N f ∧ (∀ j, IntsAt V' (f j) (L j) ∧ ∀ q, (f j).ownBlock = some q → H q ∧ q ≠ mb) ∧ ∀ b, H b → m0 ≤ b ∧ b < V'.heap.size :=
  ⟨h.map.same (hf.block mb h.map.lt (fun hs => hS mb hs h.mbH)), fun j => ⟨(h.row j).1.frame hf (fun q e hs => hS q hs ((h.row j).2 q e).1), (h.row j).2⟩, fun b hb => ⟨(h.hb b hb).1, Nat.lt_of_lt_of_le (h.hb b hb).2 hf.size⟩⟩
theorem Dr.below (h : Dr w m0 V M mb T k P N f L H) (hb : Below V.heap.size V V') : Dr w m0 V' M mb T k P N f L H := by
  obtain ⟨a, b, c⟩ := h.kept (FrS.of (S := fun _ => False) hb) (fun b x => x.elim)
  obtain ⟨F, h1, h2, h3⟩ := h.out
  exact ⟨⟨F, h1.below hb, h2, h3⟩, a, b, h.mbH, c, bnext h.bel hb, h.le, h.cap⟩
theorem Dr.step {F : Nat → Prop} (h : Dr w m0 V M mb T k P N f L H) (h1 : LS V M 2 T k P F) (h2 : ∀ b, F b → ¬ H b) (h3 : ∀ b, F b → m0 ≤ b) (hs : LSr V F V' M 2 T k' Q) : Dr w m0 V' M mb T k' Q N f L H := by
  obtain ⟨hf, F2, hl, hF2⟩ := hs
  obtain ⟨a, b, c⟩ := h.kept hf h2
  have hm : m0 ≤ V.heap.size := Nat.le_trans (h3 M h1.fM) (Nat.le_of_lt (h1.lt M h1.fM))
  exact ⟨⟨F2, hl, fun b hb hH => (hF2 b hb).elim (fun x => h2 b x hH) (fun x => by have := (h.hb b hH).2; omega), fun b hb => (hF2 b hb).elim (h3 b) (fun x => Nat.le_trans hm x)⟩, a, b, h.mbH, c, hf.below w h.bel (fun b hb => Nat.le_trans h.le (h3 b hb)), h.le, h.cap⟩
theorem Dr.send (h : Dr w m0 V M mb T k P N f L H) (hb : Below V.heap.size V V') (at' a b : Int) (s : ByteArray) (hk : k ≤ 1000000) (hl : P.length ≤ 90000) :
    Calls Try.prog 15 #[ptr M, .int .i64 at', msV a b s] V' fun x w' => x = .returned (.tuple #[]) ∧ Dr w m0 w' M mb T (k + 1) (sendP T 2 k at' a b s P) N f L H ∧ ∃ F, (∀ b, F b → b < V.heap.size) ∧ FrS F V' w' := by
  have h' := h.below hb
  obtain ⟨F, h1, h2, h3⟩ := h.out
  exact (send_any (h1.below hb).here at' a b s hk hl).mono fun x w' hx => ⟨hx.1, h'.step (h1.below hb) h2 h3 hx.2, F, h1.lt, hx.2.1⟩
theorem Dr.next (h : Dr w m0 V M mb T k P N f L H) (ho : LN.Ord P) (hl : P.length ≤ 100000) (p : Pc) (hp : P[LN.bs P]? = some p) : Calls Try.prog 20 #[ptr M] V fun x w' => x = .returned (.tuple #[msV p.f p.o p.s, .int .i64 p.t, .bool true]) ∧ Dr w m0 w' M mb T k (P.eraseIdx (LN.bs P)) N f L H := by
  obtain ⟨F, h1, h2, h3⟩ := h.out
  exact (next_some h1.here ho hl p hp).mono fun x w' hx => ⟨hx.1, h.step h1 h2 h3 hx.2⟩
theorem Dr.none (h : Dr w m0 V M mb T k [] N f L H) : Calls Try.prog 20 #[ptr M] V fun x w' => x = .returned (.tuple #[ms0V, .int .i64 0, .bool false]) ∧ Dr w m0 w' M mb T k [] N f L H := by
  obtain ⟨F, h1, h2, h3⟩ := h.out
  exact (next_none h1.here).mono fun x w' hx => ⟨hx.1, h.step h1 h2 h3 hx.2⟩
/-- A value is put, whose row lies within H. -/
theorem Dr.put (h : Dr w m0 V M mb T k P N f L H) (i : Nat) (hi : i < 256) (hN : N < 1000000000) (v : Value) (l : List Int) (hv : Du v) (hr : IntsAt V v l) (hc : Cap v) (hq : ∀ q, v.ownBlock = some q → H q ∧ q ≠ mb) :
    ∃ W', (Instr.mapUpdate 38 (.map (some mb)) (.string (LN.txt i)) v).run Try.prog V = .ok () W' ∧ Dr w m0 W' M mb T k P (N + 1) (fun y => if y = i then v else f y) (fun y => if y = i then l else L y) H := by
  obtain ⟨W', h1, h2, h3⟩ := h.map.put i hi hN v hv
  have hf := FrS.turned (S := fun b => b = mb) h3 rfl
  obtain ⟨F, g1, g2, g3⟩ := h.out
  refine ⟨W', h1, ⟨F, g1.kept hf (fun b hb e => g2 b hb (by rw [e]; exact h.mbH)), g2, g3⟩, h2, fun j => ?_, h.mbH, fun b hb => ⟨(h.hb b hb).1, Nat.lt_of_lt_of_le (h.hb b hb).2 hf.size⟩, hf.below w h.bel (fun b hb => by rw [hb]; exact Nat.le_trans h.le (h.hb mb h.mbH).1), h.le, fun j => by
    by_cases e0 : j = i
    · simp only [if_pos e0]
      exact hc
    · simp only [if_neg e0]
      exact h.cap j⟩
  by_cases e0 : j = i
  · simp only [if_pos e0]
    exact ⟨hr.frame hf (fun q e hs => (hq q e).2 hs), hq⟩
  · simp only [if_neg e0]
    exact ⟨(h.row j).1.frame hf (fun q e hs => ((h.row j).2 q e).2 hs), (h.row j).2⟩
end
/-- All but the first one. -/
theorem IntsAt.drop1 {V : World} {g o q c : Nat} {t : Int} {l : List Int} {ad : Option Addr} (h : IntsAt V (.slice (some ⟨g, o, none⟩) (q + 1) c) (t :: l)) (hl : l.length = q) (hc : q + 1 ≤ c) (had : (if c = 1 then some (⟨g, o, none⟩ : Addr) else some ⟨g, o + 1, none⟩) = ad) : IntsAt V (.slice ad q (c - 1)) l := by
  obtain ⟨ao, c', e, -, h⟩ := h
  injection e with e1 e2 e3
  subst e1 e3
  refine ⟨ad, c - 1, by rw [hl], by simp, ?_⟩
  by_cases hq : q = 0
  · refine .inl ⟨by rw [hl]; exact hq, fun e => ?_⟩
    rw [← had] at e
    split at e <;> cases e
  · rcases h with ⟨h, -⟩ | ⟨g', o', e, hg, hcell⟩
    · simp at h
    · injection e with e
      injection e with e1 e2
      subst e1 e2
      refine .inr ⟨g, o + 1, by rw [← had, if_neg (by omega)], hg, fun j u hu => ?_⟩
      have h1 := hcell (j + 1) u (by simpa using hu)
      rw [show o + 1 + j = o + (j + 1) by omega]
      exact h1
end Go.Proofs.Ytgphdgalcbcamaa
