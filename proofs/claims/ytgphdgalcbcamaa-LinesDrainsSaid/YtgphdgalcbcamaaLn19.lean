/- The program's lines beside the reference's; the argument Acts. No conditions. -/
import Derived.Test.YtgphdgalcbcamaaLn18
namespace Go.Proofs.Ytgphdgalcbcamaa
set_option maxRecDepth 100000
set_option linter.unusedVariables false
open Go.ChangeShapes Go.WideShapes Go.ChangeAt Go.RowKit Go.Joins Go.Deep
/-- Both lines, their blocks apart. -/
def Both (w : World) (m0 : Nat) (V : World) (M r : Nat) (nd : Int) (T : List Tr) (k1 k2 : Nat) (P Q : List Pc) : Prop :=
  ∃ F G, LS V M nd T k1 P F ∧ RS V r nd T k2 Q G ∧ (∀ b, F b → ¬ G b) ∧ (∀ b, F b → m0 ≤ b) ∧ (∀ b, G b → m0 ≤ b) ∧ Below w.heap.size w V ∧ w.heap.size ≤ m0
section
variable {w V V' : World} {m0 M r : Nat} {nd : Int} {T : List Tr} {k1 k2 : Nat} {P Q R : List Pc}
theorem Both.below (h : Both w m0 V M r nd T k1 k2 P Q) (hb : Below V.heap.size V V') : Both w m0 V' M r nd T k1 k2 P Q := by
  obtain ⟨F, G, h1, h2, h3, h4, h5, h6, h7⟩ := h
  exact ⟨F, G, h1.below hb, h2.below hb, h3, h4, h5, bnext h6 hb, h7⟩
theorem Both.bel (h : Both w m0 V M r nd T k1 k2 P Q) : Below w.heap.size w V := by
  obtain ⟨F, G, h1, h2, h3, h4, h5, h6, h7⟩ := h
  exact h6
theorem Both.stepL {k3 : Nat} {F G : Nat → Prop} (h1 : LS V M nd T k1 P F) (h2 : RS V r nd T k2 Q G) (h3 : ∀ b, F b → ¬ G b) (h4 : ∀ b, F b → m0 ≤ b) (h5 : ∀ b, G b → m0 ≤ b) (h6 : Below w.heap.size w V) (h7 : w.heap.size ≤ m0) (h : LSr V F V' M nd T k3 R) : Both w m0 V' M r nd T k3 k2 R Q := by
  obtain ⟨hf, F2, hl, hF2⟩ := h
  have hm : m0 ≤ V.heap.size := Nat.le_trans (h4 M h1.fM) (Nat.le_of_lt (h1.lt M h1.fM))
  exact ⟨F2, G, hl, h2.kept hf (fun b hg hb => h3 b hb hg), fun b hb hg => by
    rcases hF2 b hb with h | h
    · exact h3 b h hg
    · have := h2.lt b hg
      omega, fun b hb => (hF2 b hb).elim (h4 b) (fun h => Nat.le_trans hm h), h5, hf.below w h6 (fun b hb => Nat.le_trans h7 (h4 b hb)), h7⟩
theorem Both.stepR {k3 : Nat} {F G : Nat → Prop} (h1 : LS V M nd T k1 P F) (h2 : RS V r nd T k2 Q G) (h3 : ∀ b, F b → ¬ G b) (h4 : ∀ b, F b → m0 ≤ b) (h5 : ∀ b, G b → m0 ≤ b) (h6 : Below w.heap.size w V) (h7 : w.heap.size ≤ m0) (h : RSr V G V' r nd T k3 R) : Both w m0 V' M r nd T k1 k3 P R := by
  obtain ⟨hf, G2, hl, hG2⟩ := h
  have hm : m0 ≤ V.heap.size := Nat.le_trans (h5 r h2.fM) (Nat.le_of_lt (h2.lt r h2.fM))
  exact ⟨F, G2, h1.kept hf (fun b hb hg => h3 b hb hg), hl, fun b hb hg => by
    rcases hG2 b hg with h | h
    · exact h3 b hb h
    · have := h1.lt b hb
      omega, h4, fun b hb => (hG2 b hb).elim (h5 b) (fun h => Nat.le_trans hm h), hf.below w h6 (fun b hb => Nat.le_trans h7 (h5 b hb)), h7⟩
theorem Both.send (h : Both w m0 V M r nd T k1 k2 P Q) (at' f o : Int) (s : ByteArray) (hk : k1 ≤ 1000000) (hl : P.length ≤ 90000) :
    Calls Try.prog 15 #[ptr M, .int .i64 at', msV f o s] V fun x w' => x = .returned (.tuple #[]) ∧ Both w m0 w' M r nd T (k1 + 1) k2 (sendP T nd k1 at' f o s P) Q := by
  obtain ⟨F, G, h1, h2, h3, h4, h5, h6, h7⟩ := h
  exact (send_any h1.here at' f o s hk hl).mono fun x w' hx => ⟨hx.1, Both.stepL h1 h2 h3 h4 h5 h6 h7 hx.2⟩
theorem Both.rsend (h : Both w m0 V M r nd T k1 k2 P Q) (at' f o : Int) (s : ByteArray) (hk : k2 ≤ 1000000) (hl : Q.length ≤ 90000) :
    Calls Try.prog 16 #[ptr r, .int .i64 at', msV f o s] V fun x w' => x = .returned (.tuple #[]) ∧ Both w m0 w' M r nd T k1 (k2 + 1) P (sendP T nd k2 at' f o s Q) := by
  obtain ⟨F, G, h1, h2, h3, h4, h5, h6, h7⟩ := h
  exact (rsend_any h2 at' f o s hk hl).mono fun x w' hx => ⟨hx.1, Both.stepR h1 h2 h3 h4 h5 h6 h7 hx.2⟩
theorem Both.next (h : Both w m0 V M r nd T k1 k2 P Q) (ho : LN.Ord P) (hl : P.length ≤ 100000) (p : Pc) (hp : P[LN.bs P]? = some p) : Calls Try.prog 20 #[ptr M] V fun x w' => x = .returned (.tuple #[msV p.f p.o p.s, .int .i64 p.t, .bool true]) ∧ Both w m0 w' M r nd T k1 k2 (P.eraseIdx (LN.bs P)) Q := by
  obtain ⟨F, G, h1, h2, h3, h4, h5, h6, h7⟩ := h
  exact (next_some h1.here ho hl p hp).mono fun x w' hx => ⟨hx.1, Both.stepL h1 h2 h3 h4 h5 h6 h7 hx.2⟩
theorem Both.none (h : Both w m0 V M r nd T k1 k2 [] Q) : Calls Try.prog 20 #[ptr M] V fun x w' => x = .returned (.tuple #[ms0V, .int .i64 0, .bool false]) ∧ Both w m0 w' M r nd T k1 k2 [] Q := by
  obtain ⟨F, G, h1, h2, h3, h4, h5, h6, h7⟩ := h
  exact (next_none h1.here).mono fun x w' hx => ⟨hx.1, Both.stepL h1 h2 h3 h4 h5 h6 h7 hx.2⟩
theorem Both.rnext (h : Both w m0 V M r nd T k1 k2 P Q) (hb : Below V.heap.size V V') (hl : Q.length ≤ 100000) (p : Pc) (hp : Q[LN.bs Q]? = some p) : Calls Try.prog 23 #[ptr r] V' fun x w' => x = .returned (.tuple #[msV p.f p.o p.s, .int .i64 p.t, .bool true]) ∧ Both w m0 w' M r nd T k1 k2 P (Q.eraseIdx (LN.bs Q)) ∧ FrS (fun b => b < V.heap.size) V' w' := by
  obtain ⟨F, G, h1, h2, h3, h4, h5, h6, h7⟩ := h
  exact (rnext_some (h2.below hb) (fun e => by rw [e] at hp; simp at hp) hl p hp).mono fun x w' hx => ⟨hx.1, Both.stepR (h1.below hb) (h2.below hb) h3 h4 h5 (bnext h6 hb) h7 hx.2, hx.2.1.mono h2.lt⟩
theorem Both.rnone (h : Both w m0 V M r nd T k1 k2 P []) (hb : Below V.heap.size V V') : Calls Try.prog 23 #[ptr r] V' fun x w' => x = .returned (.tuple #[ms0V, .int .i64 0, .bool false]) ∧ Both w m0 w' M r nd T k1 k2 P [] ∧ FrS (fun b => b < V.heap.size) V' w' := by
  obtain ⟨F, G, h1, h2, h3, h4, h5, h6, h7⟩ := h
  exact (rnext_none (h2.below hb)).mono fun x w' hx => ⟨hx.1, Both.stepR (h1.below hb) (h2.below hb) h3 h4 h5 (bnext h6 hb) h7 hx.2, hx.2.1.mono h2.lt⟩
end
set_option maxHeartbeats 2000000 in
theorem same_core (V : World) (M r : Nat) (f o t : Int) (s : ByteArray) (ok : Bool) (K1 K2 : World → Prop)
    (h1 : Calls Try.prog 20 #[ptr M] V fun x w' => x = .returned (.tuple #[msV f o s, .int .i64 t, .bool ok]) ∧ K1 w')
    (h2 : ∀ w1, K1 w1 → ∀ V', Below w1.heap.size w1 V' → Calls Try.prog 23 #[ptr r] V' fun x w' => x = .returned (.tuple #[msV f o s, .int .i64 t, .bool ok]) ∧ K2 w' ∧ FrS (fun b => b < w1.heap.size) V' w')
    (h3 : ∀ w', K2 w' → ∀ V', Below w'.heap.size w' V' → K2 V') :
    Calls Try.prog 14 #[ptr M, ptr r] V fun x w' => x = .returned (.bool true) ∧ K2 w' := by
  have H1 := Lib.hid h1
  have H2 := Lib.hid h2
  have H3 := Lib.hid h3
  have hel := fun w => eql_ms w f o s
  have hbb : (ok == ok) = true := by simp
  clear h1 h2 h3
  go_enter Try.func14, Try.ntmps14
  go_wp2_with fail
  go_at_call 20
  refine H1.out.mono ?_
  rintro x wa ⟨rfl, ha⟩
  have hbx := balloc (Below.refl _ wa) (.cells #[.int .i64 f, .int .i64 o, .string s] 31)
  have hxx := heap_alloc_new wa (.cells #[.int .i64 f, .int .i64 o, .string s] 31)
  have HN := Lib.hid (H2.out wa ha _ hbx)
  have HXX := Lib.hid hxx
  clear ha hbx hxx
  go_upto_region 2 with fail
  go_wp2_with fail
  go_at_call 23
  refine HN.out.mono ?_
  rintro x wb ⟨rfl, hb, hfb⟩
  have hxb := hfb.nd HXX.out (fun h => by omega)
  have hx2 := ((balloc (Below.refl _ wb) (.cells #[.int .i64 f, .int .i64 o, .string s] 31)).block wa.heap.size (Array.getElem?_eq_some_iff.1 hxb).1).trans hxb
  have q0 := nd_cell (i := 0) hx2 rfl
  have q1 := nd_cell (i := 1) hx2 rfl
  have q2 := nd_cell (i := 2) hx2 rfl
  have HFI := Lib.hid (H3.out wb hb _ (balloc (Below.refl _ wb) (.cells #[.int .i64 f, .int .i64 o, .string s] 31)))
  clear hb hfb hxb hx2
  go_upto_region 3 with fail
  go_wp2
  go_ret
  exact ⟨by simp, HFI.out⟩
theorem same_any {w V : World} {m0 M r : Nat} {nd : Int} {T : List Tr} {k1 k2 : Nat} {P : List Pc} (h : Both w m0 V M r nd T k1 k2 P P) (ho : LN.Ord P) (hl : P.length ≤ 100000) :
    Calls Try.prog 14 #[ptr M, ptr r] V fun x w' => x = .returned (.bool true) ∧ Both w m0 w' M r nd T k1 k2 (P.eraseIdx (LN.bs P)) (P.eraseIdx (LN.bs P)) := by
  by_cases hP : P = []
  · subst hP
    exact same_core V M r 0 0 0 ⟨#[]⟩ false (fun w' => Both w m0 w' M r nd T k1 k2 [] []) _ h.none (fun w1 hw V' hb => hw.rnone hb) (fun w' hw V' hb => Both.below hw hb)
  · obtain ⟨p, hp⟩ := LN.bs_some hP
    exact same_core V M r p.f p.o p.t p.s true (fun w' => Both w m0 w' M r nd T k1 k2 (P.eraseIdx (LN.bs P)) P) _ (h.next ho hl p hp) (fun w1 hw V' hb => hw.rnext hb hl p hp) (fun w' hw V' hb => Both.below hw hb)
/-- An act: a message that is taken, or one that is sent. -/
structure LAc where
  l : Bool
  a : Int
  f : Int
  o : Int
  s : ByteArray
def lacL (x : LAc) : List Value := [.bool x.l, .int .i64 x.a, .int .i64 x.f, .int .i64 x.o, .string x.s]
theorem lacL_len (x : LAc) : (lacL x).length = 5 := rfl
structure LAcArg (W : World) (v : Value) (l : List LAc) : Prop where
  src : SrcN 5 W v l.length (l.flatMap lacL)
  len : l.length ≤ maxLen
theorem LAcArg.keep {W W' : World} {v : Value} {l : List LAc} (h : LAcArg W v l) (hb : Below W.heap.size W W') : LAcArg W' v l := ⟨h.src.keep hb, h.len⟩
section
variable {H : Type} {enc : TypeId × Value → H} {W : World}
instance : Inhabited LAc := ⟨⟨false, 0, 0, 0, ⟨#[]⟩⟩⟩
theorem t_lac {n : Nat} {l : List Value} {y : DataW H × List MemPlace} (h : DataW.trod enc Try.prog W 0 (fun _ => true) true n 33 l = some y) : ∃ z : LAc, l = lacL z := by
  obtain ⟨xs, m, _, _, hl, hn, hx⟩ := DataW.trod_struct Try.underlying33 h
  have hC : Try.prog.cellsOf 33 = 5 := by kernel_rfl
  have hI : Try.prog.cellsOf 3 = 1 := by kernel_rfl
  have hB : Try.prog.cellsOf 4 = 1 := by kernel_rfl
  have hM : Try.prog.cellsOf 31 = 3 := by kernel_rfl
  have h0 := hx 0 _ rfl
  have h1 := hx 1 _ rfl
  have h2 := hx 2 _ rfl
  rw [hC] at hl
  match l, hl, xs, hn, h0, h1, h2 with
  | [x0, x1, x2, x3, x4], _, [y0, y1, y2], _, h0, h1, h2 =>
    have k0 : DataW.trod enc Try.prog W 0 (fun _ => true) true m 4 [x0] = some y0 := by simpa [hB] using h0
    have k1 : DataW.trod enc Try.prog W 0 (fun _ => true) true m 3 [x1] = some y1 := by simpa [hI, hB] using h1
    have k2 : DataW.trod enc Try.prog W 0 (fun _ => true) true m 31 [x2, x3, x4] = some y2 := by simpa [hI, hB, hM] using h2
    obtain ⟨a, e0, _⟩ := DataW.trod_bool Try.underlying4 k0
    obtain ⟨b, e1, _, w1⟩ := DataW.trod_int Try.underlying3 k1
    obtain ⟨f, o, s, e2, -⟩ := t_ms k2
    simp at e0 e1 e2
    obtain ⟨e2, e3, e4⟩ := e2
    subst e0 e1 e2 e3 e4
    exact ⟨⟨a, b, f, o, s⟩, rfl⟩
theorem open_lacts {base : Nat} {v : Value} {d : DataW H} {p : List MemPlace} (hv : Value.okWide Try.prog W .any base 23 v) (h : DataW.Trod enc Try.prog W 0 (fun _ => true) true 23 v d p) : ∃ l, LAcArg W v l := by
  obtain ⟨a0, len0, cap0, rfl⟩ := okWide_slice Try.underlying23 hv
  obtain ⟨fuel, hf⟩ := h
  obtain ⟨v', l, e, h1, h2, h3⟩ := t_elems lacL 5 (by omega) lacL_len Try.underlying23 (by kernel_rfl) (fun n cs' y h => t_lac h) hf
  simp [Value.cells] at e
  rw [e]
  exact ⟨l, h1, h2⟩
end
theorem lac_at {W : World} {n c : Nat} {a : Option Addr} {L : List LAc} (h : SrcN 5 W (.slice a n c) n (L.flatMap lacL)) (hn : L.length = n) {i : Nat} {t : LAc} (hk : L[i]? = some t) :
    ∃ g o, a = some ⟨g, o, none⟩ ∧ g < W.heap.size ∧ W.cell? ⟨g, o + i * 5, none⟩ = some (.bool t.l) ∧ W.cell? ⟨g, o + i * 5 + 1, none⟩ = some (.int .i64 t.a) ∧ W.cell? ⟨g, o + i * 5 + 2, none⟩ = some (.int .i64 t.f) ∧ W.cell? ⟨g, o + i * 5 + 3, none⟩ = some (.int .i64 t.o) ∧ W.cell? ⟨g, o + i * 5 + 4, none⟩ = some (.string t.s) := by
  obtain ⟨ao, c', e1, hl, h1⟩ := h
  injection e1 with e1 _ _
  subst e1
  have hi := (List.getElem?_eq_some_iff.1 hk).1
  rcases h1 with ⟨h1, _⟩ | ⟨g, o, rfl, hgl, hc⟩
  · omega
  · have q := fun (j : Nat) (u : Value) (hu : (lacL t)[j]? = some u) => hc (i * 5 + j) u (flat_at lacL_len L i t j u hk hu)
    exact ⟨g, o, rfl, hgl, q 0 _ rfl, q 1 _ rfl, q 2 _ rfl, q 3 _ rfl, q 4 _ rfl⟩
end Go.Proofs.Ytgphdgalcbcamaa
