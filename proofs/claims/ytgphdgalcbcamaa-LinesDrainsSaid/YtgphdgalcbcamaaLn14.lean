/- Two lines beside each other. No conditions. -/
import Derived.Test.YtgphdgalcbcamaaLn13
namespace Go.Proofs.Ytgphdgalcbcamaa
set_option maxRecDepth 100000
set_option linter.unusedVariables false
open Go.RowKit Go.Deep
/-- In the order in which they were sent, before number k. -/
structure Sn (P : List Pc) (k : Nat) : Prop where
  ord : LN.Ord P
  lt : ∀ p ∈ P, p.n < (k : Int)
  len : P.length ≤ 9 * k
theorem Sn.nil : Sn [] 0 := ⟨List.Pairwise.nil, (fun p h => by cases h), by simp⟩
theorem Sn.send {P : List Pc} {k : Nat} (h : Sn P k) (T : List Tr) (nd at' f o : Int) (s : ByteArray) : Sn (sendP T nd k at' f o s P) (k + 1) := by
  unfold sendP
  split
  · exact ⟨h.ord, fun p hp => by have := h.lt p hp; omega, by have := h.len; omega⟩
  · have hc := clp_bd (tro T k).c (show (1 : Int) ≤ 9 by decide)
    rw [cps_cpr]
    refine ⟨List.pairwise_append.2 ⟨h.ord, cpr_ord _ _, fun p hp q hq => .inl ?_⟩, fun p hp => ?_, ?_⟩
    · have h1 := h.lt p hp
      have h2 := (cpr_ge _ _ q hq).2
      omega
    · rcases List.mem_append.1 hp with hp | hp
      · have := h.lt p hp
        omega
      · have := (cpr_ge _ _ p hp).2
        omega
    · rw [List.length_append, cpr_len]
      have := h.len
      omega
theorem Ord.erase {P : List Pc} (h : LN.Ord P) (i : Nat) : LN.Ord (P.eraseIdx i) := List.Pairwise.sublist (List.eraseIdx_sublist P i) h
theorem len_erase (P : List Pc) (i : Nat) : (P.eraseIdx i).length ≤ P.length := List.length_eraseIdx_le P i
/-- Two lines, their blocks apart. -/
def Two (w : World) (m0 : Nat) (V : World) (M N : Nat) (n1 n2 : Int) (T1 T2 : List Tr) (k1 k2 : Nat) (P Q : List Pc) : Prop :=
  ∃ F G, LS V M n1 T1 k1 P F ∧ LS V N n2 T2 k2 Q G ∧ (∀ b, F b → ¬ G b) ∧ (∀ b, F b → m0 ≤ b) ∧ (∀ b, G b → m0 ≤ b) ∧ Below w.heap.size w V ∧ w.heap.size ≤ m0
section
variable {w V V' : World} {m0 M N : Nat} {n1 n2 : Int} {T1 T2 : List Tr} {k1 k2 : Nat} {P Q R : List Pc}
theorem Two.below (h : Two w m0 V M N n1 n2 T1 T2 k1 k2 P Q) (hb : Below V.heap.size V V') : Two w m0 V' M N n1 n2 T1 T2 k1 k2 P Q := by
  obtain ⟨F, G, h1, h2, h3, h4, h5, h6, h7⟩ := h
  exact ⟨F, G, h1.below hb, h2.below hb, h3, h4, h5, bnext h6 hb, h7⟩
theorem Two.bel (h : Two w m0 V M N n1 n2 T1 T2 k1 k2 P Q) : Below w.heap.size w V := by
  obtain ⟨F, G, h1, h2, h3, h4, h5, h6, h7⟩ := h
  exact h6
theorem Two.write (h : Two w m0 V M N n1 n2 T1 T2 k1 k2 P Q) {g : Nat} (hg : g < m0) (hw : w.heap.size ≤ g) (hf : FrS (fun b => b = g) V V') : Two w m0 V' M N n1 n2 T1 T2 k1 k2 P Q := by
  obtain ⟨F, G, h1, h2, h3, h4, h5, h6, h7⟩ := h
  exact ⟨F, G, h1.kept hf (fun b hb e => by have := h4 b hb; omega), h2.kept hf (fun b hb e => by have := h5 b hb; omega), h3, h4, h5, hf.below w h6 (fun b e => by omega), h7⟩
theorem Two.swap (h : Two w m0 V M N n1 n2 T1 T2 k1 k2 P Q) : Two w m0 V N M n2 n1 T2 T1 k2 k1 Q P := by
  obtain ⟨F, G, h1, h2, h3, h4, h5, h6, h7⟩ := h
  exact ⟨G, F, h2, h1, fun b hg hf => h3 b hf hg, h5, h4, h6, h7⟩
theorem Two.step {n3 : Int} {T3 : List Tr} {k3 : Nat} {F G : Nat → Prop} (h1 : LS V M n1 T1 k1 P F) (h2 : LS V N n2 T2 k2 Q G) (h3 : ∀ b, F b → ¬ G b) (h4 : ∀ b, F b → m0 ≤ b) (h5 : ∀ b, G b → m0 ≤ b) (h6 : Below w.heap.size w V) (h7 : w.heap.size ≤ m0) (h : LSr V F V' M n3 T3 k3 R) : Two w m0 V' M N n3 n2 T3 T2 k3 k2 R Q := by
  obtain ⟨hf, F2, hl, hF2⟩ := h
  have hm : m0 ≤ V.heap.size := Nat.le_trans (h4 M h1.fM) (Nat.le_of_lt (h1.lt M h1.fM))
  exact ⟨F2, G, hl, h2.kept hf (fun b hg hb => h3 b hb hg), fun b hb hg => by
    rcases hF2 b hb with h | h
    · exact h3 b h hg
    · have := h2.lt b hg
      omega, fun b hb => (hF2 b hb).elim (h4 b) (fun h => Nat.le_trans hm h), h5, hf.below w h6 (fun b hb => Nat.le_trans h7 (h4 b hb)), h7⟩
theorem send_1 (h : Two w m0 V M N n1 n2 T1 T2 k1 k2 P Q) (at' f o : Int) (s : ByteArray) (hk : k1 ≤ 1000000) (hl : P.length ≤ 90000) :
    Calls Try.prog 15 #[ptr M, .int .i64 at', msV f o s] V fun x w' => x = .returned (.tuple #[]) ∧ Two w m0 w' M N n1 n2 T1 T2 (k1 + 1) k2 (sendP T1 n1 k1 at' f o s P) Q := by
  obtain ⟨F, G, h1, h2, h3, h4, h5, h6, h7⟩ := h
  exact (send_any h1.here at' f o s hk hl).mono fun x w' hx => ⟨hx.1, Two.step h1 h2 h3 h4 h5 h6 h7 hx.2⟩
theorem send_2 (h : Two w m0 V M N n1 n2 T1 T2 k1 k2 P Q) (at' f o : Int) (s : ByteArray) (hk : k2 ≤ 1000000) (hl : Q.length ≤ 90000) :
    Calls Try.prog 15 #[ptr N, .int .i64 at', msV f o s] V fun x w' => x = .returned (.tuple #[]) ∧ Two w m0 w' M N n1 n2 T1 T2 k1 (k2 + 1) P (sendP T2 n2 k2 at' f o s Q) :=
  (send_1 h.swap at' f o s hk hl).mono fun x w' hx => ⟨hx.1, hx.2.swap⟩
theorem next_1 (h : Two w m0 V M N n1 n2 T1 T2 k1 k2 P Q) (ho : LN.Ord P) (hl : P.length ≤ 100000) (p : Pc) (hp : P[LN.bs P]? = some p) : Calls Try.prog 20 #[ptr M] V fun x w' => x = .returned (.tuple #[msV p.f p.o p.s, .int .i64 p.t, .bool true]) ∧ Two w m0 w' M N n1 n2 T1 T2 k1 k2 (P.eraseIdx (LN.bs P)) Q := by
  obtain ⟨F, G, h1, h2, h3, h4, h5, h6, h7⟩ := h
  exact (next_some h1.here ho hl p hp).mono fun x w' hx => ⟨hx.1, Two.step h1 h2 h3 h4 h5 h6 h7 hx.2⟩
theorem next_2 (h : Two w m0 V M N n1 n2 T1 T2 k1 k2 P Q) (ho : LN.Ord Q) (hl : Q.length ≤ 100000) (p : Pc) (hp : Q[LN.bs Q]? = some p) : Calls Try.prog 20 #[ptr N] V fun x w' => x = .returned (.tuple #[msV p.f p.o p.s, .int .i64 p.t, .bool true]) ∧ Two w m0 w' M N n1 n2 T1 T2 k1 k2 P (Q.eraseIdx (LN.bs Q)) :=
  (next_1 h.swap ho hl p hp).mono fun x w' hx => ⟨hx.1, hx.2.swap⟩
theorem none_1 (h : Two w m0 V M N n1 n2 T1 T2 k1 k2 [] Q) : Calls Try.prog 20 #[ptr M] V fun x w' => x = .returned (.tuple #[ms0V, .int .i64 0, .bool false]) ∧ Two w m0 w' M N n1 n2 T1 T2 k1 k2 [] Q := by
  obtain ⟨F, G, h1, h2, h3, h4, h5, h6, h7⟩ := h
  exact (next_none h1.here).mono fun x w' hx => ⟨hx.1, Two.step h1 h2 h3 h4 h5 h6 h7 hx.2⟩
theorem none_2 (h : Two w m0 V M N n1 n2 T1 T2 k1 k2 P []) : Calls Try.prog 20 #[ptr N] V fun x w' => x = .returned (.tuple #[ms0V, .int .i64 0, .bool false]) ∧ Two w m0 w' M N n1 n2 T1 T2 k1 k2 P [] :=
  (none_1 h.swap).mono fun x w' hx => ⟨hx.1, hx.2.swap⟩
/-- The same, and what was made since is kept. -/
theorem next_2k (h : Two w m0 V M N n1 n2 T1 T2 k1 k2 P Q) (hb : Below V.heap.size V V') (ho : LN.Ord Q) (hl : Q.length ≤ 100000) (p : Pc) (hp : Q[LN.bs Q]? = some p) : Calls Try.prog 20 #[ptr N] V' fun x w' => x = .returned (.tuple #[msV p.f p.o p.s, .int .i64 p.t, .bool true]) ∧ Two w m0 w' M N n1 n2 T1 T2 k1 k2 P (Q.eraseIdx (LN.bs Q)) ∧ FrS (fun b => b < V.heap.size) V' w' := by
  obtain ⟨F, G, h1, h2, h3, h4, h5, h6, h7⟩ := h
  exact (next_some (h2.below hb).here ho hl p hp).mono fun x w' hx => ⟨hx.1, (Two.step (h2.below hb) (h1.below hb) (fun b hg hf => h3 b hf hg) h5 h4 (bnext h6 hb) h7 hx.2).swap, hx.2.1.mono h2.lt⟩
theorem none_2k (h : Two w m0 V M N n1 n2 T1 T2 k1 k2 P []) (hb : Below V.heap.size V V') : Calls Try.prog 20 #[ptr N] V' fun x w' => x = .returned (.tuple #[ms0V, .int .i64 0, .bool false]) ∧ Two w m0 w' M N n1 n2 T1 T2 k1 k2 P [] ∧ FrS (fun b => b < V.heap.size) V' w' := by
  obtain ⟨F, G, h1, h2, h3, h4, h5, h6, h7⟩ := h
  exact (next_none (h2.below hb).here).mono fun x w' hx => ⟨hx.1, (Two.step (h2.below hb) (h1.below hb) (fun b hg hf => h3 b hf hg) h5 h4 (bnext h6 hb) h7 hx.2).swap, hx.2.1.mono h2.lt⟩
end
/-- The first 40 troubles. -/
theorem short_any (W : World) (v : Value) (T : List Tr) (h : TrArg W v T) : ∃ v', Calls Try.prog 12 #[v] W (fun x w' => x = .returned v' ∧ w' = W) ∧ SrcN 3 W v' (T.take 40).length (trs (T.take 40)) := by
  obtain ⟨a, c, e, -⟩ := h.src
  subst e
  obtain ⟨n, hn⟩ : ∃ n, T.length = n := ⟨_, rfl⟩
  have hs := h.src
  have hc := h.cap _ _ _ rfl
  rw [hn] at hs hc ⊢
  have htk : ∀ m, trs (T.take m) = (trs T).take (m * 3) := fun m => flat_take trL_len T m
  obtain ⟨hc1, hc2⟩ := hc
  unfold maxLen at hc2
  by_cases h40 : n ≤ 40
  · refine ⟨.slice a n c, ?_, ?_⟩
    · have hnz : ((n : Int)) ≤ 40 := by omega
      have hn0 : (0 : Int) ≤ (n : Int) := by omega
      have hnc : (n : Int) ≤ (c : Int) := by omega
      have hm1 : (if (40 : Int) < (n : Int) then (40 : Int) else (n : Int)) = (n : Int) := if_neg (by omega)
      have hm2 : min (n : Int) 40 = (n : Int) := by omega
      clear hs htk h hn
      go_enter Try.func12, Try.ntmps12
      go_wp2
      go_ret
      exact ⟨rfl, rfl⟩
    · rw [List.take_of_length_le (by omega), hn]
      exact hs
  · refine ⟨.slice a 40 c, ?_, ?_⟩
    · have hnz : ¬ ((n : Int)) ≤ 40 := by omega
      have hnc : (40 : Int) ≤ (c : Int) := by omega
      have hm1 : (if (40 : Int) < (n : Int) then (40 : Int) else (n : Int)) = 40 := if_pos (by omega)
      have hm2 : min (n : Int) 40 = 40 := by omega
      clear hs htk h hn
      go_enter Try.func12, Try.ntmps12
      go_wp2
      go_ret
      exact ⟨rfl, rfl⟩
    · rw [List.length_take, hn, Nat.min_eq_left (by omega), htk]
      exact hs.take (by omega)
/-- What was sent from 0 to 1 at these times. -/
def PO (T : List Tr) (L : List Int) : Nat → List Pc
  | 0 => []
  | i + 1 => sendP T 2 i (L.getD i 0) 0 1 (LN.txt i) (PO T L i)
theorem PO_sn (T : List Tr) (L : List Int) : ∀ i, Sn (PO T L i) i
  | 0 => Sn.nil
  | i + 1 => (PO_sn T L i).send T 2 _ 0 1 _
end Go.Proofs.Ytgphdgalcbcamaa
