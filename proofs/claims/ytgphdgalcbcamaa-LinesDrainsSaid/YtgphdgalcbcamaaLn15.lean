/- Ends that are no nodes; two lines and a row of messages. No conditions. -/
import Derived.Test.YtgphdgalcbcamaaLn14
namespace Go.Proofs.Ytgphdgalcbcamaa.LN
set_option linter.unusedVariables false
theorem bst_app : ∀ (A : List Int) (x : Int) (B : List Int), (∀ a ∈ A, x < a) → (∀ b ∈ B, x ≤ b) → bst (A ++ x :: B) = A.length
  | [], x, B, _, hB => by
    show bst (x :: B) = 0
    unfold bst
    rw [if_pos (List.all_eq_true.2 fun y hy => decide_eq_true (hB y hy))]
  | a :: A, x, B, hA, hB => by
    rw [List.cons_append]
    unfold bst
    rw [if_neg, bst_app A x B (fun y hy => hA y (List.mem_cons_of_mem _ hy)) hB, List.length_cons]
    intro h
    have h1 := of_decide_eq_true (List.all_eq_true.1 h x (by simp))
    have h2 := hA a List.mem_cons_self
    omega
theorem bs_app {A B : List Pc} {q : Pc} (hA : ∀ a ∈ A, q.t < a.t) (hB : ∀ b ∈ B, q.t ≤ b.t) : bs (A ++ q :: B) = A.length ∧ (A ++ q :: B)[bs (A ++ q :: B)]? = some q ∧ (A ++ q :: B).eraseIdx (bs (A ++ q :: B)) = A ++ B := by
  have h : bs (A ++ q :: B) = A.length := by
    unfold bs
    rw [List.map_append, List.map_cons, bst_app, List.length_map]
    · intro a ha
      obtain ⟨p, hp, rfl⟩ := List.mem_map.1 ha
      exact hA p hp
    · intro b hb
      obtain ⟨p, hp, rfl⟩ := List.mem_map.1 hb
      exact hB p hp
  refine ⟨h, ?_, ?_⟩
  · rw [h, List.getElem?_append_right (Nat.le_refl _), Nat.sub_self]
    rfl
  · rw [h, List.eraseIdx_append_of_length_le (Nat.le_refl _), Nat.sub_self]
    rfl
theorem bs_split {Q : List Pc} {q : Pc} (hq : Q[bs Q]? = some q) : ∃ A B, Q = A ++ q :: B ∧ (∀ a ∈ A, q.t < a.t) ∧ ∀ b ∈ B, q.t ≤ b.t := by
  have hne : Q ≠ [] := fun e => by rw [e] at hq; simp at hq
  obtain ⟨m, h1, h2, h3⟩ := bst_spec (Q.map Pc.t) (by simpa using hne)
  rw [show bst (Q.map Pc.t) = bs Q from rfl] at h1 h2
  rw [List.getElem?_map, hq] at h1
  obtain rfl : q.t = m := by simpa using h1
  obtain ⟨hlb, hqe⟩ := List.getElem?_eq_some_iff.1 hq
  have hd : Q = Q.take (bs Q) ++ q :: Q.drop (bs Q + 1) := by
    have h1 := List.drop_eq_getElem_cons hlb
    rw [hqe] at h1
    rw [← h1, List.take_append_drop]
  refine ⟨_, _, hd, fun a ha => ?_, fun b hb => ?_⟩
  · obtain ⟨i, hi⟩ := List.getElem?_of_mem ha
    have hil := (List.getElem?_eq_some_iff.1 hi).1
    rw [List.length_take] at hil
    rw [List.getElem?_take, if_pos (by omega)] at hi
    exact h2 i a.t (by omega) (by rw [List.getElem?_map, hi]; rfl)
  · obtain ⟨i, hi⟩ := List.getElem?_of_mem (List.mem_of_mem_drop hb)
    exact h3 i b.t (by rw [List.getElem?_map, hi]; rfl)
/-- The ends of a message with a number. -/
abbrev en (E : List (Int × Int)) (n : Nat) : Int × Int := E.getD n (0, 0)
def rst (E : List (Int × Int)) (p : Pc) : Pc := ⟨p.t, p.n, (en E p.n.toNat).1, (en E p.n.toNat).2, p.s⟩
def nin (p : Pc) : Bool := decide (p.f = 999)
def Res (E : List (Int × Int)) (Q : List Pc) : List Pc := (Q.filter nin).map (rst E)
theorem Res_app (E : List (Int × Int)) (A B : List Pc) : Res E (A ++ B) = Res E A ++ Res E B := by unfold Res; rw [List.filter_append, List.map_append]
theorem Res_yes (E : List (Int × Int)) (q : Pc) (B : List Pc) (h : q.f = 999) : Res E (q :: B) = rst E q :: Res E B := by unfold Res; rw [List.filter_cons, if_pos (show nin q = true from decide_eq_true h)]; rfl
theorem Res_no (E : List (Int × Int)) (q : Pc) (B : List Pc) (h : q.f ≠ 999) : Res E (q :: B) = Res E B := by unfold Res; rw [List.filter_cons, if_neg (by unfold nin; simpa using h)]
theorem Res_t {E : List (Int × Int)} {A : List Pc} {p : Pc} (h : p ∈ Res E A) : ∃ a ∈ A, p.t = a.t := by
  unfold Res at h
  obtain ⟨a, ha, rfl⟩ := List.mem_map.1 h
  exact ⟨a, (List.mem_filter.1 ha).1, rfl⟩
theorem Res_best (E : List (Int × Int)) {Q : List Pc} {q : Pc} (hq : Q[bs Q]? = some q) (h : q.f = 999) : (Res E Q)[bs (Res E Q)]? = some (rst E q) ∧ (Res E Q).eraseIdx (bs (Res E Q)) = Res E (Q.eraseIdx (bs Q)) := by
  obtain ⟨A, B, rfl, hA, hB⟩ := bs_split hq
  rw [(bs_app hA hB).2.2, Res_app, Res_app, Res_yes E q B h]
  have h1 := bs_app (A := Res E A) (B := Res E B) (q := rst E q) (fun a ha => by
    obtain ⟨p, hp, e⟩ := Res_t ha
    rw [e]
    exact hA p hp) (fun b hb => by
    obtain ⟨p, hp, e⟩ := Res_t hb
    rw [e]
    exact hB p hp)
  exact h1.2
theorem Res_other (E : List (Int × Int)) {Q : List Pc} {q : Pc} (hq : Q[bs Q]? = some q) (h : q.f ≠ 999) : Res E (Q.eraseIdx (bs Q)) = Res E Q := by
  obtain ⟨A, B, rfl, hA, hB⟩ := bs_split hq
  rw [(bs_app hA hB).2.2, Res_app, Res_app, Res_no E q B h]
theorem Res_len (E : List (Int × Int)) (Q : List Pc) : (Res E Q).length ≤ Q.length := by
  unfold Res
  rw [List.length_map]
  exact List.length_filter_le _ _
/-- The texts of what waits tell the numbers. -/
def Gd (i : Nat) (Q : List Pc) : Prop := ∀ p ∈ Q, p.s = txt p.n.toNat ∧ 0 ≤ p.n ∧ p.n < (i : Int)
theorem Gd.erase {i : Nat} {Q : List Pc} (h : Gd i Q) (j : Nat) : Gd i (Q.eraseIdx j) := fun p hp => h p (List.mem_of_mem_eraseIdx hp)
end Go.Proofs.Ytgphdgalcbcamaa.LN
namespace Go.Proofs.Ytgphdgalcbcamaa
set_option maxRecDepth 100000
set_option linter.unusedVariables false
open Go.ChangeShapes Go.WideShapes Go.ChangeAt Go.RowKit Go.Joins Go.Deep
open LN (en rst nin Res Gd)
theorem nodes9 : nodeB 1000 999 = true ∧ nodeB 1000 0 = true ∧ nodeB 1000 1 = true := by decide
theorem Gd.send {T : List Tr} {nd at' f o : Int} {k : Nat} {Q : List Pc} (h : Gd k Q) : Gd (k + 1) (sendP T nd k at' f o (LN.txt k) Q) := by
  have hm : ∀ p ∈ Q, p.s = LN.txt p.n.toNat ∧ 0 ≤ p.n ∧ p.n < ((k + 1 : Nat) : Int) := fun p hp => by
    obtain ⟨h1, h2, h3⟩ := h p hp
    exact ⟨h1, h2, by omega⟩
  unfold sendP
  split
  · exact hm
  · intro p hp
    rcases List.mem_append.1 hp with hp | hp
    · exact hm p hp
    · obtain ⟨j, -, rfl⟩ := List.mem_map.1 hp
      show LN.txt k = LN.txt ((k : Int)).toNat ∧ (0 : Int) ≤ (k : Int) ∧ (k : Int) < ((k + 1 : Nat) : Int)
      exact ⟨by rw [Int.toNat_natCast], by omega, by omega⟩
/-- What was sent to plain lines, whether its ends are nodes or not; and to the others. -/
def nok (nd : Int) (e : Int × Int) : Bool := nodeB nd e.1 && nodeB nd e.2
def NQ (T : List Tr) (nd : Int) (E : List (Int × Int)) : Nat → List Pc
  | 0 => []
  | i + 1 => if nok nd (en E i) = true then sendP T 1000 i 0 999 999 (LN.txt i) (NQ T nd E i) else sendP T 1000 i 0 0 1 (LN.txt i) (NQ T nd E i)
def NP (T : List Tr) (nd : Int) (E : List (Int × Int)) : Nat → List Pc
  | 0 => []
  | i + 1 => sendP T nd i 0 (en E i).1 (en E i).2 (LN.txt i) (NP T nd E i)
theorem NQ_sn (T : List Tr) (nd : Int) (E : List (Int × Int)) : ∀ i, Sn (NQ T nd E i) i
  | 0 => Sn.nil
  | i + 1 => by
    unfold NQ
    split
    · exact (NQ_sn T nd E i).send T _ _ _ _ _
    · exact (NQ_sn T nd E i).send T _ _ _ _ _
theorem NP_sn (T : List Tr) (nd : Int) (E : List (Int × Int)) : ∀ i, Sn (NP T nd E i) i
  | 0 => Sn.nil
  | i + 1 => (NP_sn T nd E i).send T _ _ _ _ _
theorem NQ_gd (T : List Tr) (nd : Int) (E : List (Int × Int)) : ∀ i, Gd i (NQ T nd E i)
  | 0 => fun p hp => by cases hp
  | i + 1 => by
    unfold NQ
    split
    · exact Gd.send (NQ_gd T nd E i)
    · exact Gd.send (NQ_gd T nd E i)
theorem Res_cps_yes (E : List (Int × Int)) (a : Int) (k o c : Nat) (s : ByteArray) : Res E (cps a k 999 999 s c) = cps a k (en E k).1 (en E k).2 s c := by
  unfold Res cps
  rw [List.filter_eq_self.2 (fun p hp => by
    obtain ⟨j, -, rfl⟩ := List.mem_map.1 hp
    rfl), List.map_map]
  rfl
theorem Res_cps_no (E : List (Int × Int)) (a : Int) (k c : Nat) (s : ByteArray) : Res E (cps a k 0 1 s c) = [] := by
  unfold Res cps
  rw [List.filter_eq_nil_iff.2 (fun p hp => by
    obtain ⟨j, -, rfl⟩ := List.mem_map.1 hp
    show ¬ decide ((0 : Int) = 999) = true
    decide)]
  rfl
theorem NP_res (T : List Tr) (nd : Int) (E : List (Int × Int)) : ∀ i, Res E (NQ T nd E i) = NP T nd E i
  | 0 => rfl
  | i + 1 => by
    have ih := NP_res T nd E i
    unfold NQ NP
    by_cases h : nok nd (en E i) = true
    · rw [if_pos h]
      unfold nok at h
      rw [Bool.and_eq_true] at h
      unfold sendP
      rw [nodes9.1, h.1, h.2]
      cases (tro T i).l
      · show Res E (NQ T nd E i ++ cps _ i 999 999 _ _) = NP T nd E i ++ cps _ i _ _ _ _
        rw [LN.Res_app, Res_cps_yes E _ i 0, ih]
      · exact ih
    · rw [if_neg h]
      have hf : ((tro T i).l || !nodeB nd (en E i).1 || !nodeB nd (en E i).2) = true := by
        unfold nok at h
        rw [Bool.and_eq_true] at h
        cases h1 : nodeB nd (en E i).1
        · simp
        · cases h2 : nodeB nd (en E i).2
          · simp
          · exact absurd ⟨h1, h2⟩ h
      have e : sendP T nd i 0 (en E i).1 (en E i).2 (LN.txt i) (NP T nd E i) = NP T nd E i := by unfold sendP; rw [if_pos hf]
      rw [e]
      unfold sendP
      split
      · exact ih
      · rw [LN.Res_app, Res_cps_no, List.append_nil, ih]
/-- A row of messages that came, by their numbers. -/
def mgL (E : List (Int × Int)) (n : Nat) : List Value := [.int .i64 (en E n).1, .int .i64 (en E n).2, .string (LN.txt n)]
def mgs (E : List (Int × Int)) (ws : List Nat) : List Value := ws.flatMap (mgL E)
theorem mgL_len (E : List (Int × Int)) (n : Nat) : (mgL E n).length = 3 := rfl
theorem mgs_next (E : List (Int × Int)) (ws : List Nat) (n : Nat) : mgs E ws ++ mgL E n = mgs E (ws ++ [n]) := by unfold mgs; rw [List.flatMap_append]; simp
theorem info_ms : (Try.prog.info? 31).map (fun i => (i.zero, i.size, i.bytes)) = some (some (.agg #[.int .i64 0, .int .i64 0, .string ⟨#[]⟩]), 3, 32) := by kernel_rfl
/-- Two lines, and a row of messages beside them. -/
structure TwR (w : World) (m0 : Nat) (V : World) (M N : Nat) (n1 n2 : Int) (T1 T2 : List Tr) (k1 k2 : Nat) (P Q : List Pc) (v : Value) (n : Nat) (U : List Value) : Prop where
  out : ∃ F G, LS V M n1 T1 k1 P F ∧ LS V N n2 T2 k2 Q G ∧ (∀ b, F b → ¬ G b) ∧ (∀ b, F b → m0 ≤ b) ∧ (∀ b, G b → m0 ≤ b) ∧ ∀ q, v.ownBlock = some q → ¬ F q ∧ ¬ G q ∧ w.heap.size ≤ q
  row : V.ownsRow 0 31 3 v n U
  bel : Below w.heap.size w V
  le : w.heap.size ≤ m0
section
variable {w V V' : World} {m0 M N : Nat} {n1 n2 : Int} {T1 T2 : List Tr} {k1 k2 : Nat} {P Q R : List Pc} {v v' : Value} {n n' : Nat} {U U' : List Value}
theorem Two.row (h : Two w m0 V M N n1 n2 T1 T2 k1 k2 P Q) : TwR w m0 V M N n1 n2 T1 T2 k1 k2 P Q (.slice none 0 0) 0 [] := by
  obtain ⟨F, G, h1, h2, h3, h4, h5, h6, h7⟩ := h
  exact ⟨⟨F, G, h1, h2, h3, h4, h5, fun q e => by cases e⟩, World.ownsRow_nil _ _ _ _, h6, h7⟩
theorem TwR.below (h : TwR w m0 V M N n1 n2 T1 T2 k1 k2 P Q v n U) (hb : Below V.heap.size V V') : TwR w m0 V' M N n1 n2 T1 T2 k1 k2 P Q v n U := by
  obtain ⟨⟨F, G, h1, h2, h3, h4, h5, h6⟩, hr, hbl, hle⟩ := h
  exact ⟨⟨F, G, h1.below hb, h2.below hb, h3, h4, h5, h6⟩, own_below hr hb, bnext hbl hb, hle⟩
theorem TwR.swap (h : TwR w m0 V M N n1 n2 T1 T2 k1 k2 P Q v n U) : TwR w m0 V N M n2 n1 T2 T1 k2 k1 Q P v n U := by
  obtain ⟨⟨F, G, h1, h2, h3, h4, h5, h6⟩, hr, hbl, hle⟩ := h
  exact ⟨⟨G, F, h2, h1, fun b hg hf => h3 b hf hg, h5, h4, fun q e => ⟨(h6 q e).2.1, (h6 q e).1, (h6 q e).2.2⟩⟩, hr, hbl, hle⟩
theorem TwR.step {n3 : Int} {T3 : List Tr} {k3 : Nat} {F G : Nat → Prop} (h1 : LS V M n1 T1 k1 P F) (h2 : LS V N n2 T2 k2 Q G) (h3 : ∀ b, F b → ¬ G b) (h4 : ∀ b, F b → m0 ≤ b) (h5 : ∀ b, G b → m0 ≤ b) (h6 : ∀ q, v.ownBlock = some q → ¬ F q ∧ ¬ G q ∧ w.heap.size ≤ q) (hr : V.ownsRow 0 31 3 v n U) (hbl : Below w.heap.size w V) (hle : w.heap.size ≤ m0) (h : LSr V F V' M n3 T3 k3 R) : TwR w m0 V' M N n3 n2 T3 T2 k3 k2 R Q v n U := by
  obtain ⟨hf, F2, hl, hF2⟩ := h
  have hm : m0 ≤ V.heap.size := Nat.le_trans (h4 M h1.fM) (Nat.le_of_lt (h1.lt M h1.fM))
  refine ⟨⟨F2, G, hl, h2.kept hf (fun b hg hb => h3 b hb hg), fun b hb hg => ?_, fun b hb => (hF2 b hb).elim (h4 b) (fun h => Nat.le_trans hm h), h5, fun q e => ⟨fun hb => ?_, (h6 q e).2⟩⟩, hf.own hr (fun q e => (h6 q e).1), hf.below w hbl (fun b hb => Nat.le_trans hle (h4 b hb)), hle⟩
  · rcases hF2 b hb with h | h
    · exact h3 b h hg
    · have := h2.lt b hg
      omega
  · rcases hF2 q hb with h | h
    · exact (h6 q e).1 h
    · have := (hr.lt q e).2
      omega
theorem TwR.next1 (h : TwR w m0 V M N n1 n2 T1 T2 k1 k2 P Q v n U) (ho : LN.Ord P) (hl : P.length ≤ 100000) (p : Pc) (hp : P[LN.bs P]? = some p) : Calls Try.prog 20 #[ptr M] V fun x w' => x = .returned (.tuple #[msV p.f p.o p.s, .int .i64 p.t, .bool true]) ∧ TwR w m0 w' M N n1 n2 T1 T2 k1 k2 (P.eraseIdx (LN.bs P)) Q v n U := by
  obtain ⟨⟨F, G, h1, h2, h3, h4, h5, h6⟩, hr, hbl, hle⟩ := h
  exact (next_some h1.here ho hl p hp).mono fun x w' hx => ⟨hx.1, TwR.step h1 h2 h3 h4 h5 h6 hr hbl hle hx.2⟩
theorem TwR.next2 (h : TwR w m0 V M N n1 n2 T1 T2 k1 k2 P Q v n U) (ho : LN.Ord Q) (hl : Q.length ≤ 100000) (p : Pc) (hp : Q[LN.bs Q]? = some p) : Calls Try.prog 20 #[ptr N] V fun x w' => x = .returned (.tuple #[msV p.f p.o p.s, .int .i64 p.t, .bool true]) ∧ TwR w m0 w' M N n1 n2 T1 T2 k1 k2 P (Q.eraseIdx (LN.bs Q)) v n U :=
  (h.swap.next1 ho hl p hp).mono fun x w' hx => ⟨hx.1, hx.2.swap⟩
/-- The same, and what was made since is kept. -/
theorem TwR.next1k (h : TwR w m0 V M N n1 n2 T1 T2 k1 k2 P Q v n U) (hb : Below V.heap.size V V') (ho : LN.Ord P) (hl : P.length ≤ 100000) (p : Pc) (hp : P[LN.bs P]? = some p) : Calls Try.prog 20 #[ptr M] V' fun x w' => x = .returned (.tuple #[msV p.f p.o p.s, .int .i64 p.t, .bool true]) ∧ TwR w m0 w' M N n1 n2 T1 T2 k1 k2 (P.eraseIdx (LN.bs P)) Q v n U ∧ FrS (fun b => b < V.heap.size) V' w' := by
  obtain ⟨⟨F, G, h1, h2, h3, h4, h5, h6⟩, hr, hbl, hle⟩ := h
  exact (next_some (h1.below hb).here ho hl p hp).mono fun x w' hx => ⟨hx.1, TwR.step (h1.below hb) (h2.below hb) h3 h4 h5 h6 (own_below hr hb) (bnext hbl hb) hle hx.2, hx.2.1.mono h1.lt⟩
theorem TwR.none1 (h : TwR w m0 V M N n1 n2 T1 T2 k1 k2 [] Q v n U) : Calls Try.prog 20 #[ptr M] V fun x w' => x = .returned (.tuple #[ms0V, .int .i64 0, .bool false]) ∧ TwR w m0 w' M N n1 n2 T1 T2 k1 k2 [] Q v n U := by
  obtain ⟨⟨F, G, h1, h2, h3, h4, h5, h6⟩, hr, hbl, hle⟩ := h
  exact (next_none h1.here).mono fun x w' hx => ⟨hx.1, TwR.step h1 h2 h3 h4 h5 h6 hr hbl hle hx.2⟩
theorem TwR.none2 (h : TwR w m0 V M N n1 n2 T1 T2 k1 k2 P [] v n U) : Calls Try.prog 20 #[ptr N] V fun x w' => x = .returned (.tuple #[ms0V, .int .i64 0, .bool false]) ∧ TwR w m0 w' M N n1 n2 T1 T2 k1 k2 P [] v n U :=
  h.swap.none1.mono fun x w' hx => ⟨hx.1, hx.2.swap⟩
/-- The row has grown. -/
theorem TwR.grew (h : TwR w m0 V M N n1 n2 T1 T2 k1 k2 P Q v n U) (hr : V'.ownsRow 0 31 3 v' n' U') (hg : V.grownBy V' v.ownBlock) (hat : v'.ownBlock = v.ownBlock ∨ v'.ownBlock = some V.heap.size) : TwR w m0 V' M N n1 n2 T1 T2 k1 k2 P Q v' n' U' := by
  obtain ⟨⟨F, G, h1, h2, h3, h4, h5, h6⟩, hr0, hbl, hle⟩ := h
  have hf := FrS.grown (S := fun b => v.ownBlock = some b) hg (fun r e => e)
  refine ⟨⟨F, G, h1.kept hf (fun b hb e => (h6 b e).1 hb), h2.kept hf (fun b hb e => (h6 b e).2.1 hb), h3, h4, h5, fun q e => ?_⟩, hr, hf.below w hbl (fun b e => (h6 b e).2.2), hle⟩
  rcases hat with h | h
  · exact h6 q (h.symm.trans e)
  · have hq : V.heap.size = q := Option.some.inj (h.symm.trans e)
    subst hq
    exact ⟨fun hb => Nat.lt_irrefl _ (h1.lt _ hb), fun hb => Nat.lt_irrefl _ (h2.lt _ hb), hbl.size⟩
end
section
variable {w V V' : World} {m0 M N : Nat} {n1 n2 : Int} {T1 T2 : List Tr} {k1 k2 : Nat} {P Q R : List Pc}
theorem send_1k (h : Two w m0 V M N n1 n2 T1 T2 k1 k2 P Q) (hb : Below V.heap.size V V') (at' f o : Int) (s : ByteArray) (hk : k1 ≤ 1000000) (hl : P.length ≤ 90000) :
    Calls Try.prog 15 #[ptr M, .int .i64 at', msV f o s] V' fun x w' => x = .returned (.tuple #[]) ∧ Two w m0 w' M N n1 n2 T1 T2 (k1 + 1) k2 (sendP T1 n1 k1 at' f o s P) Q ∧ FrS (fun b => b < V.heap.size) V' w' := by
  obtain ⟨F, G, h1, h2, h3, h4, h5, h6, h7⟩ := h
  exact (send_any (h1.below hb).here at' f o s hk hl).mono fun x w' hx => ⟨hx.1, Two.step (h1.below hb) (h2.below hb) h3 h4 h5 (bnext h6 hb) h7 hx.2, hx.2.1.mono h1.lt⟩
theorem Res_ord {E : List (Int × Int)} (h : LN.Ord Q) : LN.Ord (Res E Q) := by
  unfold LN.Ord Res
  rw [List.pairwise_map]
  exact List.Pairwise.imp (fun h => h) (List.Pairwise.sublist List.filter_sublist h)
end
section
variable {H : Type} {enc : TypeId × Value → H} {W : World}
/-- A slice of ends. -/
def enL (e : Int × Int) : List Value := [.int .i64 e.1, .int .i64 e.2]
theorem enL_len (e : Int × Int) : (enL e).length = 2 := rfl
structure EnArg (W : World) (v : Value) (l : List (Int × Int)) : Prop where
  src : SrcN 2 W v l.length (l.flatMap enL)
  len : l.length ≤ maxLen
theorem EnArg.keep {W' : World} {v : Value} {l : List (Int × Int)} (h : EnArg W v l) (hb : Below W.heap.size W W') : EnArg W' v l := ⟨h.src.keep hb, h.len⟩
theorem en_field {n : Nat} {l : List Value} {y : DataW H × List MemPlace} (h : DataW.trod enc Try.prog W 0 (fun _ => true) true n 52 l = some y) : ∃ z : Int × Int, l = enL z := by
  obtain ⟨xs, m, _, _, hl, hn, hx⟩ := DataW.trod_array Try.underlying52 h
  have hC : Try.prog.cellsOf 52 = 2 := by kernel_rfl
  have hI : Try.prog.cellsOf 3 = 1 := by kernel_rfl
  have h0 := hx 0 (by omega)
  have h1 := hx 1 (by omega)
  rw [hC] at hl
  match l, hl, xs, hn, h0, h1 with
  | [x0, x1], _, [y0, y1], _, h0, h1 =>
    have k0 : DataW.trod enc Try.prog W 0 (fun _ => true) true m 3 [x0] = some y0 := by simpa [hI] using h0
    have k1 : DataW.trod enc Try.prog W 0 (fun _ => true) true m 3 [x1] = some y1 := by simpa [hI] using h1
    obtain ⟨a, e0, _, _⟩ := DataW.trod_int Try.underlying3 k0
    obtain ⟨b, e1, _, _⟩ := DataW.trod_int Try.underlying3 k1
    simp at e0 e1
    subst e0 e1
    exact ⟨(a, b), rfl⟩
theorem open_ends {base : Nat} {v : Value} {d : DataW H} {p : List MemPlace} (hv : Value.okWide Try.prog W .any base 50 v) (h : DataW.Trod enc Try.prog W 0 (fun _ => true) true 50 v d p) : ∃ l, EnArg W v l := by
  obtain ⟨a0, len0, cap0, rfl⟩ := okWide_slice Try.underlying50 hv
  obtain ⟨fuel, hf⟩ := h
  obtain ⟨v', l, e, h1, h2, h3⟩ := t_elems enL 2 (by omega) enL_len Try.underlying50 (by kernel_rfl) (fun n cs' y h => en_field h) hf
  simp [Value.cells] at e
  rw [e]
  exact ⟨l, h1, h2⟩
end
theorem en_at {W : World} {n c : Nat} {a : Option Addr} {E : List (Int × Int)} (h : SrcN 2 W (.slice a n c) n (E.flatMap enL)) (hn : E.length = n) {i : Nat} (hi : i < n) :
    ∃ g o, a = some ⟨g, o, none⟩ ∧ g < W.heap.size ∧ W.cell? ⟨g, o + i * 2, none⟩ = some (.int .i64 (en E i).1) ∧ W.cell? ⟨g, o + i * 2 + 1, none⟩ = some (.int .i64 (en E i).2) := by
  obtain ⟨ao, c', e1, hl, h1⟩ := h
  injection e1 with e1 _ _
  subst e1
  have hk : E[i]? = some (en E i) := by unfold en; rw [List.getD_eq_getElem?_getD, List.getElem?_eq_getElem (by omega)]; rfl
  rcases h1 with ⟨h1, _⟩ | ⟨g, o, rfl, hgl, hc⟩
  · omega
  · have q := fun (j : Nat) (u : Value) (hu : (enL (en E i))[j]? = some u) => hc (i * 2 + j) u (flat_at enL_len E i (en E i) j u hk hu)
    exact ⟨g, o, rfl, hgl, q 0 _ rfl, q 1 _ rfl⟩
theorem mg_at {W : World} {n c : Nat} {a : Option Addr} {E : List (Int × Int)} {ws : List Nat} (h : SrcN 3 W (.slice a n c) n (mgs E ws)) {i m : Nat} (hk : ws[i]? = some m) (hi : i < n) :
    ∃ g o, a = some ⟨g, o, none⟩ ∧ g < W.heap.size ∧ W.cell? ⟨g, o + i * 3, none⟩ = some (.int .i64 (en E m).1) ∧ W.cell? ⟨g, o + i * 3 + 1, none⟩ = some (.int .i64 (en E m).2) ∧ W.cell? ⟨g, o + i * 3 + 2, none⟩ = some (.string (LN.txt m)) := by
  obtain ⟨ao, c', e1, hl, h1⟩ := h
  injection e1 with e1 _ _
  subst e1
  rcases h1 with ⟨h1, _⟩ | ⟨g, o, rfl, hgl, hc⟩
  · omega
  · have q := fun (j : Nat) (u : Value) (hu : (mgL E m)[j]? = some u) => hc (i * 3 + j) u (flat_at (mgL_len E) ws i m j u hk hu)
    exact ⟨g, o, rfl, hgl, q 0 _ rfl, q 1 _ rfl, q 2 _ rfl⟩
theorem conv_at {W : World} {X : Nat} {k : Nat} {T : TypeId} (hb : W.heap[X]? = some (.cells #[.int .u8 (k : Int)] T (0, 0))) : Sem.run Try.prog (convert 40 9 (.slice (some ⟨X, 0, none⟩) 1 1)) W = .ok (.string (LN.txt k)) W := by
  have h := run_convert_bytes_string (P := Try.prog) W 40 9 5 (some ⟨X, 0, none⟩) 1 1 Try.underlying40 Try.underlying5 Try.underlying9
  rw [h]
  have hl := run_loadCells_list (P := Try.prog) W ⟨X, 0, none⟩ [.int .u8 (k : Int)] (fun j v hj => by
    match j, hj with
    | 0, hj =>
      simp at hj
      subst hj
      rw [Addr.add_lit]
      exact nd_cell hb rfl
    | j + 1, hj => simp at hj)
  exact run_bytesToString _ _ 1 1 [(k : Int)] hl
theorem txt_size (m : Nat) : 0 < (LN.txt m).size := by unfold LN.txt; simp [ByteArray.size_push]
theorem txt_head (m : Nat) (h : m < 256) (hz : 0 < (LN.txt m).size) : ((LN.txt m)[0]'hz).toNat = m := by
  have e : (LN.txt m)[0]'hz = UInt8.ofNat m := by
    unfold LN.txt
    rfl
  rw [e, UInt8.toNat_ofNat']
  omega
theorem wrap_nat (m : Nat) (h : m < 256) : wrap64 (m : Int) = (m : Int) := by
  exact IntWalk.wrap64_in _ (by omega)
end Go.Proofs.Ytgphdgalcbcamaa
