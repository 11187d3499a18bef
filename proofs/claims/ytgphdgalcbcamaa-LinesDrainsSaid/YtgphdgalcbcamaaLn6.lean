/- Parcels are added, and taken. No conditions. -/
import Derived.Test.YtgphdgalcbcamaaLn5
namespace Go.Proofs.Ytgphdgalcbcamaa.LN
set_option linter.unusedVariables false
/-- The place of the first one of the least. -/
def bst : List Int → Nat
  | [] => 0
  | x :: l => if l.all (fun y => decide (x ≤ y)) then 0 else bst l + 1
theorem bst_spec : ∀ (l : List Int), l ≠ [] → ∃ m, l[bst l]? = some m ∧ (∀ (i : Nat) (y : Int), i < bst l → l[i]? = some y → m < y) ∧ ∀ (i : Nat) (y : Int), l[i]? = some y → m ≤ y
  | [], h => absurd rfl h
  | x :: l, _ => by
    unfold bst
    split
    · rename_i h
      refine ⟨x, rfl, fun i y hi _ => absurd hi (by omega), fun i y hy => ?_⟩
      cases i with
      | zero =>
        obtain rfl : x = y := by simpa using hy
        exact Int.le_refl _
      | succ i =>
        have hm : y ∈ l := List.mem_of_getElem? (by simpa using hy)
        exact of_decide_eq_true (List.all_eq_true.1 h y hm)
    · rename_i h
      have hl : l ≠ [] := fun e => h (by rw [e]; rfl)
      obtain ⟨m, h1, h2, h3⟩ := bst_spec l hl
      have hxm : m < x := by
        have : ∃ y ∈ l, y < x := by
          have h4 : ¬ ∀ y ∈ l, x ≤ y := fun g => h (List.all_eq_true.2 fun y hy => decide_eq_true (g y hy))
          obtain ⟨y, hy⟩ := Classical.not_forall.1 h4
          have hy2 := Classical.not_imp.1 hy
          exact ⟨y, hy2.1, by omega⟩
        obtain ⟨y, hy, hyx⟩ := this
        obtain ⟨i, hi⟩ := List.getElem?_of_mem hy
        have := h3 i y hi
        omega
      refine ⟨m, by simpa using h1, fun i y hi hy => ?_, fun i y hy => ?_⟩
      · cases i with
        | zero =>
          obtain rfl : x = y := by simpa using hy
          exact hxm
        | succ i => exact h2 i y (by omega) (by simpa using hy)
      · cases i with
        | zero =>
          obtain rfl : x = y := by simpa using hy
          omega
        | succ i => exact h3 i y (by simpa using hy)
/-- In the order in which they were sent. -/
def Ord (P : List Pc) : Prop := P.Pairwise fun p q => p.n < q.n ∨ (p.n = q.n ∧ p.t < q.t)
def bs (P : List Pc) : Nat := bst (P.map Pc.t)
theorem bs_some {P : List Pc} (h : P ≠ []) : ∃ p, P[bs P]? = some p := by
  obtain ⟨m, h1, -⟩ := bst_spec (P.map Pc.t) (by simpa using h)
  rw [List.getElem?_map, Option.map_eq_some_iff] at h1
  obtain ⟨p, hp, -⟩ := h1
  exact ⟨p, hp⟩
theorem bs_min {P : List Pc} {p b : Pc} {C : List Pc} (ho : Ord P) (hp : P.Perm (p :: C)) (hm : ∀ q ∈ C, le p q) (hb : P[bs P]? = some b) : b = p ∧ (P.eraseIdx (bs P)).Perm C := by
  have hne : P ≠ [] := fun e => by rw [e] at hb; simp at hb
  obtain ⟨m, h1, h2, h3⟩ := bst_spec (P.map Pc.t) (by simpa using hne)
  rw [show bst (P.map Pc.t) = bs P from rfl] at h1 h2
  rw [List.getElem?_map, hb] at h1
  obtain rfl : b.t = m := by simpa using h1
  have hlb := (List.getElem?_eq_some_iff.1 hb).1
  obtain ⟨i, hi⟩ := List.getElem?_of_mem (hp.symm.subset (List.mem_cons_self))
  have hib : (P.map Pc.t)[i]? = some p.t := by rw [List.getElem?_map, hi]; rfl
  have hle : le p b := by
    rcases List.mem_cons.1 (hp.subset (List.mem_of_getElem? hb)) with e | e
    · rw [e]
      exact le_refl _
    · exact hm b e
  have hii : i = bs P := by
    rcases Nat.lt_trichotomy i (bs P) with h | h | h
    · have := h2 i p.t h hib
      unfold le at hle
      omega
    · exact h
    · have hli := (List.getElem?_eq_some_iff.1 hi).1
      have := (List.pairwise_iff_getElem.1 ho) (bs P) i hlb hli h
      rw [(List.getElem?_eq_some_iff.1 hb).2, (List.getElem?_eq_some_iff.1 hi).2] at this
      have h4 := h3 i p.t hib
      unfold le at hle
      omega
  subst hii
  rw [hb] at hi
  obtain rfl : b = p := by simpa using hi
  refine ⟨rfl, ?_⟩
  have hpe : (b :: P.eraseIdx (bs P)).Perm P := by
    have hd : P = P.take (bs P) ++ b :: P.drop (bs P + 1) := by
      have h1 := List.drop_eq_getElem_cons hlb
      rw [(List.getElem?_eq_some_iff.1 hb).2] at h1
      rw [← h1, List.take_append_drop]
    rw [List.eraseIdx_eq_take_drop_succ]
    exact List.perm_middle.symm.trans (List.Perm.of_eq hd.symm)
  exact (List.perm_cons b).1 (hpe.trans hp)
end Go.Proofs.Ytgphdgalcbcamaa.LN
namespace Go.Proofs.Ytgphdgalcbcamaa
set_option maxRecDepth 100000
set_option linter.unusedVariables false
open Go.RowKit Go.Deep
theorem results_ct {P : Program} {fn : Func} {p u : Tmp} {ty : TypeId} (h : fn.results = #[.cell p ty, .tmp u]) (tmps : Array Value) (w : World) (g : Nat) (t : TypeId) (cs : Array Value) (fr : Nat × Nat) (d : TypeDesc)
    (hp : tmps.getD p undef = .pointer (some ⟨g, 0, none⟩)) (hg : w.heap[g]? = some (.cells cs t fr))
    (hu : P.underlying ty = some d) (hd : (match d with | .struct _ | .array _ _ => true | _ => false) = true) (hi : (P.info? ty).map (·.size) = some cs.size) :
    (results fn tmps).run P w = .ok (.tuple #[.agg cs, tmps.getD u undef]) w := by
  have hp' : tmps[p]?.getD undef = .pointer (some ⟨g, 0, none⟩) := by simpa using hp
  simp [results, h, hp', asAddr, run_loadVar_row w g t ty cs fr d hg hu hd hi]
theorem results_ctt {P : Program} {fn : Func} {p u v : Tmp} {ty : TypeId} (h : fn.results = #[.cell p ty, .tmp u, .tmp v]) (tmps : Array Value) (w : World) (g : Nat) (t : TypeId) (cs : Array Value) (fr : Nat × Nat) (d : TypeDesc)
    (hp : tmps.getD p undef = .pointer (some ⟨g, 0, none⟩)) (hg : w.heap[g]? = some (.cells cs t fr))
    (hu : P.underlying ty = some d) (hd : (match d with | .struct _ | .array _ _ => true | _ => false) = true) (hi : (P.info? ty).map (·.size) = some cs.size) :
    (results fn tmps).run P w = .ok (.tuple #[.agg cs, tmps.getD u undef, tmps.getD v undef]) w := by
  have hp' : tmps[p]?.getD undef = .pointer (some ⟨g, 0, none⟩) := by simpa using hp
  simp [results, h, hp', asAddr, run_loadVar_row w g t ty cs fr d hg hu hd hi]
theorem set5 {w : World} {X : Nat} {u0 u1 u2 u3 u4 : Value} {T : TypeId} (h : w.heap[X]? = some (.cells #[u0, u1, u2, u3, u4] T (0, 0))) (a b c d e : Value) :
    ∃ V, ((((w.setCell ⟨X, 0, none⟩ a).setCell ⟨X, 1, none⟩ b).setCell ⟨X, 2, none⟩ c).setCell ⟨X, 3, none⟩ d).setCell ⟨X, 4, none⟩ e = V ∧ V.heap[X]? = some (.cells #[a, b, c, d, e] T (0, 0)) ∧ FrS (fun y => y = X) w V := by
  have s := fun (V : World) (i : Nat) (u : Value) => FrS.set (S := fun b => b = X) V (b := X) (i := i) rfl u
  refine ⟨_, rfl, ?_, ((((s _ _ _).trans (s _ _ _)).trans (s _ _ _)).trans (s _ _ _)).trans (s _ _ _)⟩
  exact heap_setCell_same _ X 4 _ T e (heap_setCell_same _ X 3 _ T d (heap_setCell_same _ X 2 _ T c (heap_setCell_same _ X 1 _ T b (heap_setCell_same w X 0 _ T a h))))
theorem set3 {w : World} {X : Nat} {u0 u1 u2 : Value} {T : TypeId} (h : w.heap[X]? = some (.cells #[u0, u1, u2] T (0, 0))) (a b c : Value) :
    ∃ V, ((w.setCell ⟨X, 0, none⟩ a).setCell ⟨X, 1, none⟩ b).setCell ⟨X, 2, none⟩ c = V ∧ V.heap[X]? = some (.cells #[a, b, c] T (0, 0)) ∧ FrS (fun y => y = X) w V := by
  have s := fun (V : World) (i : Nat) (u : Value) => FrS.set (S := fun b => b = X) V (b := X) (i := i) rfl u
  refine ⟨_, rfl, ?_, ((s _ _ _).trans (s _ _ _)).trans (s _ _ _)⟩
  exact heap_setCell_same _ X 2 _ T c (heap_setCell_same _ X 1 _ T b (heap_setCell_same w X 0 _ T a h))
section
variable {W w w' : World} {M : Nat} {nd : Int} {T : List Tr} {k k' : Nat} {P Q : List Pc} {F F' S : Nat → Prop}
theorem lpush_s (p : Pc) (h : LSr W F w M nd T k P) (hl : P.length ≤ 100000) : Calls Try.prog 30 #[qi M, .iface 70 (pcV p)] w fun x w' => x = .returned (.tuple #[]) ∧ LSr W F w' M nd T k (P ++ [p]) := by
  obtain ⟨f, F', ⟨⟨sc, v, A, hq, hp, hh, hv, hs, hsf⟩, fM, lt⟩, h3⟩ := h
  refine (hpush_any w M nd sc k v A hq p (by rw [hp.length_eq]; exact hl) hh).mono ?_
  rintro x w' ⟨rfl, v', C, hq', hp', hh', ho, hf⟩
  have hfF : FrS F' w w' := hf.mono (fun b hb => by rcases hb with rfl | hb; exact fM; exact hv b hb)
  have hMs : ∀ b, sc.ownBlock = some b → ¬ (b = M ∨ v.ownBlock = some b) := fun b e h => by
    have h1 := (hsf b e).1
    rcases h with h | h
    · omega
    · have := (hq.row.lt b h).1
      omega
  refine ⟨rfl, LSr.glue f h3 ⟨hfF, fun b => F' b ∨ (w.heap.size ≤ b ∧ b < w'.heap.size), ⟨⟨sc, v', C, hq', hp'.trans (hp.append_right [p]), hh', fun b e => ?_, hf.own hs hMs, fun b e => ⟨(hsf b e).1, .inl (hsf b e).2⟩⟩, .inl fM, fun b hb => ?_⟩, fun b hb => hb.elim .inl (fun x => .inr x.1)⟩⟩
  · rcases ho with ho | ho
    · exact .inl (hv b (ho.symm.trans e))
    · exact .inr ⟨ho b e, (hq'.row.lt b e).2⟩
  · rcases hb with hb | hb
    · exact Nat.lt_of_lt_of_le (lt b hb) hf.size
    · exact hb.2
theorem lpop_s (h : LSr W F w M nd T k P) (hne : P ≠ []) (hl : P.length ≤ 100000) : Calls Try.prog 31 #[qi M] w fun x w' => ∃ p C, x = .returned (.iface 70 (pcV p)) ∧ P.Perm (p :: C) ∧ (∀ q ∈ C, LN.le p q) ∧ LSr W F w' M nd T k C := by
  obtain ⟨f, F', ⟨⟨sc, v, A, hq, hp, hh, hv, hs, hsf⟩, fM, lt⟩, h3⟩ := h
  have hlA : A.length = P.length := hp.length_eq
  have hP : 0 < P.length := List.length_pos_iff.2 hne
  refine (hpop_any w M nd sc k v A hq (by omega) (by omega) hh).mono ?_
  rintro x w' ⟨p, C, v', rfl, hp', hm, hq', hh', ho, hf⟩
  have hfF : FrS F' w w' := hf.mono (fun b hb => by rcases hb with rfl | hb; exact fM; exact hv b hb)
  have hMs : ∀ b, sc.ownBlock = some b → ¬ (b = M ∨ v.ownBlock = some b) := fun b e h => by
    have h1 := (hsf b e).1
    rcases h with h | h
    · omega
    · have := (hq.row.lt b h).1
      omega
  exact ⟨p, C, rfl, hp.symm.trans hp', hm, LSr.glue f h3 ⟨hfF, F', ⟨⟨sc, v', C, hq', List.Perm.refl _, hh', fun b e => hv b (ho.symm.trans e), hf.own hs hMs, hsf⟩, fM, fun b hb => Nat.lt_of_lt_of_le (lt b hb) hf.size⟩, fun b hb => .inl hb⟩⟩
theorem lempty_s (h : LSr W F w M nd T k P) (n : Nat) (hn : P.length = n) : Calls Try.prog 55 #[qp M] w fun x w' => x = .returned (.bool ((n : Int) == 0)) ∧ w' = w := by
  obtain ⟨f, F', ⟨⟨sc, v, A, hq, hp, hh, hv, hs, hsf⟩, fM, lt⟩, h3⟩ := h
  exact empty_any w M nd sc k v A hq n (by rw [hp.length_eq]; exact hn)
theorem LSr.perm (h : LSr W F w M nd T k P) (hp : P.Perm Q) : LSr W F w M nd T k Q := by
  obtain ⟨f, F', ⟨⟨sc, v, A, hq, hp', rest⟩, fM, lt⟩, h3⟩ := h
  exact ⟨f, F', ⟨⟨sc, v, A, hq, hp'.trans hp, rest⟩, fM, lt⟩, h3⟩
set_option maxHeartbeats 2000000 in
theorem add_any (h : LSr W F w M nd T k P) (L : List Pc) (a : Option Addr) (n c : Nat) (hn : L.length = n) (hs : ∀ V, FrS F W V → SrcN 5 V (.slice a n c) n (pcs L)) (hl : P.length + n ≤ 100000) :
    Calls Try.prog 28 #[qi M, .slice a n c] w fun x w' => x = .returned (.tuple #[]) ∧ LSr W F w' M nd T k (P ++ L) := by
  have HH := Lib.hid h
  have HS := Lib.hid hs
  have HN := Lib.hid hn
  clear h hs hn
  go_enter Try.func28, Try.ntmps28
  go_wp2
  go_loopw [8] (fun v8 wr => ∃ i : Nat, v8 = .int .i64 (i : Int) ∧ i ≤ n ∧ Hid (LSr W F wr M nd T k (P ++ L.take i))) (fun v _ => n - (intOf v).toNat)
  case atStart => exact ⟨0, rfl, Nat.zero_le _, Lib.hid (by rw [List.take_zero, List.append_nil]; exact HH.out)⟩
  case round =>
    obtain ⟨i, rfl, hi, HR⟩ := hrel
    by_cases hin : i < n
    · have hii : (i : Int) < (n : Int) := by omega
      have hi0 : (0 : Int) ≤ (i : Int) := by omega
      obtain ⟨p, hp⟩ : ∃ p, L[i]? = some p := ⟨_, List.getElem?_eq_getElem (by rw [HN.out]; exact hin)⟩
      obtain ⟨g, o, rfl, hgl, k0, k1, k2, k3, k4⟩ := pc_at (HS.out wr HR.out.1) hp hin
      have HT : Hid (P ++ L.take (i + 1) = P ++ L.take i ++ [p]) := Lib.hid (by rw [List.take_add_one, hp, List.append_assoc]; rfl)
      have hpu := lpush_s p (HR.out.below (balloc (Below.refl _ wr) (.cells #[.int .i64 p.t, .int .i64 p.n, .int .i64 p.f, .int .i64 p.o, .string p.s] 70))) (by rw [List.length_append, List.length_take]; omega)
      rw [← HT.out] at hpu
      have HPU := Lib.hid hpu
      clear hp hpu hgl
      go_wp2_with fail
      go_at_call 30
      refine HPU.out.mono ?_
      rintro x w4 ⟨rfl, h4⟩
      have H4 := Lib.hid h4
      clear h4 k0 k1 k2 k3 k4
      go_wp2
      go_roundw
      case rel => exact ⟨i + 1, by go_num, hin, H4⟩
      case measure => simp [intOf]; omega
    · have hii : ¬ (i : Int) < (n : Int) := by omega
      have HE : Hid (LSr W F wr M nd T k (P ++ L)) := Lib.hid (by have h := HR.out; rw [List.take_of_length_le (by have := HN.out; omega)] at h; exact h)
      clear hin hi
      go_wp2
      go_end0
      exact ⟨rfl, HE.out⟩
abbrev pc0V : Value := .agg #[.int .i64 0, .int .i64 0, .int .i64 0, .int .i64 0, .string ⟨#[]⟩]
set_option maxHeartbeats 2000000 in
theorem take_none (h : LSr W F w M nd T k []) : Calls Try.prog 29 #[qi M] w fun x w' => x = .returned (.tuple #[pc0V, .bool false]) ∧ LSr W F w' M nd T k [] := by
  have HE := Lib.hid (lempty_s (h.below (balloc (Below.refl _ w) (.cells #[.int .i64 0, .int .i64 0, .int .i64 0, .int .i64 0, .string ⟨#[]⟩] 70))) 0 rfl)
  have HF := Lib.hid (h.below (balloc (Below.refl _ w) (.cells #[.int .i64 0, .int .i64 0, .int .i64 0, .int .i64 0, .string ⟨#[]⟩] 70)))
  have HX := Lib.hid (heap_alloc_new w (.cells #[.int .i64 0, .int .i64 0, .int .i64 0, .int .i64 0, .string ⟨#[]⟩] 70))
  clear h
  go_enter Try.func29, Try.ntmps29
  go_wp2_with fail
  go_at_call 55
  refine HE.out.mono ?_
  rintro x w4 ⟨rfl, he⟩
  have he' := he.symm
  subst he'
  go_wp2
  refine bodyPost_ret (v := .tuple #[pc0V, .bool false]) (results_ct Try.results29 _ _ w.heap.size 70 _ (0, 0) _ rfl HX.out Try.underlying70 rfl (by kernel_rfl)) rfl ⟨rfl, ?_⟩
  exact HF.out
end
end Go.Proofs.Ytgphdgalcbcamaa
