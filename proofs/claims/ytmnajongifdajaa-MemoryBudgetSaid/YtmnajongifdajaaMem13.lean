/- A memory makes room. No conditions. -/
import Derived.Test.YtmnajongifdajaaMem12
import Derived.Test.YtmnajongifdajaaAppN
import Derived.Test.YtmnajongifdajaaLastIn
import Derived.Test.YtmnajongifdajaaMarks
import Derived.Test.YtmnajongifdajaaRoundIn
namespace Go.Proofs.Ytmnajongifdajaa.ME
set_option linter.unusedVariables false
def kyL (k : K4) : List Value := [.int .i64 k.1, .int .i64 k.2.1, .int .i64 k.2.2.1, .int .i64 k.2.2.2]
def kc (l : List K4) : List Value := l.flatMap kyL
theorem kc_app (a b : List K4) : kc (a ++ b) = kc a ++ kc b := List.flatMap_append
theorem kc_one (k : K4) : kc [k] = kyL k := by simp [kc]
theorem kyL_len (k : K4) : (kyL k).length = 4 := rfl
/-- Room is made: what stays, and what is given up. -/
def roomN (bu : Int) : Int → List (Nat × En) → List (Nat × En) × List K4
  | _, [] => ([], [])
  | tot, x :: R => if tot ≤ bu then (x :: R, []) else if x.2.pin = true then (x :: (roomN bu tot R).1, (roomN bu tot R).2) else ((roomN bu (tot - x.2.size) R).1, x.2.key :: (roomN bu (tot - x.2.size) R).2)
theorem roomN_stop {bu tot : Int} {R : List (Nat × En)} (h : tot ≤ bu ∨ R = []) : roomN bu tot R = (R, []) := by
  cases R with
  | nil => rfl
  | cons x R =>
    unfold roomN
    rw [if_pos (h.resolve_right (by simp))]
theorem roomN_pin {bu tot : Int} {x : Nat × En} {R : List (Nat × En)} (h : ¬ tot ≤ bu) (hp : x.2.pin = true) : roomN bu tot (x :: R) = (x :: (roomN bu tot R).1, (roomN bu tot R).2) := by
  rw [roomN, if_neg h, if_pos hp]
theorem roomN_gone {bu tot : Int} {x : Nat × En} {R : List (Nat × En)} (h : ¬ tot ≤ bu) (hp : x.2.pin = false) : roomN bu tot (x :: R) = ((roomN bu (tot - x.2.size) R).1, x.2.key :: (roomN bu (tot - x.2.size) R).2) := by
  rw [roomN, if_neg h, if_neg (by rw [hp]; decide)]
end Go.Proofs.Ytmnajongifdajaa.ME
namespace Go.Proofs.Ytmnajongifdajaa
set_option maxRecDepth 100000
set_option linter.unusedVariables false
open Go.RowKit Go.Shelf Go.Deep
attribute [local go_sem] Oper.semAt_some
theorem FrS.grown {S : Nat → Prop} {W W' : World} {row : Option Nat} (hg : W.grownBy W' row) (h : ∀ r, row = some r → S r) : FrS S W W' :=
  ⟨hg.size, fun b h1 h2 => hg.block b h1 (fun e => h2 (h b e.symm)), fun U h1 h2 => h1.grown hg h1.size (fun r e => h2 r (h r e))⟩
theorem FrS.next {S T : Nat → Prop} {A B C : World} (h : FrS S A B) (k : FrS T B C) (hT : ∀ b, T b → A.heap.size ≤ b) : FrS S A C :=
  ⟨Nat.le_trans h.size k.size, fun b h1 h2 => (k.block b (Nat.lt_of_lt_of_le h1 h.size) (fun x => by have := hT b x; omega)).trans (h.block b h1 h2), fun U h1 h2 => k.below U (h.below U h1 h2) (fun b hb => Nat.le_trans h1.size (hT b hb))⟩
theorem FrS.then {S : Nat → Prop} {A B C : World} (h : FrS S A B) (k : Below B.heap.size B C) : FrS S A C := h.next (FrS.of (S := fun _ => False) k) (fun _ x => x.elim)
theorem FrS.own {S : Nat → Prop} {A B : World} {N e k n : Nat} {v : Value} {U : List Value} (h : FrS S A B) (ho : A.ownsRow N e k v n U) (hv : ∀ q, v.ownBlock = some q → ¬ S q) : B.ownsRow N e k v n U := by
  refine ⟨ho.1, ?_⟩
  rcases ho.2 with h1 | ⟨g, cap, cur, rfl, hb, hg, rest⟩
  · exact .inl h1
  · refine .inr ⟨g, cap, cur, rfl, hb, ?_, rest⟩
    rw [h.block g (Array.getElem?_eq_some_iff.1 hg).1 (hv g rfl)]
    exact hg
theorem FrS.keepsFrom {S : Nat → Prop} {A B : World} (h : FrS S A B) (N : Nat) (hN : ∀ b o, S b → N ≤ b → A.heap[b]? = some o → o.isCells = true) : KeepsFrom N A B :=
  ⟨h.size, fun k o hk ho hc => (h.block k (Array.getElem?_eq_some_iff.1 ho).1 (fun x => by have := hN k o x hk ho; rw [hc] at this; cases this)).trans ho⟩
theorem info_ow : (Try.prog.info? 34).map (fun i => (i.zero, i.size, i.bytes)) = some (some (.agg #[.int .i64 0, .int .i64 0, .int .i64 0, .int .i64 0]), 4, 32) := by kernel_rfl
theorem three (w : World) (o0 o1 o2 : Obj) (B : Nat) (hB : w.heap.size = B) : ∃ W0, ((w.alloc o0).alloc o1).alloc o2 = W0 ∧ W0.heap[B]? = some o0 ∧ W0.heap[B + 1]? = some o1 ∧ W0.heap[B + 2]? = some o2 ∧ Below B w W0 ∧ W0.heap.size = B + 3 := by
  subst hB
  have a0 := heap_alloc_new w o0
  have a1 := heap_alloc_new (w.alloc o0) o1
  have a2 := heap_alloc_new ((w.alloc o0).alloc o1) o2
  simp only [World.size_alloc] at a1 a2
  refine ⟨_, rfl, ?_, ?_, a2, balloc (balloc (balloc (Below.refl _ _) _) _) _, by simp⟩
  · exact (Below.heap_alloc _ _ _ (by simp; omega)).trans ((Below.heap_alloc _ _ _ (by simp)).trans a0)
  · exact (Below.heap_alloc _ _ _ (by simp)).trans a1
/-- What a round of making room keeps. -/
structure RmI (w W : World) (B M mb root : Nat) (bu s : Int) (n : Nat) (F : Nat → Prop) (L A R : List (Nat × En)) (G : List K4) (v : Value) : Prop where
  mm : MmAt W M mb root bu (A ++ R) n F
  ok : ME.Ok bu ((A ++ R).map Prod.snd)
  res : ME.roomN bu (ME.sm (L.map Prod.snd) + s) L = (A ++ (ME.roomN bu (ME.sm ((A ++ R).map Prod.snd) + s) R).1, G ++ (ME.roomN bu (ME.sm ((A ++ R).map Prod.snd) + s) R).2)
  b0 : W.heap[B]? = some (.cells #[ptr M] 24 (0, 0))
  b1 : W.heap[B + 1]? = some (.cells #[.int .i64 s] 3 (0, 0))
  b2 : W.heap[B + 2]? = some (.cells #[v] 43 (0, 0))
  b3 : W.heap[B + 3]? = some (.cells #[ptr root] 63 (0, 0))
  row : W.ownsRow (B + 4) 34 4 v G.length (ME.kc G)
  fr : FrS F w W
  len : G.length + R.length ≤ L.length
theorem FrS.drewN {S : Nat → Prop} (W : World) (n : Nat) : FrS S W (W.drewN n) := ⟨Nat.le_refl _, fun _ _ _ => rfl, fun _ h _ => ⟨h.os, h.tape, h.output, h.size, h.block⟩⟩
theorem keepsFrom_drewN (N : Nat) (W : World) (n : Nat) : KeepsFrom N W (W.drewN n) := ⟨Nat.le_refl _, fun _ _ _ h _ => h⟩
theorem RmI.keep {w W W' : World} {B M mb root : Nat} {bu s : Int} {n : Nat} {F S : Nat → Prop} {L A R : List (Nat × En)} {G : List K4} {v : Value} (h : RmI w W B M mb root bu s n F L A R G v) (hw : w.heap.size = B) (hF : ∀ b, F b → b < B) (hf : FrS S W W') (hS : ∀ b, S b → B + 4 ≤ b ∧ v.ownBlock ≠ some b) : RmI w W' B M mb root bu s n F L A R G v := by
  have k : ∀ b, b < B + 4 → ∀ o, W.heap[b]? = some o → W'.heap[b]? = some o := fun b hb o ho => (hf.block b (Array.getElem?_eq_some_iff.1 ho).1 (fun x => by have := (hS b x).1; omega)).trans ho
  exact ⟨h.mm.kept hf (fun b hb x => by have := hF b hb; have := (hS b x).1; omega), h.ok, h.res, k _ (by omega) _ h.b0, k _ (by omega) _ h.b1, k _ (by omega) _ h.b2, k _ (by omega) _ h.b3,
    hf.own h.row (fun q e x => (hS q x).2 e), h.fr.next hf (fun b hb => by have := (hS b hb).1; omega), h.len⟩
theorem one_cell {X : World} {B : Nat} {a : Value} {t : TypeId} (h : X.heap[B]? = some (.cells #[a] t (0, 0))) : X.cell? ⟨B, 0, none⟩ = some a := by simp [World.cell?, h]
/-- What is left, when room has been made. -/
structure RmF (w W : World) (B M mb root : Nat) (bu s : Int) (n : Nat) (F : Nat → Prop) (L : List (Nat × En)) (v : Value) : Prop where
  mm : MmAt W M mb root bu (ME.roomN bu (ME.sm (L.map Prod.snd) + s) L).1 n F
  ok : ME.Ok bu ((ME.roomN bu (ME.sm (L.map Prod.snd) + s) L).1.map Prod.snd)
  b2 : W.heap[B + 2]? = some (.cells #[v] 43 (0, 0))
  row : W.ownsRow (B + 4) 34 4 v (ME.roomN bu (ME.sm (L.map Prod.snd) + s) L).2.length (ME.kc (ME.roomN bu (ME.sm (L.map Prod.snd) + s) L).2)
  fr : FrS F w W
theorem RmI.fin {w W : World} {B M mb root : Nat} {bu s : Int} {n : Nat} {F : Nat → Prop} {L A R : List (Nat × En)} {G : List K4} {v : Value} (h : RmI w W B M mb root bu s n F L A R G v) (hs : ME.sm ((A ++ R).map Prod.snd) + s ≤ bu ∨ R = []) : RmF w W B M mb root bu s n F L v := by
  have hr := h.res
  rw [ME.roomN_stop hs] at hr
  rw [List.append_nil] at hr
  exact ⟨by rw [hr]; exact h.mm, by rw [hr]; exact h.ok, h.b2, by rw [hr]; exact h.row, h.fr⟩
theorem RmF.keep {w W W' : World} {B M mb root : Nat} {bu s : Int} {n : Nat} {F S : Nat → Prop} {L : List (Nat × En)} {v : Value} (h : RmF w W B M mb root bu s n F L v) (hw : w.heap.size = B) (hF : ∀ b, F b → b < B) (hf : FrS S W W') (hS : ∀ b, S b → B + 4 ≤ b ∧ v.ownBlock ≠ some b) : RmF w W' B M mb root bu s n F L v :=
  ⟨h.mm.kept hf (fun b hb x => by have := hF b hb; have := (hS b x).1; omega), h.ok, (hf.block (B + 2) (Array.getElem?_eq_some_iff.1 h.b2).1 (fun x => by have := (hS _ x).1; omega)).trans h.b2,
    hf.own h.row (fun q e x => (hS q x).2 e), h.fr.next hf (fun b hb => by have := (hS b hb).1; omega)⟩
theorem own_notobj {W : World} {N e k n q : Nat} {v : Value} {U : List Value} {o : Obj} (h : W.ownsRow N e k v n U) (ho : W.heap[q]? = some o) (hc : o.isCells = false) : v.ownBlock ≠ some q := by
  rcases h.2 with ⟨rfl, _⟩ | ⟨g, cap, cur, rfl, _, hg, _⟩
  · simp [Value.ownBlock]
  · intro e
    obtain rfl : g = q := by simpa [Value.ownBlock] using e
    rw [hg] at ho
    cases ho
    cases hc
set_option maxHeartbeats 8000000 in
theorem room_in (m : Nat) (hm : 3 ≤ m) (w : World) (M mb root : Nat) (bu s : Int) (L : List (Nat × En)) (n : Nat) (F : Nat → Prop) (h : MmAt w M mb root bu L n F) (ok : ME.Ok bu (L.map Prod.snd)) (hs0 : 0 ≤ s) (hs1 : s ≤ 65536) (hlen : L.length ≤ 1000000) :
    CallsIn Fence.wide m Try.prog 33 #[ptr M, .int .i64 s] w fun e W' => ∃ v, e = .returned v ∧ MmAt W' M mb root bu (ME.roomN bu (ME.sm (L.map Prod.snd) + s) L).1 n F ∧ ME.Ok bu ((ME.roomN bu (ME.sm (L.map Prod.snd) + s) L).1.map Prod.snd) ∧
      W'.ownsRow w.heap.size 34 4 v (ME.roomN bu (ME.sm (L.map Prod.snd) + s) L).2.length (ME.kc (ME.roomN bu (ME.sm (L.map Prod.snd) + s) L).2) ∧ FrS F w W' := by
  have h1 : 1 ≤ m := by omega
  obtain ⟨i0, hi0, hz0, hz1, hz2⟩ := info_parts info_ow
  have HLT := Lib.hid h.lt
  have HM := Lib.hid h
  have HOK := Lib.hid ok
  have hs2 := ok.b1
  clear ok
  refine callsIn_of_wp_marks Try.func33 rfl trivial ?_ rfl
  simp only [Try.ntmps33, List.size_toArray, List.length_cons, List.length_nil, Nat.reduceAdd, Nat.reduceSub, Array.replicate_succ, Array.replicate_zero, List.push_toArray, List.append_toArray, List.nil_append, List.cons_append]
  obtain ⟨B, hB⟩ : ∃ B, w.heap.size = B := ⟨_, rfl⟩
  obtain ⟨W0, hW0, b0, b1, b2, hb0, hs3⟩ := three w (.cells #[ptr M] 24) (.cells #[.int .i64 s] 3) (.cells #[.slice none 0 0] 43) B hB
  have hbw : Below w.heap.size w W0 := by rw [hB]; exact hb0
  have m0 := h.below hbw
  obtain ⟨c0, c1, c2, c3, c4⟩ := m0.mem.1.cells
  have x2 := one_cell b0
  clear h c0 c1 c2 c3
  gi_upto_region 2 with fail
  try simp only [World.size_alloc]
  try rw [hW0]
  try rw [hB]
  clear hW0
  gi_wp2_with fail
  refine ⟨trivial, ?_⟩
  gi_at_call 34
  refine (callsIn_wide.2 (all_any root W0)).mono ?_
  rintro e w' ⟨rfl, rfl⟩
  rw [hs3]
  have b3 := heap_alloc_new W0 (.cells #[ptr root] 63)
  rw [hs3] at b3
  have hb6 : Below W0.heap.size W0 (W0.alloc (.cells #[ptr root] 63)) := balloc (Below.refl _ _) _
  have hs6 : (W0.alloc (.cells #[ptr root] 63)).heap.size = B + 4 := by simp [hs3]
  obtain ⟨W6, hW6⟩ : ∃ W6, W0.alloc (.cells #[ptr root] 63) = W6 := ⟨_, rfl⟩
  rw [hW6] at b3 hb6 hs6
  try rw [hW6]
  have hkk : ∀ b, b < W0.heap.size → ∀ o, W0.heap[b]? = some o → W6.heap[b]? = some o := fun b hb o ho => (hb6.block b hb).trans ho
  have RI0 : RmI w W6 B M mb root bu s n F L [] L [] (.slice none 0 0) :=
    ⟨m0.below hb6, HOK.out, by simp, hkk _ (by omega) _ b0, hkk _ (by omega) _ b1, hkk _ (by omega) _ b2, b3, World.ownsRow_nil _ _ _ _, FrS.of (bnext hbw hb6), by simp⟩
  have HRI := Lib.hid RI0
  have HBB := Lib.hid hB
  have HF : Hid (∀ b, F b → b < B) := Lib.hid fun b hb => by rw [← hB]; exact HLT.out b hb
  clear hW6 RI0 hkk b0 b1 b2 b3 hb0 hbw m0 x2 c4 hb6 hB
  gi_wp2_with fail
  refine range_need rfl h1 (gf := 39) (lb := #[.pointer (some ⟨B + 3, 0, none⟩)]) rfl trivial (enters_of Try.func39 (by kernel_rfl) rfl) (all_need (m - 1) (by omega) root (B + 3) L W6) (Below.refl _ _) (fun _ => rfl)
    (fun pre W => ∃ A R G v, L = pre ++ R ∧ (pre = [] → A = []) ∧ RmI w W B M mb root bu s n F L A R G v)
    (fun c pre W => c = .exit 0 ∧ ∃ v, RmF w W B M mb root bu s n F L v) ?hN ?hI ?hIx ?h0
    (fun pre x a' W => (∃ R, L = pre ++ x :: R) ∧ ∃ v7 v8 v9 v10 v11, a' = { tmps := #[ptr M, .int .i64 s, .pointer (some ⟨B, 0, none⟩), .pointer (some ⟨B + 1, 0, none⟩), .slice none 0 0, .pointer (some ⟨B + 2, 0, none⟩), ptr x.1, v7, v8, v9, v10, v11, ptr x.1, undef, undef, undef, undef, undef, undef, undef, undef, undef, undef, undef, undef, undef, undef, undef, undef, undef, undef, undef, undef, undef, undef, undef, undef, undef, undef, undef, undef, undef], defers := [] })
    ?hAx ?assign ?body ?done ?stop
  case hN =>
    rintro pre W ⟨A, R, G, v, hL, hA, hi⟩
    exact ⟨one_cell hi.b3, A, R, hL, hA, hi.mm.mem.2.1⟩
  case hI =>
    rintro pre W W' row ⟨A, R, G, v, hL, hA, hi⟩ hg hr
    exact ⟨A, R, G, v, hL, hA, hi.keep HBB.out HF.out (S := fun b => row = some b) (FrS.grown hg (fun r e => e)) (fun b hb => by
      obtain ⟨h1, o, ho, hc⟩ := hr b hb
      exact ⟨by omega, own_notobj hi.row ho hc⟩)⟩
  case hIx =>
    rintro c pre W W' row ⟨hc, v, hf⟩ hg hr
    exact ⟨hc, v, hf.keep HBB.out HF.out (S := fun b => row = some b) (FrS.grown hg (fun r e => e)) (fun b hb => by
      obtain ⟨h1, o, ho, hc⟩ := hr b hb
      exact ⟨by omega, own_notobj hf.row ho hc⟩)⟩
  case h0 => exact ⟨[], L, [], _, rfl, fun _ => rfl, HRI.out⟩
  case hAx => exact fun pre x a' u W W' row h _ _ => h
  case assign =>
    rintro l pre x W Kc hi hG hK
    simp only [encA]
    have HKK := Lib.hid hK
    clear hK
    gi_wp2
    exact HKK.out _ _ (KeepsFrom.refl _ _) hi ⟨hG, _, _, _, _, _, rfl⟩
  case body =>
    rintro l pre x a' W hl ⟨r, hr⟩ ⟨A, R', G, v, hL, hA, hi⟩ ⟨⟨R, hL2⟩, v7, v8, v9, v10, v11, rfl⟩
    obtain rfl : R' = x :: R := List.append_cancel_left (hL.symm.trans hL2)
    obtain ⟨c0, c1, c2, c3, c4⟩ := hi.mm.mem.1.cells
    obtain ⟨hx, -, -, -, -⟩ := hi.mm.mem.2.1.parts
    obtain ⟨x0, x1, x2, x3, x4, x5⟩ := hx.cells
    have y0 := one_cell hi.b0
    have y1 := one_cell hi.b1
    have hbd := hi.ok.sum
    have hb1 := hi.ok.b1
    have hsz := hi.ok.sz
    have hnn := ME.sm_nonneg hsz
    have hlen2 := hi.len
    obtain ⟨us, hus⟩ : ∃ us, ME.sm ((A ++ x :: R).map Prod.snd) = us := ⟨_, rfl⟩
    rw [hus] at c1 hbd hnn
    have hw : IntKind.i64.wrap (us + s) = us + s := IntWalk.i64_in _ (by omega)
    have HI := Lib.hid hi
    have HU := Lib.hid hus
    have HLP := Lib.hid hL
    have hlb : l ∉ [] := by simp
    have hne : ∀ y, F y → y ≠ l := fun y hy e => by have := HF.out y hy; omega
    by_cases htot : us + s ≤ bu
    · clear hL hi hx hus hsz hA hL2 x0 x1 x2 x3 x4 hr
      gi_upto_region 4 with fail
      refine wpIn_quiet_round (by kernel_rfl) (by kernel_rfl) (by kernel_rfl) ?_
      repeat (quiet_step (fail))
      refine wpQuiet_nil ?_
      rintro _ ⟨nq, rfl⟩
      gi_wp2
      exact ⟨keepsFrom_drewN _ _ _, rfl, v, (HI.out.fin (.inl (by rw [HU.out]; exact htot))).keep HBB.out HF.out (S := fun _ => False) (FrS.drewN _ _) (fun b x => x.elim)⟩
    · rcases hpin : x.2.pin with _ | _
      · rw [hpin] at x5
        have hlt : decide (us + s ≤ bu) = false := decide_eq_false htot
        have hgone := ME.roomN_gone (bu := bu) (R := R) htot hpin
        clear hL hi hx hus hsz hA hL2 x0 x1 x2 x3 x4 hr
        gi_upto_region 4 with fail
        refine wpIn_quiet_round (by kernel_rfl) (by kernel_rfl) (by kernel_rfl) ?_
        repeat (quiet_step (fail))
        refine wpQuiet_nil ?_
        rintro _ ⟨nq, rfl⟩
        have hk := HI.out.keep HBB.out HF.out (S := fun _ => False) (FrS.drewN W nq) (fun b x => x.elim)
        have HRM := Lib.hid (mremove_any (W.drewN nq) M mb root bu A R x.1 x.2 n F hk.mm hk.ok)
        have HK := Lib.hid hk
        have HGO := Lib.hid hgone
        obtain ⟨va, vc, rfl⟩ := own_shape hk.row
        have hbl : ∀ q, (Value.slice va G.length vc).ownBlock = some q → B + 4 ≤ q := fun q e => (hk.row.lt q e).1
        clear hk hgone c0 c1 c2 c3 c4 y1
        gi_wp2_with fail
        refine ⟨trivial, fun _ => by omega, ?_⟩
        refine (CallsIn.inRound l (callsIn_wide.2 HRM.out)).mono ?_
        rintro e w3 ⟨rfl, hm3, hf3, p3, q3, hn3⟩
        clear HRM x5 y0
        have hkb : ∀ b, ¬ F b → ∀ o, (W.drewN nq).heap[b]? = some o → w3.heap[b]? = some o := fun b hb o ho => (hf3.block b (Array.getElem?_eq_some_iff.1 ho).1 hb).trans ho
        have hnF : ∀ b, B ≤ b → ¬ F b := fun b hb x => by have := HF.out b x; omega
        have g0 := hkb B (hnF _ (Nat.le_refl _)) _ HK.out.b0
        have g1 := hkb (B + 1) (hnF _ (by omega)) _ HK.out.b1
        have g2 := hkb (B + 2) (hnF _ (by omega)) _ HK.out.b2
        have g3 := hkb (B + 3) (hnF _ (by omega)) _ HK.out.b3
        have grow := hf3.own HK.out.row (fun q e x => hnF q (by have := hbl q e; omega) x)
        have gfr := HK.out.fr.trans hf3
        have hsz3 : B + 4 ≤ w3.heap.size := by have := (Array.getElem?_eq_some_iff.1 g3).1; omega
        obtain ⟨x0, x1, x2, x3, -, -⟩ := hn3.cells
        have hxF : F x.1 := HK.out.mm.fL x.1 (by simp)
        have hlenG : G.length ≤ 1000000 := by have := HK.out.len; omega
        have z2 := one_cell g2
        have HSA : Hid ((fun w' => w'.cell? ⟨B + 2, 0, none⟩ = some (.slice va G.length vc) ∧ w'.cell? ⟨x.1, 0, none⟩ = some (.int .i64 x.2.f) ∧ w'.cell? ⟨x.1, 1, none⟩ = some (.int .i64 x.2.k) ∧ w'.cell? ⟨x.1, 2, none⟩ = some (.int .i64 x.2.n) ∧ w'.cell? ⟨x.1, 3, none⟩ = some (.int .i64 x.2.r)) w3.drew) := Lib.hid ⟨z2, x0, x1, x2, x3⟩
        have hbA : Below w3.heap.size w3 (w3.alloc (.cells #[.int .i64 x.2.f, .int .i64 x.2.k, .int .i64 x.2.n, .int .i64 x.2.r] 34)).drew := Below.drew (balloc (Below.refl _ _) _)
        have hcellA : ∀ b i u, w3.cell? ⟨b, i, none⟩ = some u → (w3.alloc (.cells #[.int .i64 x.2.f, .int .i64 x.2.k, .int .i64 x.2.n, .int .i64 x.2.r] 34)).drew.cell? ⟨b, i, none⟩ = some u := fun b i u hu => (hbA.cell (p := ⟨b, i, none⟩) (World.block_lt_of_cell? _ _ hu)).trans hu
        have HSC : Hid ((fun w' => w'.cell? ⟨B + 2, 0, none⟩ = some (.slice va G.length vc) ∧ w'.cell? ⟨x.1, 0, none⟩ = some (.int .i64 x.2.f) ∧ w'.cell? ⟨x.1, 1, none⟩ = some (.int .i64 x.2.k) ∧ w'.cell? ⟨x.1, 2, none⟩ = some (.int .i64 x.2.n) ∧ w'.cell? ⟨x.1, 3, none⟩ = some (.int .i64 x.2.r)) (w3.alloc (.cells #[.int .i64 x.2.f, .int .i64 x.2.k, .int .i64 x.2.n, .int .i64 x.2.r] 34)).drew) := Lib.hid ⟨hcellA _ _ _ z2, hcellA _ _ _ x0, hcellA _ _ _ x1, hcellA _ _ _ x2, hcellA _ _ _ x3⟩
        have HRW := Lib.hid (own_below grow hbA)
        have HST : Hid (∀ w6, (w3.alloc (.cells #[.int .i64 x.2.f, .int .i64 x.2.k, .int .i64 x.2.n, .int .i64 x.2.r] 34)).drew.grownBy w6 (Value.slice va G.length vc).ownBlock → ((fun w' => w'.cell? ⟨B + 2, 0, none⟩ = some (.slice va G.length vc) ∧ w'.cell? ⟨x.1, 0, none⟩ = some (.int .i64 x.2.f) ∧ w'.cell? ⟨x.1, 1, none⟩ = some (.int .i64 x.2.k) ∧ w'.cell? ⟨x.1, 2, none⟩ = some (.int .i64 x.2.n) ∧ w'.cell? ⟨x.1, 3, none⟩ = some (.int .i64 x.2.r)) w6) ∧ FrS (fun b => (Value.slice va G.length vc).ownBlock = some b) w3 w6 ∧ w6.heap[B + 2]? = some (.cells #[.slice va G.length vc] 43 (0, 0))) := Lib.hid fun w6 hg => by
          have hc : ∀ b i u, (Value.slice va G.length vc).ownBlock ≠ some b → w3.cell? ⟨b, i, none⟩ = some u → w6.cell? ⟨b, i, none⟩ = some u := fun b i u hb hu => hg.cell (hcellA b i u hu) (fun e => hb e.symm)
          have hb2 : (Value.slice va G.length vc).ownBlock ≠ some (B + 2) := fun e => by have := hbl _ e; omega
          have hbx : (Value.slice va G.length vc).ownBlock ≠ some x.1 := fun e => hnF _ (by have := hbl _ e; omega) hxF
          exact ⟨⟨hc _ _ _ hb2 z2, hc _ _ _ hbx x0, hc _ _ _ hbx x1, hc _ _ _ hbx x2, hc _ _ _ hbx x3⟩, (FrS.of hbA).trans (FrS.grown hg (fun r e => e)), (hg.block _ (by simp; omega) (fun e => hb2 e.symm)).trans ((hbA.block _ (by omega)).trans g2)⟩
        have HG0 := Lib.hid g0
        have HG1 := Lib.hid g1
        have HG3 := Lib.hid g3
        have HGR := Lib.hid grow
        have HFR := Lib.hid gfr
        have HBL := Lib.hid hbl
        have HM3 := Lib.hid hm3
        have HF3 := Lib.hid hf3
        clear g0 g1 g2 g3 grow gfr x0 x1 x2 x3 z2 hn3 hbl hm3 hf3 hkb
        gi_upto_region 7 with fail
        refine wpIn_region_last #[{ dst := some 33, op := Op.load 43 (Operand.tmp 5), type := 43, pos := "memory.go:96", after := #[], guard := none }, { dst := some 34, op := Op.move (Operand.tmp 6), type := 63, pos := "memory.go:96", after := #[], guard := none }, { dst := some 35, op := Op.nilCheck (Operand.tmp 34), type := 0, pos := "memory.go:96", after := #[{ on := 1, ground := Ground.data }], guard := none }, { dst := some 36, op := Op.fieldAddr 78 (Operand.tmp 35) 0, type := 0, pos := "memory.go:96", after := #[{ on := 2, ground := Ground.data }], guard := none }, { dst := some 37, op := Op.fieldAddr 73 (Operand.tmp 36) 0, type := 0, pos := "memory.go:96", after := #[{ on := 3, ground := Ground.data }], guard := none }, { dst := some 38, op := Op.load 34 (Operand.tmp 37), type := 34, pos := "memory.go:96", after := #[{ on := 4, ground := Ground.data }], guard := none }, { dst := some 39, op := Op.buildSlice 43 1 #[(0, Operand.tmp 38)], type := 43, pos := "memory.go:96", after := #[{ on := 5, ground := Ground.data }], guard := none }, { dst := some 40, op := Op.call { callee := Callee.builtin Builtin.append, args := #[Operand.tmp 33, Operand.tmp 39], argTypes := #[43, 43] }, type := 43, pos := "memory.go:96", after := #[{ on := 0, ground := Ground.data }, { on := 6, ground := Ground.data }], guard := none }] { dst := none, op := Op.store 43 (Operand.tmp 5) (Operand.tmp 40), type := 0, pos := "memory.go:96", after := #[{ on := 7, ground := Ground.data }, { on := 7, ground := Ground.chain }, { on := 0, ground := Ground.phase }, { on := 1, ground := Ground.phase }, { on := 2, ground := Ground.phase }, { on := 3, ground := Ground.phase }, { on := 4, ground := Ground.phase }, { on := 5, ground := Ground.phase }, { on := 6, ground := Ground.phase }, { on := 7, ground := Ground.phase }], guard := none } rfl (by kernel_rfl) (by kernel_rfl) (by kernel_rfl) (fun w' => w'.cell? ⟨B + 2, 0, none⟩ = some (.slice va G.length vc) ∧ w'.cell? ⟨x.1, 0, none⟩ = some (.int .i64 x.2.f) ∧ w'.cell? ⟨x.1, 1, none⟩ = some (.int .i64 x.2.k) ∧ w'.cell? ⟨x.1, 2, none⟩ = some (.int .i64 x.2.n) ∧ w'.cell? ⟨x.1, 3, none⟩ = some (.int .i64 x.2.r)) ?_ (fun hHeld => ?_)
        · first | exact hS1 | exact HSC.out | exact HSA.out
        refine wpAnyH_take (i := 0) (oi := { dst := some 33, op := Op.load 43 (Operand.tmp 5), type := 43, pos := "memory.go:96", after := #[], guard := none }) (v := ?_) rfl (by kernel_rfl) (by kernel_rfl) (by kernel_rfl) (fun _ _ _ h => h) (Or.inl ⟨by rfl, ?_⟩) (by assumption) ?_
        rotate_left
        · ((intro w hSw; (try dsimp only at hSw); go_simp; (try rw [if_neg (by omega)])); try with_reducible rfl)
        (try simp only [Act.put, List.setIfInBounds_toArray, List.set_cons_zero, List.set_cons_succ])
        refine wpAnyH_take (i := 1) (oi := { dst := some 34, op := Op.move (Operand.tmp 6), type := 63, pos := "memory.go:96", after := #[], guard := none }) (v := ?_) rfl (by kernel_rfl) (by kernel_rfl) (by kernel_rfl) (fun _ _ _ h => h) (Or.inl ⟨by rfl, ?_⟩) (by assumption) ?_
        rotate_left
        · ((intro w hSw; (try dsimp only at hSw); go_simp; (try rw [if_neg (by omega)])); try with_reducible rfl)
        (try simp only [Act.put, List.setIfInBounds_toArray, List.set_cons_zero, List.set_cons_succ])
        refine wpAnyH_ready (rs := [2]) (by kernel_rfl) (by simp) ?_
        refine AllReadyH.cons (o := { dst := some 35, op := Op.nilCheck (Operand.tmp 34), type := 0, pos := "memory.go:96", after := #[{ on := 1, ground := Ground.data }], guard := none }) rfl (fun K hK => ?_) AllReadyH.nil
        go_simp
        refine hK.out _ _ ?_ (fun hHeld => ?_)
        · first | exact hS1 | exact HSC.out | exact HSA.out
        clear hK K
        (try simp only [Act.put, List.setIfInBounds_toArray, List.set_cons_zero, List.set_cons_succ])
        refine wpAnyH_take (i := 3) (oi := { dst := some 36, op := Op.fieldAddr 78 (Operand.tmp 35) 0, type := 0, pos := "memory.go:96", after := #[{ on := 2, ground := Ground.data }], guard := none }) (v := ?_) rfl (by kernel_rfl) (by kernel_rfl) (by kernel_rfl) (fun _ _ _ h => h) (Or.inl ⟨by rfl, ?_⟩) (by assumption) ?_
        rotate_left
        · ((intro w hSw; (try dsimp only at hSw); go_simp; (try rw [if_neg (by omega)])); try with_reducible rfl)
        (try simp only [Act.put, List.setIfInBounds_toArray, List.set_cons_zero, List.set_cons_succ])
        refine wpAnyH_take (i := 4) (oi := { dst := some 37, op := Op.fieldAddr 73 (Operand.tmp 36) 0, type := 0, pos := "memory.go:96", after := #[{ on := 3, ground := Ground.data }], guard := none }) (v := ?_) rfl (by kernel_rfl) (by kernel_rfl) (by kernel_rfl) (fun _ _ _ h => h) (Or.inl ⟨by rfl, ?_⟩) (by assumption) ?_
        rotate_left
        · ((intro w hSw; (try dsimp only at hSw); go_simp; (try rw [if_neg (by omega)])); try with_reducible rfl)
        (try simp only [Act.put, List.setIfInBounds_toArray, List.set_cons_zero, List.set_cons_succ])
        refine wpAnyH_take (i := 5) (oi := { dst := some 38, op := Op.load 34 (Operand.tmp 37), type := 34, pos := "memory.go:96", after := #[{ on := 4, ground := Ground.data }], guard := none }) (v := ?_) rfl (by kernel_rfl) (by kernel_rfl) (by kernel_rfl) (fun _ _ _ h => h) (Or.inl ⟨by rfl, ?_⟩) (by assumption) ?_
        rotate_left
        · ((intro w hSw; (try dsimp only at hSw); go_simp; (try rw [if_neg (by omega)])); try with_reducible rfl)
        (try simp only [Act.put, List.setIfInBounds_toArray, List.set_cons_zero, List.set_cons_succ])
        refine wpAnyH_ready (rs := [6]) (by kernel_rfl) (by simp) ?_
        refine AllReadyH.cons (o := { dst := some 39, op := Op.buildSlice 43 1 #[(0, Operand.tmp 38)], type := 43, pos := "memory.go:96", after := #[{ on := 5, ground := Ground.data }], guard := none }) rfl (fun K hK => ?_) AllReadyH.nil
        go_simp
        refine hK.out _ _ ?_ (fun hHeld => ?_)
        · first | exact hS1 | exact HSC.out | exact HSA.out
        clear hK K
        (try simp only [Act.put, List.setIfInBounds_toArray, List.set_cons_zero, List.set_cons_succ])
        refine wpAnyH_ready (rs := [7]) (by kernel_rfl) (by simp) ?_
        refine AllReadyH.cons (o := { dst := some 40, op := Op.call { callee := Callee.builtin Builtin.append, args := #[Operand.tmp 33, Operand.tmp 39], argTypes := #[43, 43] }, type := 43, pos := "memory.go:96", after := #[{ on := 0, ground := Ground.data }, { on := 6, ground := Ground.data }], guard := none }) rfl (fun K hK => ?_) AllReadyH.nil
        (refine step_append_any (by rfl) _ _ _ (by rfl) (B + 4) 34 i0 _ 4 32 Try.underlying43 hi0 hz0 hz1 hz2 rfl (by omega) (.slice va G.length vc) G.length _ (by rfl) HRW.out ⟨w3.heap.size, 0, none⟩ 1 1 (ME.kyL x.2.key) (by rfl) (by rfl) (World.news_of_block (cs := #[.int .i64 x.2.f, .int .i64 x.2.k, .int .i64 x.2.n, .int .i64 x.2.r]) (t := 34) (fr := (0, 0)) (heap_alloc_new w3 _)) (by simp [ME.kyL, Value.oneCell']) (by unfold maxLen; omega) (by omega) (by simp; omega) ?_; intro v' w6 hown1 hgrow hat; obtain ⟨gg, cap', rfl⟩ := ownsRow_succ hown1; have HS6 := Lib.hid (HST.out w6 hgrow); have hS1 := HS6.out.1)
        refine hK.out _ _ ?_ (fun hHeld => ?_)
        · first | exact hS1 | exact HSC.out | exact HSA.out
        clear hK K
        (try simp only [Act.put, List.setIfInBounds_toArray, List.set_cons_zero, List.set_cons_succ])
        refine wpAnyH_done (by kernel_rfl) ?_ _
        show Oper.wp _ _ _ _ _ _
        obtain ⟨-, hfr6, hb6⟩ := HS6.out
        have hc6 := one_cell hb6
        have hf6 : w6.frozen? ⟨B + 2, 0, none⟩ = false := by simp [World.frozen?, hb6]
        have HOW := Lib.hid hown1
        have HFR6 := Lib.hid hfr6
        have HB6 := Lib.hid hb6
        clear hown1 hgrow hat hS1 hfr6 hb6
        go_wp2
        have hgg : B + 4 ≤ gg := (HOW.out.lt gg rfl).1
        have hst : (w6.setCell ⟨B + 2, 0, none⟩ (.slice (some ⟨gg, 0, none⟩) (G.length + 1) cap')).heap[B + 2]? = some (.cells #[.slice (some ⟨gg, 0, none⟩) (G.length + 1) cap'] 43 (0, 0)) := heap_setCell_same w6 (B + 2) 0 _ _ _ HB6.out
        have hfs : FrS (fun b => b = B + 2) w6 (w6.setCell ⟨B + 2, 0, none⟩ (.slice (some ⟨gg, 0, none⟩) (G.length + 1) cap')) := FrS.set (S := fun b => b = B + 2) _ (b := B + 2) rfl _
        have hk : ∀ b, b < B + 4 → b ≠ B + 2 → ∀ o, w3.heap[b]? = some o → (w6.setCell ⟨B + 2, 0, none⟩ (.slice (some ⟨gg, 0, none⟩) (G.length + 1) cap')).heap[b]? = some o := fun b h1 h2 o ho => by
          have h3 := (HFR6.out.block b (Array.getElem?_eq_some_iff.1 ho).1 (fun e => by have := HBL.out b e; omega)).trans ho
          exact (hfs.block b (Array.getElem?_eq_some_iff.1 h3).1 h2).trans h3
        have hmm : MmAt (w6.setCell ⟨B + 2, 0, none⟩ (.slice (some ⟨gg, 0, none⟩) (G.length + 1) cap')) M mb root bu (A ++ R) n F :=
          (HM3.out.kept HFR6.out (fun b hb e => hnF b (by have := HBL.out b e; omega) hb)).kept hfs (fun b hb e => hnF b (by rw [e]; omega) hb)
        refine ⟨?_, trivial, A, R, G ++ [x.2.key], _, by rw [HLP.out]; simp, by simp, ⟨hmm, ?_, ?_, hk B (by omega) (by omega) _ HG0.out, hk (B + 1) (by omega) (by omega) _ HG1.out, hst, hk (B + 3) (by omega) (by omega) _ HG3.out, ?_, ?_, ?_⟩⟩
        · refine ((keepsFrom_drewN _ W nq).trans ((HF3.out.keepsFrom _ (fun b o hb hN _ => by have := HF.out b hb; omega)).trans ((HFR6.out.keepsFrom _ (fun b o hb _ ho => ?_)).trans (hfs.keepsFrom _ (fun b o hb hN _ => by omega)))))
          cases hc : o.isCells with
          | true => rfl
          | false => exact absurd hb (own_notobj HGR.out ho hc)
        · have := HK.out.ok
          rw [map_snd_app, List.map_cons] at this
          rw [map_snd_app]
          exact this.del
        · have hr := HK.out.res
          rw [HU.out, HGO.out] at hr
          have hus2 : ME.sm ((A ++ R).map Prod.snd) + s = us + s - x.2.size := by
            rw [← HU.out, map_snd_app, map_snd_app, List.map_cons, ME.sm_app, ME.sm_app, ME.sm_cons]
            omega
          rw [hus2, hr]
          simp
        · rw [ME.kc_app, ME.kc_one, List.length_append]
          exact hfs.own HOW.out (fun q e x => by have : gg = q := Option.some.inj e; omega)
        · exact ((HFR.out.next HFR6.out (fun b e => by have := HBL.out b e; have := HBB.out; omega)).next hfs (fun b e => by have := HBB.out; omega))
        · have := HK.out.len
          simp at this ⊢
          omega
      · rw [hpin] at x5
        have hlt : decide (us + s ≤ bu) = false := decide_eq_false htot
        have hstay := ME.roomN_pin (bu := bu) (R := R) htot hpin
        clear hL hi hx hus hsz hA hL2 x0 x1 x2 x3 x4 hr
        gi_upto_region 4 with fail
        refine wpIn_quiet_round (by kernel_rfl) (by kernel_rfl) (by kernel_rfl) ?_
        repeat (quiet_step (fail))
        refine wpQuiet_nil ?_
        rintro _ ⟨nq, rfl⟩
        gi_wp2
        have hk := HI.out.keep HBB.out HF.out (S := fun _ => False) (FrS.drewN W nq) (fun b x => x.elim)
        refine ⟨keepsFrom_drewN _ _ _, trivial, A ++ [x], R, by rw [HLP.out]; simp, by simp, G, v, ?_⟩
        have hap : (A ++ [x]) ++ R = A ++ x :: R := by simp
        refine ⟨by rw [hap]; exact hk.mm, by rw [hap]; exact hk.ok, ?_, hk.b0, hk.b1, hk.b2, hk.b3, hk.row, hk.fr, ?_⟩
        · have hr := hk.res
          rw [HU.out, hstay] at hr
          rw [hap, HU.out, hr]
          simp
        · have := hk.len
          simp at this ⊢
          omega
  case done =>
    rintro D zs W hD hz ⟨A, R, G, v, hL, hA, hi⟩ hK
    have hR : R = [] := by
      have h1 := congrArg List.length hL
      rw [hz, List.length_append] at h1
      exact List.eq_nil_of_length_eq_zero (by omega)
    have hf := hi.fin (.inr hR)
    have y2 := one_cell hf.b2
    have HFI := Lib.hid (hf.keep HBB.out HF.out (S := fun b => b = D) (FrS.grown (grownBy_putObj' W D (.deferred none)) (fun r e => (Option.some.inj e).symm)) (fun b e => ⟨by omega, by rw [e]; exact own_notobj hf.row hK rfl⟩))
    clear hi hf hL hA hR
    gi_wp2
    refine ⟨by simp, .inl ⟨_, _, rfl, run_takeDeferred hK, ?_⟩⟩
    exact ⟨_, results_tmp rfl _ _ _, v, rfl, HFI.out.mm, HFI.out.ok, by rw [HBB.out]; exact own_base HFI.out.row (by omega), HFI.out.fr⟩
  case stop =>
    rintro D c pre W hD - ⟨rfl, v, hf⟩ hK
    have y2 := one_cell hf.b2
    have HFI := Lib.hid (hf.keep HBB.out HF.out (S := fun b => b = D) (FrS.grown (grownBy_putObj' W D (.deferred none)) (fun r e => (Option.some.inj e).symm)) (fun b e => ⟨by omega, by rw [e]; exact own_notobj hf.row hK rfl⟩))
    clear hf
    gi_wp2
    refine ⟨by simp, .inl ⟨_, _, rfl, run_takeDeferred hK, ?_⟩⟩
    exact ⟨_, results_tmp rfl _ _ _, v, rfl, HFI.out.mm, HFI.out.ok, by rw [HBB.out]; exact own_base HFI.out.row (by omega), HFI.out.fr⟩
end Go.Proofs.Ytmnajongifdajaa
