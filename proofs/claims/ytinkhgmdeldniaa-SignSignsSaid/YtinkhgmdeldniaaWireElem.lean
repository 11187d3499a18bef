/- The lists that a reader reads. -/
import Derived.Test.YtinkhgmdeldniaaWireMeth
namespace Go.Proofs.Ytinkhgmdeldniaa.W
set_option maxRecDepth 100000
open Go.RowKit

theorem info_int : (Try.prog.info? 3).map (fun i => (i.zero, i.size, i.bytes)) = some (some (.int .i64 0), 1, 8) := by kernel_rfl
theorem info_string : (Try.prog.info? 9).map (fun i => (i.zero, i.size, i.bytes)) = some (some (.string ⟨#[]⟩), 1, 16) := by kernel_rfl
theorem cell_one_new (w : World) (u : Value) (T : TypeId) : ∀ j v, [u][j]? = some v → (w.alloc (.cells #[u] T)).cell? ((⟨w.heap.size, 0, none⟩ : Addr).add j) = some v := by
  intro j v hj
  match j, hj with
  | 0, hj =>
    simp at hj
    subst hj
    rw [Addr.add_lit, World.cell?_alloc_at _ _ _ _ rfl]
    rfl
theorem own_shape {w : World} {B e size n : Nat} {v : Value} {xs : List Value} (h : w.ownsRow B e size v n xs) : ∃ a cap, v = .slice a n cap := by
  rcases h.2 with ⟨hv, hn⟩ | ⟨g, cap, cur, hv, _⟩
  · exact ⟨none, 0, by rw [hv, hn]⟩
  · exact ⟨_, _, hv⟩
theorem own_kept {w w' : World} {B e n b : Nat} {v : Value} {xs : List Value} (h : w.ownsRow B e 1 v n xs) (hb : b < B) (k : Kept b w w') : w'.ownsRow B e 1 v n xs :=
  h.kept (row := some b) k (Or.inr fun e => by have := (h.lt b e).1; omega)
theorem Kept.grown {b : Nat} {row : Option Nat} {w w1 w2 : World} (h : Kept b w w1) (g : w1.grownBy w2 row) (hr : ∀ k, row = some k → w.heap.size ≤ k) : Kept b w w2 :=
  ⟨g.os.trans h.os, g.tape.trans h.tape, g.output.trans h.output, Nat.le_trans h.size g.size, fun j hj hne => (g.block j (Nat.lt_of_lt_of_le hj h.size) (fun e => by have := hr j e.symm; omega)).trans (h.block j hj hne)⟩
theorem RAt.grown {b : Nat} {r : WP.RS} {row : Option Nat} {w w1 : World} (h : RAt b r w) (g : w.grownBy w1 row) (hr : ∀ k, row = some k → b < k) : RAt b r w1 :=
  ⟨(g.block b h.lt (fun e => by have := hr b e.symm; omega)).trans h.1, h.2⟩

def lenOf : Value → Nat
  | .slice _ n _ => n
  | _ => 0
namespace WP
def elems {α : Type} (one : RS → α × RS) : Nat → List α → RS → List α × RS
  | 0, l, r => (l, r)
  | f + 1, l, r => if r.bad then (l, r) else elems one f (l ++ [(one r).1]) (one r).2
def RS.elements {α : Type} (one : RS → α × RS) (r : RS) : List α × RS :=
  if (elems one r.count.1.toNat [] r.count.2).2.bad then ([], (elems one r.count.1.toNat [] r.count.2).2) else elems one r.count.1.toNat [] r.count.2
def RS.ints (r : RS) : List Int × RS := r.elements RS.int
def RS.texts (r : RS) : List (List UInt8) × RS := r.elements RS.text
theorem elems_next {α : Type} (one : RS → α × RS) (f : Nat) (l : List α) (r : RS) (h : r.bad = false) : elems one (f + 1) l r = elems one f (l ++ [(one r).1]) (one r).2 := by rw [elems, h]; rfl
theorem elems_bad {α : Type} (one : RS → α × RS) (f : Nat) (l : List α) (r : RS) (h : r.bad = true) : elems one f l r = (l, r) := by cases f <;> simp [elems, h]
theorem int_s (r : RS) : r.int.2.s = r.s := by unfold RS.int; split; rfl; split <;> rfl
theorem count_s (r : RS) : r.count.2.s = r.s := by
  have := int_s r
  unfold RS.count; split
  · exact this
  · split
    · exact this
    · exact this
theorem count_len (r : RS) : r.count.1.toNat ≤ r.s.length := by
  have h := count_ok r
  rw [count_s] at h
  cases hb : r.count.2.bad with
  | false => have := h hb; omega
  | true =>
    have : r.count.1 = 0 ∨ (r.count.2.bad = r.int.2.bad ∧ r.int.2.bad = false) := by
      unfold RS.count at hb ⊢
      split
      · simp
      · rename_i hc
        split
        · simp
        · simp [Bool.eq_false_iff.2 hc]
    rcases this with h | ⟨h1, h2⟩
    · omega
    · rw [h1, h2] at hb; cases hb
end WP
/-- What holds at the head of the loop: the elements so far, and the reader; what is to come ends at fin. -/
def ERel {α : Type} (b : Nat) (w : World) (one : WP.RS → α × WP.RS) (val : α → Value) (e : TypeId) (m : Nat) (fin : List α × WP.RS) (v : Value) (wr : World) : Prop :=
  ∃ L r, L.length ≤ m ∧ wr.ownsRow w.heap.size e 1 v L.length (L.map val) ∧ RAt b r wr ∧ Kept b w wr ∧ WP.elems one (m - L.length) L r = fin
theorem ERel.out {α : Type} {b : Nat} {w : World} {one : WP.RS → α × WP.RS} {val : α → Value} {e : TypeId} {m : Nat} {fin : List α × WP.RS} {v : Value} {wr : World} (h : ERel b w one val e m fin v wr) :
  ∃ L r, L.length ≤ m ∧ wr.ownsRow w.heap.size e 1 v L.length (L.map val) ∧ RAt b r wr ∧ Kept b w wr ∧ WP.elems one (m - L.length) L r = fin := h

set_option maxRecDepth 100000 in
set_option maxHeartbeats 2000000 in
theorem texts_elems (b : Nat) (r : WP.RS) (w : World) (h : RAt b r w) (hs : r.s.length ≤ 8796093022000) :
    Calls Try.prog 51 #[.pointer (some ⟨b, 0, none⟩), .func (.func 52) #[.pointer (some ⟨b, 0, none⟩)] #[]] w fun e w' => ∃ v, e = .returned v ∧ w'.ownsRow w.heap.size 9 1 v r.texts.1.length (r.texts.1.map (fun s => Value.string (WP.S s))) ∧ RAt b r.texts.2 w' ∧ Kept b w w' := by
  have hbw := h.lt
  have hrd := Lib.hid (count_any b r w h)
  have hm := WP.count_len r
  have hct : Hid (r.texts = if (WP.elems WP.RS.text r.count.1.toNat [] r.count.2).2.bad then ([], (WP.elems WP.RS.text r.count.1.toNat [] r.count.2).2) else WP.elems WP.RS.text r.count.1.toNat [] r.count.2) := Lib.hid rfl
  have hneg : 0 ≤ r.count.1 := by
    have h1 := count_ok r
    cases hb : r.count.2.bad with
    | false => exact (h1 hb).1
    | true =>
      unfold WP.RS.count at hb ⊢
      split at hb
      · rename_i hc; simp [hc]
      · rename_i hc
        rw [if_neg hc]
        split at hb
        · rename_i hd; rw [if_pos hd]; simp
        · rename_i hd; rw [if_neg hd]; omega
  generalize r.count = R at *
  obtain ⟨n, r1⟩ := R
  obtain ⟨m, rfl⟩ : ∃ m : Nat, n = m := ⟨n.toNat, by simp only at hneg; omega⟩
  simp only [Int.toNat_natCast] at hct hm
  clear hneg
  obtain ⟨fin, hfin⟩ : ∃ fin, WP.elems WP.RS.text m [] r1 = fin := ⟨_, rfl⟩
  rw [hfin] at hct
  obtain ⟨i0, hi, hz0, hz1, hz2⟩ := info_parts info_string
  go_enter Try.func51, Try.ntmps51
  go_wp2_with (go_at_call 77; refine hrd.out.mono ?_; rintro e w1 ⟨rfl, h1, k1⟩)
  go_loopw [6] (fun v wr => ERel b w WP.RS.text (fun s => Value.string (WP.S s)) 9 m fin v wr) (fun v _ => m - lenOf v)
  case atStart => exact ⟨[], r1, Nat.zero_le _, World.ownsRow_nil _ _ _ _, h1, k1, by simpa using hfin⟩
  case round =>
    obtain ⟨L, r2, hLm, hown, h2, k2, hel⟩ := hrel.out
    obtain ⟨a, cap, rfl⟩ := own_shape hown
    have hbad : r2.bad = true ∨ r2.bad = false := by cases r2.bad <;> simp
    have hB := Lib.hid (bad_any b r2 wr h2)
    rcases hbad with hbad | hbad
    · have hf : fin = (L, r2) := by rw [← hel, WP.elems_bad _ _ _ _ hbad]
      have hres : r.texts = ([], r2) := by rw [hct.out, hf]; simp [hbad]
      rw [hbad] at hB
      clear hown hel hLm
      by_cases hL : L.length < m
      · go_wp2_with (go_at_call 22; refine hB.out.mono ?_; rintro e w2 ⟨rfl, rfl⟩)
        go_ret
        rw [hres]
        exact ⟨_, rfl, World.ownsRow_nil _ _ _ _, h2, k2⟩
      · go_wp2_with (go_at_call 22; refine hB.out.mono ?_; rintro e w2 ⟨rfl, rfl⟩)
        go_ret
        rw [hres]
        exact ⟨_, rfl, World.ownsRow_nil _ _ _ _, h2, k2⟩
    · rw [hbad] at hB
      by_cases hL : L.length < m
      · have hnx : Hid (WP.elems WP.RS.text (m - (L.length + 1)) (L ++ [(WP.RS.text r2).1]) (WP.RS.text r2).2 = fin) := Lib.hid (by
          rw [← WP.elems_next WP.RS.text _ _ _ hbad, show m - (L.length + 1) + 1 = m - L.length by omega]; exact hel)
        have hcall := Lib.hid (rtext_any' b r2 wr h2)
        generalize WP.RS.text r2 = X at *
        obtain ⟨x, r3⟩ := X
        try simp only at hnx
        go_wp2_with (first
          | (go_at_call 22; refine hB.out.mono ?_; rintro e w2 ⟨rfl, rfl⟩)
          | (go_at_call 52; refine hcall.out.mono ?_; rintro e w3 ⟨rfl, h3, k3⟩; have hown3 := own_kept hown hbw k3; clear hown)
          | (at_builtin; refine wpList_append_own _ rfl _ _ 42 rfl w.heap.size 9 i0 (.string ⟨#[]⟩) 1 16 Try.underlying42 hi hz0 hz1 hz2 rfl (by decide) _ _ _ rfl (hown3.alloc _) ⟨w3.heap.size, 0, none⟩ 1 1 [.string (WP.S x)] rfl rfl ?c1 ?c2 ?c3 ?c4 ?c5 ?_))
        try case c1 => exact cell_one_new _ _ _
        case c2 => intro u hu; simp at hu; subst hu; rfl
        case c3 => unfold maxLen; simp; omega
        case c4 => first | omega | (simp; omega)
        case c5 => have := k2.size; have := k3.size; simp; omega
        intro v' w4 hown4 hgrow _
        have hal : Below w3.heap.size w3 (w3.alloc (.cells #[.string (WP.S x)] 9)) := (Below.refl _ _).alloc (Nat.le_refl _) _
        have hlt3 : ∀ k, Value.ownBlock (.slice a L.length cap) = some k → w.heap.size ≤ k := fun k hk => (hown3.lt k hk).1
        have K4 : Kept b w w4 := ((k2.trans k3).trans (Kept.of hal)).grown hgrow hlt3
        have R4 : RAt b r3 w4 := (h3.keep hal).grown hgrow (fun k hk => by have := hlt3 k hk; omega)
        clear hgrow hown3 hlt3 hal
        obtain ⟨a', cap', rfl⟩ := own_shape hown4
        go_wp2
        go_roundw
        case rel => exact ⟨L ++ [x], r3, by simp; omega, by simpa using hown4, R4, K4, by simpa using hnx.out⟩
        case measure => simp [lenOf]; omega
      · have hf : fin = (L, r2) := by rw [← hel, show m - L.length = 0 by omega]; rfl
        have hres : r.texts = (L, r2) := by rw [hct.out, hf]; simp [hbad]
        go_wp2_with (go_at_call 22; refine hB.out.mono ?_; rintro e w2 ⟨rfl, rfl⟩)
        go_ret
        rw [hres]
        exact ⟨_, rfl, hown, h2, k2⟩

set_option maxHeartbeats 400000 in
theorem texts_read (b : Nat) (r : WP.RS) (w : World) (h : RAt b r w) (hs : r.s.length ≤ 8796093022000) :
    Calls Try.prog 21 #[.pointer (some ⟨b, 0, none⟩)] w fun e w' => ∃ v, e = .returned v ∧ w'.ownsRow w.heap.size 9 1 v r.texts.1.length (r.texts.1.map (fun s => Value.string (WP.S s))) ∧ RAt b r.texts.2 w' ∧ Kept b w w' := by
  have hel := Lib.hid (texts_elems b r w h hs)
  go_enter Try.func21, Try.ntmps21
  go_wp2_with (go_at_call 51; refine hel.out.mono ?_; rintro e w1 ⟨v, rfl, h1, h2, h3⟩)
  go_ret
  exact ⟨v, rfl, h1, h2, h3⟩
end Go.Proofs.Ytinkhgmdeldniaa.W
