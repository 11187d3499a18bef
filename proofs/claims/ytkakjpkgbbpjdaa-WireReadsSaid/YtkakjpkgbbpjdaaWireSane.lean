/- The examples of the chapter hold. -/
import Derived.Test.YtkakjpkgbbpjdaaWireElem
namespace Go.Proofs.Ytkakjpkgbbpjdaa
open Go.RowKit

set_option maxHeartbeats 400000 in
theorem wints_any (v : Value) (L : List Int) (w : World) (hv : RowAt w v (L.map (Value.int .i64))) (hr : ∀ x, x ∈ L → -9223372036854775808 ≤ x ∧ x ≤ 9223372036854775807) (hL : L.length ≤ 1000000000000) :
    Calls Try.prog 20 #[v] w fun e w' => e = .returned (.string (WP.S (WP.ints L))) ∧ Below w.heap.size w w' := by
  have hc := Lib.hid (ints_any v L 10 w hv (fun x _ => WP.int_len x) hr (by omega) hL)
  go_enter Try.func20, Try.ntmps20
  go_wp2_with (go_at_call 38; refine hc.out.mono ?_; rintro e w1 ⟨rfl, hb1⟩)
  go_ret
  exact ⟨rfl, hb1⟩
set_option maxHeartbeats 400000 in
theorem wtexts_any (v : Value) (L : List (List UInt8)) (w : World) (hv : RowAt w v (L.map (fun s => Value.string (WP.S s)))) (hr : ∀ x, x ∈ L → x.length ≤ 1000000) (hL : L.length ≤ 1000000) :
    Calls Try.prog 22 #[v] w fun e w' => e = .returned (.string (WP.S (WP.texts L))) ∧ Below w.heap.size w w' := by
  have hc := Lib.hid (texts_any v L 1000010 w hv (fun x hx => by have := WP.text_len x; have := hr x hx; omega) (fun x hx => by have := hr x hx; omega) (by omega) (by omega))
  go_enter Try.func22, Try.ntmps22
  go_wp2_with (go_at_call 39; refine hc.out.mono ?_; rintro e w1 ⟨rfl, hb1⟩)
  go_ret
  exact ⟨rfl, hb1⟩
theorem int_c (n : Int) (s : ByteArray) (w : World) (h0 : -9223372036854775808 ≤ n) (h1 : n ≤ 9223372036854775807) (hs : WP.S (WP.int n) = s) :
    Calls Try.prog 11 #[.int .i64 n] w fun e w' => e = .returned (.string s) ∧ Below w.heap.size w w' := by subst hs; exact int_any n w h0 h1
theorem text_c (t : List UInt8) (s : ByteArray) (w : World) (h0 : t.length ≤ 4611686018427387904) (hs : WP.S (WP.text t) = s) :
    Calls Try.prog 18 #[.string (WP.S t)] w fun e w' => e = .returned (.string s) ∧ Below w.heap.size w w' := by subst hs; exact text_s t w h0
theorem wints_c (v : Value) (L : List Int) (s : ByteArray) (w : World) (hv : RowAt w v (L.map (Value.int .i64))) (hr : ∀ x, x ∈ L → -9223372036854775808 ≤ x ∧ x ≤ 9223372036854775807) (hL : L.length ≤ 1000000000000) (hs : WP.S (WP.ints L) = s) :
    Calls Try.prog 20 #[v] w fun e w' => e = .returned (.string s) ∧ Below w.heap.size w w' := by subst hs; exact wints_any v L w hv hr hL
theorem wtexts_c (v : Value) (L : List (List UInt8)) (s : ByteArray) (w : World) (hv : RowAt w v (L.map (fun s => Value.string (WP.S s)))) (hr : ∀ x, x ∈ L → x.length ≤ 1000000) (hL : L.length ≤ 1000000) (hs : WP.S (WP.texts L) = s) :
    Calls Try.prog 22 #[v] w fun e w' => e = .returned (.string s) ∧ Below w.heap.size w w' := by subst hs; exact wtexts_any v L w hv hr hL
theorem read_c (b : Nat) (r r' : WP.RS) (n : Int) (w : World) (h : RAt b r w) (hr : r.int = (n, r')) : Calls Try.prog 13 #[.pointer (some ⟨b, 0, none⟩)] w fun e w' => e = .returned (.int .i64 n) ∧ RAt b r' w' ∧ Kept b w w' := by
  have := read_any b r w h; rwa [hr] at this
theorem rtext_c (b : Nat) (r r' : WP.RS) (s : List UInt8) (w : World) (h : RAt b r w) (hr : r.text = (s, r')) : Calls Try.prog 26 #[.pointer (some ⟨b, 0, none⟩)] w fun e w' => e = .returned (.string (WP.S s)) ∧ RAt b r' w' ∧ Kept b w w' := by
  have := rtext_any' b r w h; rwa [hr] at this
theorem bad_c (b : Nat) (r : WP.RS) (x : Bool) (w : World) (h : RAt b r w) (hx : r.bad = x) : Calls Try.prog 16 #[.pointer (some ⟨b, 0, none⟩)] w fun e w' => e = .returned (.bool x) ∧ w' = w := by
  subst hx; exact bad_any b r w h
theorem left_c (b : Nat) (r : WP.RS) (n : Nat) (w : World) (h : RAt b r w) (hx : r.left = n) : Calls Try.prog 15 #[.pointer (some ⟨b, 0, none⟩)] w fun e w' => e = .returned (.int .i64 n) ∧ Below w.heap.size w w' := by
  subst hx; exact left_any b r w h
theorem ints_c (b : Nat) (r r' : WP.RS) (L : List Int) (w : World) (h : RAt b r w) (hs : r.s.length ≤ 8796093022000) (hr : r.ints = (L, r')) :
    Calls Try.prog 29 #[.pointer (some ⟨b, 0, none⟩)] w fun e w' => ∃ v, e = .returned v ∧ w'.ownsRow w.heap.size 3 1 v L.length (L.map (Value.int .i64)) ∧ RAt b r' w' ∧ Kept b w w' := by
  have := ints_read b r w h hs; rwa [hr] at this
theorem texts_c (b : Nat) (r r' : WP.RS) (L : List (List UInt8)) (w : World) (h : RAt b r w) (hs : r.s.length ≤ 8796093022000) (hr : r.texts = (L, r')) :
    Calls Try.prog 32 #[.pointer (some ⟨b, 0, none⟩)] w fun e w' => ∃ v, e = .returned v ∧ w'.ownsRow w.heap.size 9 1 v L.length (L.map (fun s => Value.string (WP.S s))) ∧ RAt b r' w' ∧ Kept b w w' := by
  have := texts_read b r w h hs; rwa [hr] at this
theorem own_at {w : World} {B e n : Nat} {v : Value} {xs : List Value} (h : w.ownsRow B e 1 v n xs) (hn : 0 < n) : ∃ g cap, v = .slice (some ⟨g, 0, none⟩) n cap ∧ B ≤ g ∧ g < w.heap.size ∧ ∀ j u, xs[j]? = some u → w.cell? ⟨g, j, none⟩ = some u := by
  rcases h.2 with ⟨rfl, rfl⟩ | ⟨g, cap, cur, rfl, hb, hg, _⟩
  · omega
  · refine ⟨g, cap, rfl, hb, (Array.getElem?_eq_some_iff.1 hg).1, fun j u hu => ?_⟩
    have := h.cells (g := g) rfl j u hu
    rw [show ((⟨g, 0, none⟩ : Addr).add j) = ⟨g, j, none⟩ by cases j <;> simp [Addr.add]] at this
    exact this
theorem Kept.cell {b : Nat} {w w' : World} (h : Kept b w w') {p : Addr} (hp : p.block < w.heap.size) (hb : b < p.block) : w'.cell? p = w.cell? p := World.cell?_of_block (h.block p.block hp (fun e => by simp at e; omega))

theorem row2 (w : World) (u v : Value) (T : TypeId) : RowAt (w.alloc (.cells #[u, v] T)) (.slice (some ⟨w.heap.size, 0, none⟩) 2 2) [u, v] :=
  ⟨_, 2, rfl, Or.inr ⟨w.heap.size, 0, rfl, by simp, fun i hi => by
    match i, hi with
    | 0, _ => rw [World.cell?_alloc_at _ _ _ _ rfl]; rfl
    | 1, _ => rw [World.cell?_alloc_at _ _ _ _ rfl]; rfl⟩⟩

theorem k0 : WP.S (WP.int 0) = ⟨#[0]⟩ := by kernel_rfl
theorem k1 : WP.S (WP.int (-1)) = ⟨#[1]⟩ := by kernel_rfl
theorem k2 : WP.S (WP.int 63) = ⟨#[126]⟩ := by kernel_rfl
theorem k3 : WP.S (WP.int 64) = ⟨#[128, 1]⟩ := by kernel_rfl
theorem k4 : WP.S (WP.int (-64)) = ⟨#[127]⟩ := by kernel_rfl
theorem k5 : WP.S (WP.int 300) = ⟨#[216, 4]⟩ := by kernel_rfl
theorem k6 : WP.S (WP.text [97, 98]) = ⟨#[4, 97, 98]⟩ := by kernel_rfl
theorem k7 : WP.S (WP.ints [1, -2]) = ⟨#[4, 2, 3]⟩ := by kernel_rfl
theorem k8 : WP.S (WP.texts [[], [97]]) = ⟨#[4, 0, 2, 97]⟩ := by kernel_rfl
theorem k9 : (⟨[4, 2, 3, 5], 0, false⟩ : WP.RS).ints = ([1, -2], ⟨[4, 2, 3, 5], 3, false⟩) := by kernel_rfl
theorem k10 : (⟨[4, 2, 3, 5], 3, false⟩ : WP.RS).int = (-3, ⟨[4, 2, 3, 5], 4, false⟩) := by kernel_rfl
theorem k11 : (⟨[1, 0], 0, false⟩ : WP.RS).text = ([], ⟨[1, 0], 1, true⟩) := by kernel_rfl
theorem k12 : (⟨[1, 0], 1, true⟩ : WP.RS).int = (0, ⟨[1, 0], 1, true⟩) := by kernel_rfl

set_option maxRecDepth 100000 in
set_option maxHeartbeats 4000000 in
theorem sanity_any (w : World) : Calls Try.prog 10 #[] w fun e w' => e = .returned (.bool true) ∧ Below w.heap.size w w' := by
  go_enter Try.func10, Try.ntmps10
  have q0 := k0; have q1 := k1; have q2 := k2; have q3 := k3; have q4 := k4; have q5 := k5; have q6 := k6; have q7 := k7; have q8 := k8
  have acc : Below w.heap.size w w := Below.refl _ _
  go_wp2_with (first
    | (go_at_call 11; refine (int_any _ _ (by decide) (by decide)).mono ?_; rintro e w1 ⟨rfl, hb1⟩; replace acc := bnext acc hb1; clear hb1)
    | (go_at_call 18; refine (text_s [97, 98] _ (by decide)).mono ?_; rintro e w1 ⟨rfl, hb1⟩; replace acc := bnext acc hb1; clear hb1)
    | (go_at_call 20; refine (wints_any _ [1, -2] _ (row2 _ _ _ _) (by decide) (by decide)).mono ?_; rintro e w1 ⟨rfl, hb1⟩; replace acc := bnext (balloc acc _) hb1; clear hb1)
    | (go_at_call 22; refine (wtexts_any _ [[], [97]] _ (row2 _ _ _ _) (by decide) (by decide)).mono ?_; rintro e w1 ⟨rfl, hb1⟩; replace acc := bnext (balloc acc _) hb1; clear hb1))
  clear q0 q1 q2 q3 q4 q5 q6 q7 q8
  refine (new_any [4, 2, 3, 5] _ (by decide)).mono ?_
  rintro e w2 ⟨rfl, R2, hb2⟩
  obtain ⟨B, hB⟩ : ∃ B, w1.heap.size = B := ⟨_, rfl⟩
  have hwB : w.heap.size ≤ B := by rw [← hB]; exact acc.size
  replace acc := bnext acc hb2
  clear hb2
  rw [hB] at R2 ⊢
  clear hB
  go_wp2_with fail
  refine (ints_c _ _ _ _ _ R2 (by decide) k9).mono ?_
  rintro e w3 ⟨v, rfl, O3, R3, K3⟩
  obtain ⟨g, cap, rfl, hg1, hg2, hg⟩ := own_at O3 (by decide)
  have g0 := hg 0 _ rfl
  have g1 := hg 1 _ rfl
  have hBg : B < g := Nat.lt_of_lt_of_le R2.lt hg1
  replace acc := acc.trans (K3.below hwB acc.size)
  clear O3 hg R2 K3
  go_wp2_with fail
  refine (left_c _ _ 1 _ R3 rfl).mono ?_
  rintro e w4 ⟨rfl, hb4⟩
  go_wp2_with fail
  refine (read_c _ _ _ _ _ (R3.keep hb4) k10).mono ?_
  rintro e w5 ⟨rfl, R5, K5⟩
  have g0' := ((K5.cell (p := ⟨g, 0, none⟩) (Nat.lt_of_lt_of_le hg2 hb4.size) hBg).trans (hb4.cell (p := ⟨g, 0, none⟩) hg2)).trans g0
  have g1' := ((K5.cell (p := ⟨g, 1, none⟩) (Nat.lt_of_lt_of_le hg2 hb4.size) hBg).trans (hb4.cell (p := ⟨g, 1, none⟩) hg2)).trans g1
  replace acc := bnext acc hb4
  replace acc := acc.trans (K5.below hwB acc.size)
  clear g0 g1 hb4 K5 R3
  go_wp2_with (first
    | (go_at_call 16; refine (bad_c _ _ false _ R5 rfl).mono ?_; rintro e w6 ⟨rfl, rfl⟩)
    | (go_at_call 15; refine (left_c _ _ 0 _ R5 rfl).mono ?_; rintro e w7 ⟨rfl, hb7⟩; replace acc := bnext acc hb7; clear hb7 g0' g1' R5))
  refine (new_any [1, 0] _ (by decide)).mono ?_
  rintro e w8 ⟨rfl, R8, hb8⟩
  obtain ⟨C, hC⟩ : ∃ C, w7.heap.size = C := ⟨_, rfl⟩
  have hwC : w.heap.size ≤ C := by rw [← hC]; exact acc.size
  replace acc := bnext acc hb8
  clear hb8
  rw [hC] at R8 ⊢
  clear hC
  go_wp2_with fail
  refine (rtext_c _ _ _ _ _ R8 k11).mono ?_
  rintro e w9 ⟨rfl, R9, K9⟩
  replace acc := acc.trans (K9.below hwC acc.size)
  clear K9 R8
  have qe : WP.S [] = ⟨#[]⟩ := rfl
  go_wp2_with fail
  refine (read_c _ _ _ _ _ R9 k12).mono ?_
  rintro e w10 ⟨rfl, R10, K10⟩
  replace acc := acc.trans (K10.below hwC acc.size)
  clear K10 R9
  go_wp2_with (first
    | (go_at_call 16; refine (bad_c _ _ true _ R10 rfl).mono ?_; rintro e w11 ⟨rfl, rfl⟩)
    | (go_at_call 15; refine (left_c _ _ 0 _ R10 rfl).mono ?_; rintro e w12 ⟨rfl, hb12⟩; replace acc := bnext acc hb12; clear hb12 R10))
  go_ret
  exact ⟨rfl, acc⟩
end Go.Proofs.Ytkakjpkgbbpjdaa
