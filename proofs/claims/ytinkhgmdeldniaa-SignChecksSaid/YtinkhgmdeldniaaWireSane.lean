/- The examples of the chapter hold. -/
import Derived.Test.YtinkhgmdeldniaaWireElem
namespace Go.Proofs.Ytinkhgmdeldniaa.W
open Go.RowKit

set_option maxHeartbeats 400000 in
theorem wtexts_any (v : Value) (L : List (List UInt8)) (w : World) (hv : RowAt w v (L.map (fun s => Value.string (WP.S s)))) (hr : ∀ x, x ∈ L → x.length ≤ 1000000) (hL : L.length ≤ 1000000) :
    Calls Try.prog 43 #[v] w fun e w' => e = .returned (.string (WP.S (WP.texts L))) ∧ Below w.heap.size w w' := by
  have hc := Lib.hid (texts_any v L 1000010 w hv (fun x hx => by have := WP.text_len x; have := hr x hx; omega) (fun x hx => by have := hr x hx; omega) (by omega) (by omega))
  go_enter Try.func43, Try.ntmps43
  go_wp2_with (go_at_call 73; refine hc.out.mono ?_; rintro e w1 ⟨rfl, hb1⟩)
  go_ret
  exact ⟨rfl, hb1⟩
theorem int_c (n : Int) (s : ByteArray) (w : World) (h0 : -9223372036854775808 ≤ n) (h1 : n ≤ 9223372036854775807) (hs : WP.S (WP.int n) = s) :
    Calls Try.prog 42 #[.int .i64 n] w fun e w' => e = .returned (.string s) ∧ Below w.heap.size w w' := by subst hs; exact int_any n w h0 h1
theorem text_c (t : List UInt8) (s : ByteArray) (w : World) (h0 : t.length ≤ 4611686018427387904) (hs : WP.S (WP.text t) = s) :
    Calls Try.prog 72 #[.string (WP.S t)] w fun e w' => e = .returned (.string s) ∧ Below w.heap.size w w' := by subst hs; exact text_s t w h0
theorem wtexts_c (v : Value) (L : List (List UInt8)) (s : ByteArray) (w : World) (hv : RowAt w v (L.map (fun s => Value.string (WP.S s)))) (hr : ∀ x, x ∈ L → x.length ≤ 1000000) (hL : L.length ≤ 1000000) (hs : WP.S (WP.texts L) = s) :
    Calls Try.prog 43 #[v] w fun e w' => e = .returned (.string s) ∧ Below w.heap.size w w' := by subst hs; exact wtexts_any v L w hv hr hL
theorem read_c (b : Nat) (r r' : WP.RS) (n : Int) (w : World) (h : RAt b r w) (hr : r.int = (n, r')) : Calls Try.prog 20 #[.pointer (some ⟨b, 0, none⟩)] w fun e w' => e = .returned (.int .i64 n) ∧ RAt b r' w' ∧ Kept b w w' := by
  have := read_any b r w h; rwa [hr] at this
theorem rtext_c (b : Nat) (r r' : WP.RS) (s : List UInt8) (w : World) (h : RAt b r w) (hr : r.text = (s, r')) : Calls Try.prog 52 #[.pointer (some ⟨b, 0, none⟩)] w fun e w' => e = .returned (.string (WP.S s)) ∧ RAt b r' w' ∧ Kept b w w' := by
  have := rtext_any' b r w h; rwa [hr] at this
theorem bad_c (b : Nat) (r : WP.RS) (x : Bool) (w : World) (h : RAt b r w) (hx : r.bad = x) : Calls Try.prog 22 #[.pointer (some ⟨b, 0, none⟩)] w fun e w' => e = .returned (.bool x) ∧ w' = w := by
  subst hx; exact bad_any b r w h
theorem left_c (b : Nat) (r : WP.RS) (n : Nat) (w : World) (h : RAt b r w) (hx : r.left = n) : Calls Try.prog 23 #[.pointer (some ⟨b, 0, none⟩)] w fun e w' => e = .returned (.int .i64 n) ∧ Below w.heap.size w w' := by
  subst hx; exact left_any b r w h
theorem texts_c (b : Nat) (r r' : WP.RS) (L : List (List UInt8)) (w : World) (h : RAt b r w) (hs : r.s.length ≤ 8796093022000) (hr : r.texts = (L, r')) :
    Calls Try.prog 21 #[.pointer (some ⟨b, 0, none⟩)] w fun e w' => ∃ v, e = .returned v ∧ w'.ownsRow w.heap.size 9 1 v L.length (L.map (fun s => Value.string (WP.S s))) ∧ RAt b r' w' ∧ Kept b w w' := by
  have := texts_read b r w h hs; rwa [hr] at this
theorem own_at {w : World} {B e n : Nat} {v : Value} {xs : List Value} (h : w.ownsRow B e 1 v n xs) (hn : 0 < n) : ∃ g cap, v = .slice (some ⟨g, 0, none⟩) n cap ∧ B ≤ g ∧ g < w.heap.size ∧ ∀ j u, xs[j]? = some u → w.cell? ⟨g, j, none⟩ = some u := by
  rcases h.2 with ⟨rfl, rfl⟩ | ⟨g, cap, cur, rfl, hb, hg, _⟩
  · omega
  · refine ⟨g, cap, rfl, hb, (Array.getElem?_eq_some_iff.1 hg).1, fun j u hu => ?_⟩
    have := h.cells (g := g) rfl j u hu
    rw [show ((⟨g, 0, none⟩ : Addr).add j) = ⟨g, j, none⟩ by cases j <;> simp [Addr.add]] at this
    exact this
theorem Kept.cell {b : Nat} {w w' : World} (h : Kept b w w') {p : Addr} (hp : p.block < w.heap.size) (hb : b < p.block) : w'.cell? p = w.cell? p := World.cell?_of_block (h.block p.block hp (fun e => by simp at e; omega))

theorem row2 (w : World) (u v : Value) (T : TypeId) : RowAt (w.alloc (.cells #[u, v] T)) (.slice (some ⟨w.heap.size, 0, none⟩) 2 2) [u, v] :=
  ⟨_, 2, rfl, Or.inr ⟨w.heap.size, 0, rfl, by simp, fun i hi => by
    match i, hi with
    | 0, _ => rw [World.cell?_alloc_at _ _ _ _ rfl]; rfl
    | 1, _ => rw [World.cell?_alloc_at _ _ _ _ rfl]; rfl⟩⟩

theorem k0 : WP.S (WP.int 0) = ⟨#[0]⟩ := by kernel_rfl
theorem k1 : WP.S (WP.int (-1)) = ⟨#[1]⟩ := by kernel_rfl
theorem k2 : WP.S (WP.int 63) = ⟨#[126]⟩ := by kernel_rfl
theorem k3 : WP.S (WP.int 64) = ⟨#[128, 1]⟩ := by kernel_rfl
theorem k4 : WP.S (WP.int (-64)) = ⟨#[127]⟩ := by kernel_rfl
theorem k5 : WP.S (WP.int 300) = ⟨#[216, 4]⟩ := by kernel_rfl
theorem k6 : WP.S (WP.text [97, 98]) = ⟨#[4, 97, 98]⟩ := by kernel_rfl
theorem k7 : WP.S (WP.ints [1, -2]) = ⟨#[4, 2, 3]⟩ := by kernel_rfl
theorem k8 : WP.S (WP.texts [[], [97]]) = ⟨#[4, 0, 2, 97]⟩ := by kernel_rfl
theorem k9 : (⟨[4, 2, 3, 5], 0, false⟩ : WP.RS).ints = ([1, -2], ⟨[4, 2, 3, 5], 3, false⟩) := by kernel_rfl
theorem k10 : (⟨[4, 2, 3, 5], 3, false⟩ : WP.RS).int = (-3, ⟨[4, 2, 3, 5], 4, false⟩) := by kernel_rfl
theorem k11 : (⟨[1, 0], 0, false⟩ : WP.RS).text = ([], ⟨[1, 0], 1, true⟩) := by kernel_rfl
theorem k12 : (⟨[1, 0], 1, true⟩ : WP.RS).int = (0, ⟨[1, 0], 1, true⟩) := by kernel_rfl

end Go.Proofs.Ytinkhgmdeldniaa.W
