/- The examples of the chapter hold. No conditions. -/
import Derived.Test.YtpmmincophaaiaaAttGl
import Derived.Test.YtpmmincophaaiaaAttSame
namespace Go.Proofs.Ytpmmincophaaiaa
set_option maxRecDepth 100000
set_option linter.unusedVariables false
open Go.RowKit Go.Deep
theorem pts_new {V : World} {g : Nat} {P : List (Int × Int)} {T : TypeId} {c : Nat} (h : V.heap[g]? = some (.cells (AT.ptc P).toArray T (0, 0))) : PtAt V (.slice (some ⟨g, 0, none⟩) P.length c) P := by
  refine ⟨_, c, rfl, .inr ⟨g, 0, rfl, (Array.getElem?_eq_some_iff.1 h).1, fun i x hx => ?_⟩⟩
  obtain ⟨h1, h2⟩ := AT.ptc_at P i x hx
  rw [Nat.zero_add]
  constructor
  · simp only [World.cell?, h]
    simpa using h1
  · simp only [World.cell?, h]
    simpa using h2
theorem two_at {V : World} {g : Nat} {c : Array Value} {T : TypeId} {i : Nat} {u : Value} (h : V.heap[g]? = some (.cells c T (0, 0))) (hc : c[i]? = some u) : V.cell? ⟨g, i, none⟩ = some u := by
  simp only [World.cell?, h]
  exact hc
theorem ex0 : AT.places (AT.gl ⟨#[97, 98, 97]⟩) = [(0, 0), (10, 0), (16, 0)] := by decide +kernel
theorem ex1 : AT.places (AT.gl ⟨#[97, 109, 109]⟩) = [(0, 0), (3, 20), (3, 28)] := by decide +kernel
theorem ex2 : AT.places (AT.gl ⟨#[97, 98, 109, 110]⟩) = [(0, 0), (10, 0), (3, 20), (5, -5)] := by decide +kernel
theorem ex3 : AT.places (AT.gl ⟨#[109, 97]⟩) = [(0, 0), (0, 0)] := by decide +kernel
theorem ex4 : AT.places (AT.gl ⟨#[98, 110, 97]⟩) = [(0, 0), (6, 0), (6, 0)] := by decide +kernel
theorem gl_small (s : ByteArray) : ∀ d ∈ AT.gl s, d.anchors.length ≤ 1000000000000 := fun d hd => by
  unfold AT.gl at hd
  obtain ⟨c, -, rfl⟩ := List.mem_map.1 hd
  unfold AT.gl1
  split
  · simp
  · split
    · simp
    · split <;> simp
theorem glyphs_c (s : ByteArray) (w : World) (hs : s.size ≤ 100) :
    Calls Try.prog 16 #[.string s] w fun e w' => ∃ a n c, e = .returned (.slice a n c) ∧ DsAt w' (.slice a n c) (AT.gl s) ∧ Below w.heap.size w w' := by
  refine (glyphs_any s w hs).mono ?_
  rintro e w' ⟨u, X, rfl, ho, hm, hb⟩
  obtain ⟨a, c, rfl⟩ := own_shape ho.1
  have := ho.ds
  rw [hm] at this
  exact ⟨a, _, c, rfl, this, hb⟩
theorem places_c (v : Value) (s : ByteArray) (P : List (Int × Int)) (w : World) (hs : s.size ≤ 100) (hp : AT.places (AT.gl s) = P) (hv : DsAt w v (AT.gl s)) :
    Calls Try.prog 13 #[v] w fun e w' => ∃ a n c, e = .returned (.slice a n c) ∧ PtAt w' (.slice a n c) P ∧ Below w.heap.size w w' := by
  refine (places_any (AT.gl s) v w (by rw [AT.gl_len]; omega) (gl_small s) hv).mono ?_
  rintro e w' ⟨u, rfl, ho, hb⟩
  obtain ⟨a, c, rfl⟩ := own_shape ho
  have := own_pt (l := AT.places (AT.gl s)) rfl ho
  rw [hp] at this
  exact ⟨a, P.length, c, by rw [hp], this, hb⟩
set_option maxHeartbeats 8000000 in
theorem sane_any (w : World) :
    Calls Try.prog 10 #[] w fun e w' => e = .returned (.bool true) ∧ Below w.heap.size w w' := by
  obtain ⟨B, hB⟩ : ∃ B, w.heap.size = B := ⟨_, rfl⟩
  obtain ⟨W0, hW0, b0, b1, b2, b3, b4, b5, hbw, hs0⟩ := six w (.cells #[.int .i64 0, .int .i64 0, .int .i64 10, .int .i64 0, .int .i64 16, .int .i64 0] 37) (.cells #[.int .i64 0, .int .i64 0, .int .i64 3, .int .i64 20, .int .i64 3, .int .i64 28] 37) (.cells #[.int .i64 0, .int .i64 0, .int .i64 10, .int .i64 0, .int .i64 3, .int .i64 20, .int .i64 5, .int .i64 (-5)] 37) (.cells #[.int .i64 0, .int .i64 0, .int .i64 0, .int .i64 0] 37) (.cells #[.int .i64 0, .int .i64 0, .int .i64 6, .int .i64 0, .int .i64 6, .int .i64 0] 37) (.cells #[.string ⟨#[97, 98, 97]⟩, .slice (some ⟨B, 0, none⟩) 3 3, .string ⟨#[97, 109, 109]⟩, .slice (some ⟨B + 1, 0, none⟩) 3 3, .string ⟨#[97, 98, 109, 110]⟩, .slice (some ⟨B + 1 + 1, 0, none⟩) 4 4, .string ⟨#[109, 97]⟩, .slice (some ⟨B + 1 + 1 + 1, 0, none⟩) 2 2, .string ⟨#[98, 110, 97]⟩, .slice (some ⟨B + 1 + 1 + 1 + 1, 0, none⟩) 3 3] 42) B hB
  have HEX : Hid (∀ V, Below W0.heap.size W0 V → ∀ i, i < 5 → ∃ (s : ByteArray) (va : Option Addr) (vn vc : Nat) (P : List (Int × Int)), V.cell? ⟨B + 5, i * 2, none⟩ = some (.string s) ∧ V.cell? ⟨B + 5, i * 2 + 1, none⟩ = some (.slice va vn vc) ∧ PtAt V (.slice va vn vc) P ∧ s.size ≤ 100 ∧ P.length ≤ 100 ∧ AT.places (AT.gl s) = P) := Lib.hid (by
    intro V hV i hi
    have k5 := (hV.block (B + 5) (by omega)).trans b5
    by_cases i0 : i = 0
    · subst i0
      exact ⟨⟨#[97, 98, 97]⟩, _, _, _, [(0, 0), (10, 0), (16, 0)], two_at k5 rfl, two_at k5 rfl, pts_new (P := [(0, 0), (10, 0), (16, 0)]) ((hV.block (B + 0) (by omega)).trans b0), by decide, by decide, ex0⟩
    by_cases i1 : i = 1
    · subst i1
      exact ⟨⟨#[97, 109, 109]⟩, _, _, _, [(0, 0), (3, 20), (3, 28)], two_at k5 rfl, two_at k5 rfl, pts_new (P := [(0, 0), (3, 20), (3, 28)]) ((hV.block (B + 1) (by omega)).trans b1), by decide, by decide, ex1⟩
    by_cases i2 : i = 2
    · subst i2
      exact ⟨⟨#[97, 98, 109, 110]⟩, _, _, _, [(0, 0), (10, 0), (3, 20), (5, -5)], two_at k5 rfl, two_at k5 rfl, pts_new (P := [(0, 0), (10, 0), (3, 20), (5, -5)]) ((hV.block (B + 2) (by omega)).trans b2), by decide, by decide, ex2⟩
    by_cases i3 : i = 3
    · subst i3
      exact ⟨⟨#[109, 97]⟩, _, _, _, [(0, 0), (0, 0)], two_at k5 rfl, two_at k5 rfl, pts_new (P := [(0, 0), (0, 0)]) ((hV.block (B + 3) (by omega)).trans b3), by decide, by decide, ex3⟩
    by_cases i4 : i = 4
    · subst i4
      exact ⟨⟨#[98, 110, 97]⟩, _, _, _, [(0, 0), (6, 0), (6, 0)], two_at k5 rfl, two_at k5 rfl, pts_new (P := [(0, 0), (6, 0), (6, 0)]) ((hV.block (B + 4) (by omega)).trans b4), by decide, by decide, ex4⟩
    omega)
  have HS0 := Lib.hid hs0
  have HBW := Lib.hid hbw
  have HB := Lib.hid hB
  clear b0 b1 b2 b3 b4 b5 hs0 hbw
  go_enter Try.func10, Try.ntmps10
  go_wp2_with fail

  clear hW0 hB
  go_loopw [30] (fun v wr => ∃ i : Nat, v = .int .i64 (i : Int) ∧ i ≤ 5 ∧ Below W0.heap.size W0 wr) (fun v _ => 5 - (intOf v).toNat)
  case atStart => exact ⟨0, rfl, by omega, Below.refl _ _⟩
  case round =>
    obtain ⟨i, rfl, hi, hb⟩ := hrel
    have HBR := Lib.hid hb
    by_cases hin : i < 5
    · have hii : (i : Int) < 5 := by omega
      have hi0 : (0 : Int) ≤ (i : Int) := by omega
      obtain ⟨s, va, vn, vc, P, c0, c1, hp, hsl, hpl, hex⟩ := HEX.out wr hb i hin
      have HP := Lib.hid hp
      have HXX := Lib.hid hex
      have CP : Hid (∀ V u U, Below wr.heap.size wr V → PtAt V u U → U.length ≤ 1000000000000 → Calls Try.prog 12 #[u, .slice va vn vc] V fun e w' => e = .returned (.bool (decide (U = P))) ∧ Below V.heap.size V w') := Lib.hid fun V u U hV hU hUl => rsame_any u (.slice va vn vc) U P V hU (hp.keep hV) hUl (by omega)
      clear hb hp hex
      go_upto_region 4 with fail
      obtain ⟨W1, hW1⟩ : ∃ W1, wr.alloc (.cells #[.string s, .slice va vn vc] 42) = W1 := ⟨_, rfl⟩
      obtain ⟨G, hG⟩ : ∃ G, wr.heap.size = G := ⟨_, rfl⟩
      have hbx : W1.heap[G]? = some (.cells #[.string s, .slice va vn vc] 42 (0, 0)) := by rw [← hW1, ← hG]; exact heap_alloc_new wr _
      have hb1 : Below wr.heap.size wr W1 := by rw [← hW1]; exact balloc (Below.refl _ _) _
      rw [hW1]
      rw [hG]
      have HB1 := Lib.hid hb1
      have e0 := two_at hbx (i := 0) rfl
      have e1 := two_at hbx (i := 1) rfl
      have HS : Hid (∀ V, Below W1.heap.size W1 V → V.cell? ⟨G, 0, none⟩ = some (.string s) ∧ V.cell? ⟨G, 1, none⟩ = some (.slice va vn vc)) := Lib.hid fun V hV => ⟨two_at ((hV.block G (Array.getElem?_eq_some_iff.1 hbx).1).trans hbx) (i := 0) rfl, two_at ((hV.block G (Array.getElem?_eq_some_iff.1 hbx).1).trans hbx) (i := 1) rfl⟩
      clear hW1 hG hb1 hbx c0 c1
      go_region_held3 (fun w' => w'.cell? ⟨G, 0, none⟩ = some (.string s) ∧ w'.cell? ⟨G, 1, none⟩ = some (.slice va vn vc)) (first | exact HS.out _ a7 | exact HS.out _ a6 | exact HS.out _ a5 | exact ⟨e0, e1⟩ | go_keep) (first
        | (go_at_call 16; refine (glyphs_c s _ hsl).mono ?_; rintro e w5 ⟨ua, un, uc, rfl, ho, hb5⟩; have a5 := bnext (Below.drew (Below.refl _ W1)) hb5)
        | (go_at_call 13; refine (places_c _ s P _ hsl HXX.out ho).mono ?_; rintro e w6 ⟨xa, xn, xc, rfl, hpx, hb6⟩; have a6 := bnext a5 hb6)
        | (go_at_call 12; refine (CP.out _ _ P (bnext HB1.out a6) hpx (by omega)).mono ?_; rintro e w7 ⟨rfl, hb7⟩; have a7 := bnext a6 hb7))
      go_wp2_with fail
      go_roundw
      case rel => exact ⟨i + 1, by go_num, hin, bnext HBR.out (bnext HB1.out a7)⟩
      case measure => simp [intOf]; omega
    · obtain rfl : i = 5 := by omega
      go_wp2
      go_ret
      have hbw := HBW.out
      rw [← HB.out] at hbw
      exact ⟨rfl, by first | exact bnext hbw HBR.out | (rw [← HB.out]; exact bnext hbw HBR.out)⟩
end Go.Proofs.Ytpmmincophaaiaa
