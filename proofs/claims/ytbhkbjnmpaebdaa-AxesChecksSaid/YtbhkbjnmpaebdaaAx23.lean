/- Axes that numbers make. No conditions. -/
import Derived.Test.YtbhkbjnmpaebdaaAx22
namespace Go.Proofs.Ytbhkbjnmpaebdaa.AX
theorem lows_bd (l : List Int) (d : Int) (h : -500 ≤ d ∧ d ≤ 500) : ∀ k : Nat, -500 - 200 * (k : Int) ≤ (lows l d k).1 ∧ (lows l d k).1 ≤ 500 ∧ -64 ≤ (lows l d k).2.1 ∧ (lows l d k).2.1 ≤ 0
  | 0 => by show _ ≤ d ∧ d ≤ _ ∧ _ ≤ (0 : Int) ∧ (0 : Int) ≤ 0; omega
  | k + 1 => by
    have := lows_bd l d h k
    have n1 := num_bd l (3 + k)
    have n2 := num_bd l (5 + k)
    show _ ≤ (lows l d k).1 - 1 - num l (3 + k) % 200 ∧ (lows l d k).1 - 1 - num l (3 + k) % 200 ≤ 500 ∧ _ ≤ max (-64) ((lows l d k).2.1 - num l (5 + k) % 65) ∧ max (-64) ((lows l d k).2.1 - num l (5 + k) % 65) ≤ 0
    omega
theorem highs_bd (l : List Int) (d : Int) (m : List Pr) (h : -500 ≤ d ∧ d ≤ 500) : ∀ k : Nat, -500 ≤ (highs l d m k).1 ∧ (highs l d m k).1 ≤ 500 + 200 * (k : Int) ∧ 0 ≤ (highs l d m k).2.1 ∧ (highs l d m k).2.1 ≤ 64
  | 0 => by show _ ≤ d ∧ d ≤ _ ∧ _ ≤ (0 : Int) ∧ (0 : Int) ≤ 64; omega
  | k + 1 => by
    have := highs_bd l d m h k
    have n1 := num_bd l (7 + k)
    have n2 := num_bd l (9 + k)
    show _ ≤ (highs l d m k).1 + 1 + num l (7 + k) % 200 ∧ (highs l d m k).1 + 1 + num l (7 + k) % 200 ≤ _ ∧ _ ≤ min 64 ((highs l d m k).2.1 + num l (9 + k) % 65) ∧ min 64 ((highs l d m k).2.1 + num l (9 + k) % 65) ≤ 64
    omega
end Go.Proofs.Ytbhkbjnmpaebdaa.AX
namespace Go.Proofs.Ytbhkbjnmpaebdaa
set_option maxRecDepth 100000
set_option linter.unusedVariables false
open Go.RowKit Go.Deep
theorem own_litN (w : World) (U : List Value) (e : TypeId) (k n B : Nat) (hl : U.length = n * k) (hB : B ≤ w.heap.size) (hm : n ≤ maxLen) :
    (w.alloc (.cells U.toArray e)).ownsRow B e k (.slice (some ⟨w.heap.size, 0, none⟩) n n) n U :=
  ⟨hl, .inr ⟨w.heap.size, n, U.toArray, rfl, hB, heap_alloc_new w _, Nat.le_refl _, hm, by simp [hl], by rw [← hl]; simp⟩⟩
/-- An axis in a block of its own; the block for the answer in front of it. -/
structure MxS (w W : World) (Bx : Nat) (s : ByteArray) (lo de hi : Int) (va : Value) : Prop where
  box : W.heap[Bx]? = some (.cells #[.string s, .int .i64 lo, .int .i64 de, .int .i64 hi, va] 24 (0, 0))
  bel : Below w.heap.size w W
  le : w.heap.size < Bx
  res : W.heap[w.heap.size]? = some (.cells #[.string ⟨#[]⟩, .int .i64 0, .int .i64 0, .int .i64 0, .slice none 0 0] 24 (0, 0))
theorem MxS.lt {w W : World} {Bx : Nat} {s : ByteArray} {lo de hi : Int} {va : Value} (m : MxS w W Bx s lo de hi va) : Bx < W.heap.size := (Array.getElem?_eq_some_iff.1 m.box).1
theorem MxS.cell {w W : World} {Bx j : Nat} {s : ByteArray} {lo de hi : Int} {va u : Value} (m : MxS w W Bx s lo de hi va) (hu : (#[.string s, .int .i64 lo, .int .i64 de, .int .i64 hi, va] : Array Value)[j]? = some u) : W.cell? ⟨Bx, j, none⟩ = some u := by
  have := m.box
  simp only [World.cell?, this]
  exact hu
theorem MxS.frozen {w W : World} {Bx : Nat} {s : ByteArray} {lo de hi : Int} {va : Value} (m : MxS w W Bx s lo de hi va) (j : Nat) : W.frozen? ⟨Bx, j, none⟩ = false := by
  have := m.box
  simp [World.frozen?, this]
theorem MxS.drew {w W : World} {Bx : Nat} {s : ByteArray} {lo de hi : Int} {va : Value} (m : MxS w W Bx s lo de hi va) : MxS w W.drew Bx s lo de hi va := ⟨m.box, m.bel.drew, m.le, m.res⟩
theorem MxS.grown {w W W' : World} {Bx : Nat} {s : ByteArray} {lo de hi : Int} {va : Value} {row : Option Nat} (m : MxS w W Bx s lo de hi va) (hg : W.grownBy W' row) (hr : ∀ q, row = some q → Bx < q) : MxS w W' Bx s lo de hi va :=
  ⟨(hg.block Bx m.lt (fun e => by have := hr _ e.symm; omega)).trans m.box, m.bel.grown hg m.bel.size (fun q e => by have := hr q e; have := m.le; omega), m.le, (hg.block _ (by have := m.lt; have := m.le; omega) (fun e => by have := hr _ e.symm; have := m.le; omega)).trans m.res⟩
theorem MxS.alloc {w W : World} {Bx : Nat} {s : ByteArray} {lo de hi : Int} {va : Value} (m : MxS w W Bx s lo de hi va) (o : Obj) : MxS w (W.alloc o) Bx s lo de hi va :=
  ⟨(Below.block (balloc (Below.refl _ W) o) Bx m.lt).trans m.box, balloc m.bel o, m.le, (Below.block (balloc (Below.refl _ W) o) _ (by have := m.lt; have := m.le; omega)).trans m.res⟩
theorem MxS.set {w W : World} {Bx : Nat} {s : ByteArray} {lo de hi : Int} {va : Value} (m : MxS w W Bx s lo de hi va) (j : Nat) (u : Value) : (W.setCell ⟨Bx, j, none⟩ u).heap[Bx]? = some (.cells ((#[.string s, .int .i64 lo, .int .i64 de, .int .i64 hi, va] : Array Value).set! j u) 24 (0, 0)) ∧ Below w.heap.size w (W.setCell ⟨Bx, j, none⟩ u) ∧ (W.setCell ⟨Bx, j, none⟩ u).heap[w.heap.size]? = some (.cells #[.string ⟨#[]⟩, .int .i64 0, .int .i64 0, .int .i64 0, .slice none 0 0] 24 (0, 0)) ∧ W.grownBy (W.setCell ⟨Bx, j, none⟩ u) (some Bx) :=
  ⟨heap_setCell_same W Bx j _ _ u m.box, bset m.bel (by have := m.le; show w.heap.size ≤ Bx; omega) u, (Below.heap_setCell _ _ _ _ (by have := m.le; show w.heap.size ≠ Bx; omega)).trans m.res, ⟨rfl, rfl, rfl, by simp, fun k _ hk => Below.heap_setCell _ _ _ k (fun e => hk (by rw [e]))⟩⟩
theorem MxS.setLo {w W : World} {Bx : Nat} {s : ByteArray} {lo de hi : Int} {va : Value} (m : MxS w W Bx s lo de hi va) (z : Int) : MxS w (W.setCell ⟨Bx, 1, none⟩ (.int .i64 z)) Bx s z de hi va := ⟨(m.set 1 _).1, (m.set 1 _).2.1, m.le, (m.set 1 _).2.2.1⟩
theorem MxS.setHi {w W : World} {Bx : Nat} {s : ByteArray} {lo de hi : Int} {va : Value} (m : MxS w W Bx s lo de hi va) (z : Int) : MxS w (W.setCell ⟨Bx, 3, none⟩ (.int .i64 z)) Bx s lo de z va := ⟨(m.set 3 _).1, (m.set 3 _).2.1, m.le, (m.set 3 _).2.2.1⟩
theorem MxS.setMap {w W : World} {Bx : Nat} {s : ByteArray} {lo de hi : Int} {va : Value} (m : MxS w W Bx s lo de hi va) (z : Value) : MxS w (W.setCell ⟨Bx, 4, none⟩ z) Bx s lo de hi z := ⟨(m.set 4 _).1, (m.set 4 _).2.1, m.le, (m.set 4 _).2.2.1⟩
/-- A row behind the axis, kept by a store into the axis. -/
theorem own_mx {W : World} {Bx j e k n : Nat} {u v : Value} {U : List Value} (h : W.ownsRow (Bx + 1) e k v n U) : (W.setCell ⟨Bx, j, none⟩ u).ownsRow (Bx + 1) e k v n U :=
  own_of_grown h (row := some Bx) ⟨rfl, rfl, rfl, by simp, fun k _ hk => Below.heap_setCell _ _ _ k (fun e => hk (by rw [e]))⟩ (fun q hq e => by have := (h.lt q hq).1; have := Option.some.inj e; omega)
theorem own_drew {W : World} {B e k n : Nat} {v : Value} {U : List Value} (h : W.ownsRow B e k v n U) : W.drew.ownsRow B e k v n U := h
theorem five_set {V : World} {B : Nat} {c0 c1 c2 c3 c4 : Value} {T : TypeId} (h : V.heap[B]? = some (.cells #[c0, c1, c2, c3, c4] T (0, 0))) (u0 u1 u2 u3 u4 : Value) : (((((V.setCell ⟨B, 0, none⟩ u0).setCell ⟨B, 1, none⟩ u1).setCell ⟨B, 2, none⟩ u2).setCell ⟨B, 3, none⟩ u3).setCell ⟨B, 4, none⟩ u4).heap[B]? = some (.cells #[u0, u1, u2, u3, u4] T (0, 0)) :=
  by
  have s0 : (V.setCell ⟨B, 0, none⟩ u0).heap[B]? = some (.cells #[u0, c1, c2, c3, c4] T (0, 0)) := heap_setCell_same V B 0 _ _ u0 h
  have s1 : ((V.setCell ⟨B, 0, none⟩ u0).setCell ⟨B, 1, none⟩ u1).heap[B]? = some (.cells #[u0, u1, c2, c3, c4] T (0, 0)) := heap_setCell_same _ B 1 _ _ u1 s0
  have s2 : (((V.setCell ⟨B, 0, none⟩ u0).setCell ⟨B, 1, none⟩ u1).setCell ⟨B, 2, none⟩ u2).heap[B]? = some (.cells #[u0, u1, u2, c3, c4] T (0, 0)) := heap_setCell_same _ B 2 _ _ u2 s1
  have s3 : ((((V.setCell ⟨B, 0, none⟩ u0).setCell ⟨B, 1, none⟩ u1).setCell ⟨B, 2, none⟩ u2).setCell ⟨B, 3, none⟩ u3).heap[B]? = some (.cells #[u0, u1, u2, u3, c4] T (0, 0)) := heap_setCell_same _ B 3 _ _ u3 s2
  exact heap_setCell_same _ B 4 _ _ u4 s3
theorem set_kept (V : World) (B j : Nat) (u : Value) : V.grownBy (V.setCell ⟨B, j, none⟩ u) (some B) := ⟨rfl, rfl, rfl, by simp, fun k _ hk => Below.heap_setCell _ _ _ k (fun e => hk (by rw [e]))⟩
theorem five_kept (V : World) (B : Nat) (u0 u1 u2 u3 u4 : Value) : V.grownBy (((((V.setCell ⟨B, 0, none⟩ u0).setCell ⟨B, 1, none⟩ u1).setCell ⟨B, 2, none⟩ u2).setCell ⟨B, 3, none⟩ u3).setCell ⟨B, 4, none⟩ u4) (some B) :=
  ((((set_kept V B 0 u0).trans (set_kept _ B 1 u1)).trans (set_kept _ B 2 u2)).trans (set_kept _ B 3 u3)).trans (set_kept _ B 4 u4)
set_option maxHeartbeats 8000000 in
theorem madeaxis_any (l : List Int) (s : ByteArray) (v : Value) (w : World) (hv : InAt w v l) (hl : l.length ≤ maxLen) :
    Calls Try.prog 13 #[v, .string s] w fun e w' => ∃ v', e = .returned (AxV v' (AX.mkAxis l s)) ∧ w'.ownsRow w.heap.size 30 2 v' (AX.mkAxis l s).map.length (AX.prc (AX.mkAxis l s).map) ∧ Below w.heap.size w w' := by
  obtain ⟨i0, hi0, hz0, hz1, hz2⟩ := info_parts info_pr
  have HV : Hid (∀ V, Below w.heap.size w V → InAt V v l) := Lib.hid fun V hV => hv.keep hV
  obtain ⟨a, c, rfl, -⟩ := hv
  have HLL := Lib.hid hl
  obtain ⟨r0, hr0⟩ : ∃ r, AX.num l 0 = r := ⟨_, rfl⟩
  obtain ⟨r1, hr1⟩ : ∃ r, AX.num l 1 = r := ⟨_, rfl⟩
  obtain ⟨r2, hr2⟩ : ∃ r, AX.num l 2 = r := ⟨_, rfl⟩
  have hb0 := AX.num_bd l 0
  rw [hr0] at hb0
  have hb1 := AX.num_bd l 1
  rw [hr1] at hb1
  have hb2 := AX.num_bd l 2
  rw [hr2] at hb2
  obtain ⟨q0, hq0⟩ : ∃ q, r0 % 41 = q := ⟨_, rfl⟩
  obtain ⟨low, hq1⟩ : ∃ q : Nat, r1 % 3 = (q : Int) := ⟨(r1 % 3).toNat, by omega⟩
  obtain ⟨high, hq2⟩ : ∃ q : Nat, r2 % 3 = (q : Int) := ⟨(r2 % 3).toNat, by omega⟩
  have hq0b : 0 ≤ q0 ∧ q0 < 41 := by omega
  have hlow : low ≤ 2 := by omega
  have hhigh : high ≤ 2 := by omega
  have HD : Hid (AX.mkD l = q0 * 25 - 500) := Lib.hid (by unfold AX.mkD; rw [hr0, hq0])
  have HLOW : Hid (AX.mkLow l = low) := Lib.hid (by unfold AX.mkLow; rw [hr1, hq1]; simp)
  have HHIGH : Hid (AX.mkHigh l = high) := Lib.hid (by unfold AX.mkHigh; rw [hr2, hq2]; simp)
  have HR0 := Lib.hid hr0
  have HR1 := Lib.hid hr1
  have HR2 := Lib.hid hr2
  clear hl hr0 hr1 hr2
  go_enter Try.func13, Try.ntmps13
  go_upto_region 1 with fail
  obtain ⟨W1, hW1⟩ : ∃ W1, w.alloc (.cells #[.string ⟨#[]⟩, .int .i64 0, .int .i64 0, .int .i64 0, .slice none 0 0] 24) = W1 := ⟨_, rfl⟩
  have hres : W1.heap[w.heap.size]? = some (.cells #[.string ⟨#[]⟩, .int .i64 0, .int .i64 0, .int .i64 0, .slice none 0 0] 24 (0, 0)) := by rw [← hW1]; exact heap_alloc_new w _
  have hbw1 : Below w.heap.size w W1 := by rw [← hW1]; exact balloc (Below.refl _ _) _
  rw [hW1]
  have HRES := Lib.hid hres
  have HB1 := Lib.hid hbw1
  clear hW1 hres hbw1
  go_wp2_with fail
  refine (number_c (k := 0) HR0.out rfl _ _ (HV.out _ HB1.out) HLL.out (by omega)).mono ?_
  rintro e w3 ⟨rfl, he⟩
  have he' := he.symm
  subst he'
  go_upto_region 3 with fail
  obtain ⟨d, hd⟩ : ∃ d, q0 * 25 - 500 = d := ⟨_, rfl⟩
  have hdb : -500 ≤ d ∧ d ≤ 500 := by omega
  rw [hd] at HD
  rw [hd]
  obtain ⟨W2, hW2⟩ : ∃ W2, W1.alloc (.cells #[.string s, .int .i64 d, .int .i64 d, .int .i64 d, .slice none 0 0] 24) = W2 := ⟨_, rfl⟩
  obtain ⟨Bx, hBx⟩ : ∃ Bx, W1.heap.size = Bx := ⟨_, rfl⟩
  have hs0 : MxS w W2 Bx s d d d (.slice none 0 0) := by
    have hlt := (Array.getElem?_eq_some_iff.1 HRES.out).1
    rw [← hW2, ← hBx]
    exact ⟨heap_alloc_new _ _, balloc HB1.out _, hlt, (Below.block (balloc (Below.refl _ W1) _) _ hlt).trans HRES.out⟩
  rw [hW2, hBx]
  have HS0 := Lib.hid hs0
  clear hW2 hBx hs0 hd hq0 hq0b
  go_wp2_with fail
  refine (number_c (k := 1) HR1.out rfl _ _ (HV.out _ HS0.out.bel) HLL.out (by omega)).mono ?_
  rintro e w3 ⟨rfl, he⟩
  have he' := he.symm
  subst he'
  go_wp2_with fail
  refine (number_c (k := 2) HR2.out rfl _ _ (HV.out _ HS0.out.bel) HLL.out (by omega)).mono ?_
  rintro e w3 ⟨rfl, he⟩
  have he' := he.symm
  subst he'
  go_wp2_with fail
  simp only [hq2]
  go_loopw [9, 10, 11] (fun v9 v10 v11 wr => ∃ k : Nat, v10 = .int .i64 (AX.lows l d k).2.1 ∧ v11 = .int .i64 (k : Int) ∧ k ≤ low ∧ MxS w wr Bx s (AX.lows l d k).1 d d (.slice none 0 0) ∧ wr.ownsRow (Bx + 1) 30 2 v9 k (AX.prc (AX.lows l d k).2.2)) (fun _ _ v _ => low - (intOf v).toNat)
  case atStart => exact ⟨0, rfl, rfl, Nat.zero_le _, HS0.out, ⟨rfl, .inl ⟨rfl, rfl⟩⟩⟩
  case round =>
    obtain ⟨k, rfl, rfl, hk, hs, hrow⟩ := hrel
    obtain ⟨wo, hwo⟩ : ∃ wo, wo = wr := ⟨_, rfl⟩
    subst hwo
    obtain ⟨la, lc, rfl⟩ := own_shape hrow
    have HS := Lib.hid hs
    have HOWN := Lib.hid hrow
    have hbd := AX.lows_bd l d hdb k
    clear hs hrow
    by_cases h1 : k < low
    · have h1i : (k : Int) < (low : Int) := by omega
      have hk0 : (0 : Int) ≤ (k : Int) := by omega
      obtain ⟨r, hr⟩ : ∃ r, AX.num l (3 + k) = r := ⟨_, rfl⟩
      obtain ⟨s', hs'⟩ : ∃ s', AX.num l (5 + k) = s' := ⟨_, rfl⟩
      have hrb := AX.num_bd l (3 + k)
      rw [hr] at hrb
      have hsb := AX.num_bd l (5 + k)
      rw [hs'] at hsb
      obtain ⟨q, hq⟩ : ∃ q, r % 200 = q := ⟨_, rfl⟩
      obtain ⟨p, hp⟩ : ∃ p, s' % 65 = p := ⟨_, rfl⟩
      have hqb : 0 ≤ q ∧ q < 200 := by omega
      have hpb : 0 ≤ p ∧ p < 65 := by omega
      have HL1 : Hid (AX.lows l d (k + 1) = ((AX.lows l d k).1 - 1 - q, max (-64) ((AX.lows l d k).2.1 - p), ((AX.lows l d k).1 - 1 - q, max (-64) ((AX.lows l d k).2.1 - p)) :: (AX.lows l d k).2.2)) := Lib.hid (by
        show ((AX.lows l d k).1 - 1 - AX.num l (3 + k) % 200, max (-64) ((AX.lows l d k).2.1 - AX.num l (5 + k) % 65), ((AX.lows l d k).1 - 1 - AX.num l (3 + k) % 200, max (-64) ((AX.lows l d k).2.1 - AX.num l (5 + k) % 65)) :: (AX.lows l d k).2.2) = _
        rw [hr, hs', hq, hp])
      have HR := Lib.hid hr
      have HR' := Lib.hid hs'
      clear hr hs'
      obtain ⟨lo, hlo⟩ : ∃ lo, (AX.lows l d k).1 = lo := ⟨_, rfl⟩
      obtain ⟨y, hy⟩ : ∃ y, (AX.lows l d k).2.1 = y := ⟨_, rfl⟩
      obtain ⟨L, hL⟩ : ∃ L, (AX.lows l d k).2.2 = L := ⟨_, rfl⟩
      rw [hlo, hy] at hbd
      rw [hlo, hy, hL] at HL1
      rw [hlo] at HS
      rw [hL] at HOWN
      rw [hy]
      obtain ⟨m, hm⟩ : ∃ m, (if -64 < y - p then y - p else -64) = m := ⟨_, rfl⟩
      have hm2 : max (-64) (y - p) = m := by rw [← hm]; split <;> omega
      rw [hm2] at HL1
      have HSd := Lib.hid HS.out.drew
      have x1 : wo.cell? ⟨Bx, 1, none⟩ = some (.int .i64 lo) := HS.out.cell rfl
      have xf : wo.frozen? ⟨Bx, 1, none⟩ = false := HS.out.frozen 1
      have wr1 : IntKind.i64.wrap (3 + (k : Int)) = 3 + (k : Int) := by rw [IntKind.wrap_i64]; omega
      have wr2 : IntKind.i64.wrap (5 + (k : Int)) = 5 + (k : Int) := by rw [IntKind.wrap_i64]; omega
      have wr3 : IntKind.i64.wrap (lo - 1) = lo - 1 := by rw [IntKind.wrap_i64]; omega
      have wq : IntKind.i64.wrap (lo - 1 - r.tmod 200) = lo - 1 - q := by rw [show r.tmod 200 = q from (Int.tmod_eq_emod_of_nonneg hrb.1).trans hq, IntKind.wrap_i64]; omega
      have wr4 : IntKind.i64.wrap (lo - 1 - q) = lo - 1 - q := by rw [IntKind.wrap_i64]; omega
      clear hlo hy hL hm2
      go_upto_region 10 with fail
      refine wp_region_last #[{ dst := some 34, op := Op.fieldAddr 24 (Operand.tmp 6) 1, type := 0, pos := "ref.go:222", after := #[], guard := none }, { dst := some 35, op := Op.load 3 (Operand.tmp 34), type := 3, pos := "ref.go:222", after := #[{ on := 0, ground := Ground.data }], guard := none }, { dst := some 36, op := Op.binOp BinOp.sub 3 (Operand.tmp 35) (Operand.const (Value.int IntKind.i64 1)) 3, type := 3, pos := "ref.go:222", after := #[{ on := 1, ground := Ground.data }], guard := none }, { dst := some 37, op := Op.move (Operand.tmp 0), type := 25, pos := "ref.go:222", after := #[], guard := none }, { dst := some 38, op := Op.move (Operand.tmp 11), type := 3, pos := "ref.go:222", after := #[], guard := none }, { dst := some 39, op := Op.binOp BinOp.add 3 (Operand.const (Value.int IntKind.i64 3)) (Operand.tmp 38) 3, type := 3, pos := "ref.go:222", after := #[{ on := 4, ground := Ground.data }], guard := none }, { dst := some 40, op := Op.call { callee := Callee.value (Operand.func 43), args := #[Operand.tmp 37, Operand.tmp 39], argTypes := #[25, 3] }, type := 3, pos := "ref.go:222", after := #[{ on := 3, ground := Ground.data }, { on := 5, ground := Ground.data }], guard := none }, { dst := some 41, op := Op.binOp BinOp.rem 3 (Operand.tmp 40) (Operand.const (Value.int IntKind.i64 200)) 3, type := 3, pos := "ref.go:222", after := #[{ on := 6, ground := Ground.data }], guard := none }, { dst := some 42, op := Op.binOp BinOp.sub 3 (Operand.tmp 36) (Operand.tmp 41) 3, type := 3, pos := "ref.go:222", after := #[{ on := 2, ground := Ground.data }, { on := 7, ground := Ground.data }], guard := none }, { dst := some 43, op := Op.fieldAddr 24 (Operand.tmp 6) 1, type := 0, pos := "ref.go:222", after := #[{ on := 0, ground := Ground.phase }, { on := 1, ground := Ground.phase }, { on := 2, ground := Ground.phase }, { on := 3, ground := Ground.phase }, { on := 4, ground := Ground.phase }, { on := 5, ground := Ground.phase }, { on := 6, ground := Ground.phase }, { on := 7, ground := Ground.phase }, { on := 8, ground := Ground.phase }], guard := none }] { dst := none, op := Op.store 3 (Operand.tmp 43) (Operand.tmp 42), type := 0, pos := "ref.go:222", after := #[{ on := 9, ground := Ground.data }, { on := 8, ground := Ground.data }, { on := 6, ground := Ground.chain }, { on := 0, ground := Ground.phase }, { on := 1, ground := Ground.phase }, { on := 2, ground := Ground.phase }, { on := 3, ground := Ground.phase }, { on := 4, ground := Ground.phase }, { on := 5, ground := Ground.phase }, { on := 6, ground := Ground.phase }, { on := 7, ground := Ground.phase }, { on := 8, ground := Ground.phase }], guard := none } rfl (by kernel_rfl) (by kernel_rfl) (fun w' => w'.cell? ⟨Bx, 1, none⟩ = some (.int .i64 lo)) ?_ (fun hHeld => ?_)
      · first | exact x1 | exact HSd.out.cell rfl
      refine wpAnyH_take (i := 0) (oi := { dst := some 34, op := Op.fieldAddr 24 (Operand.tmp 6) 1, type := 0, pos := "ref.go:222", after := #[], guard := none }) (v := ?_) rfl (by kernel_rfl) (by kernel_rfl) (by kernel_rfl) (fun _ _ _ h => h) (Or.inl ⟨by rfl, ?_⟩) (by assumption) ?_
      rotate_left
      · ((intro w hSw; (try dsimp only at hSw); go_simp; (try rw [if_neg (by omega)])); try with_reducible rfl)
      (try simp only [Act.put, List.setIfInBounds_toArray, List.set_cons_zero, List.set_cons_succ])
      refine wpAnyH_take (i := 1) (oi := { dst := some 35, op := Op.load 3 (Operand.tmp 34), type := 3, pos := "ref.go:222", after := #[{ on := 0, ground := Ground.data }], guard := none }) (v := ?_) rfl (by kernel_rfl) (by kernel_rfl) (by kernel_rfl) (fun _ _ _ h => h) (Or.inl ⟨by rfl, ?_⟩) (by assumption) ?_
      rotate_left
      · ((intro w hSw; (try dsimp only at hSw); go_simp; (try rw [if_neg (by omega)])); try with_reducible rfl)
      (try simp only [Act.put, List.setIfInBounds_toArray, List.set_cons_zero, List.set_cons_succ])
      refine wpAnyH_take (i := 2) (oi := { dst := some 36, op := Op.binOp BinOp.sub 3 (Operand.tmp 35) (Operand.const (Value.int IntKind.i64 1)) 3, type := 3, pos := "ref.go:222", after := #[{ on := 1, ground := Ground.data }], guard := none }) (v := ?_) rfl (by kernel_rfl) (by kernel_rfl) (by kernel_rfl) (fun _ _ _ h => h) (Or.inl ⟨by rfl, ?_⟩) (by assumption) ?_
      rotate_left
      · ((intro w hSw; (try dsimp only at hSw); go_simp; (try rw [if_neg (by omega)])); try with_reducible rfl)
      (try simp only [Act.put, List.setIfInBounds_toArray, List.set_cons_zero, List.set_cons_succ])
      refine wpAnyH_take (i := 3) (oi := { dst := some 37, op := Op.move (Operand.tmp 0), type := 25, pos := "ref.go:222", after := #[], guard := none }) (v := ?_) rfl (by kernel_rfl) (by kernel_rfl) (by kernel_rfl) (fun _ _ _ h => h) (Or.inl ⟨by rfl, ?_⟩) (by assumption) ?_
      rotate_left
      · ((intro w hSw; (try dsimp only at hSw); go_simp; (try rw [if_neg (by omega)])); try with_reducible rfl)
      (try simp only [Act.put, List.setIfInBounds_toArray, List.set_cons_zero, List.set_cons_succ])
      refine wpAnyH_take (i := 4) (oi := { dst := some 38, op := Op.move (Operand.tmp 11), type := 3, pos := "ref.go:222", after := #[], guard := none }) (v := ?_) rfl (by kernel_rfl) (by kernel_rfl) (by kernel_rfl) (fun _ _ _ h => h) (Or.inl ⟨by rfl, ?_⟩) (by assumption) ?_
      rotate_left
      · ((intro w hSw; (try dsimp only at hSw); go_simp; (try rw [if_neg (by omega)])); try with_reducible rfl)
      (try simp only [Act.put, List.setIfInBounds_toArray, List.set_cons_zero, List.set_cons_succ])
      refine wpAnyH_take (i := 5) (oi := { dst := some 39, op := Op.binOp BinOp.add 3 (Operand.const (Value.int IntKind.i64 3)) (Operand.tmp 38) 3, type := 3, pos := "ref.go:222", after := #[{ on := 4, ground := Ground.data }], guard := none }) (v := ?_) rfl (by kernel_rfl) (by kernel_rfl) (by kernel_rfl) (fun _ _ _ h => h) (Or.inl ⟨by rfl, ?_⟩) (by assumption) ?_
      rotate_left
      · ((intro w hSw; (try dsimp only at hSw); go_simp; (try rw [if_neg (by omega)])); try with_reducible rfl)
      (try simp only [Act.put, List.setIfInBounds_toArray, List.set_cons_zero, List.set_cons_succ])
      refine wpAnyH_ready (rs := [6]) (by kernel_rfl) (by simp) ?_
      refine AllReadyH.cons (o := { dst := some 40, op := Op.call { callee := Callee.value (Operand.func 43), args := #[Operand.tmp 37, Operand.tmp 39], argTypes := #[25, 3] }, type := 3, pos := "ref.go:222", after := #[{ on := 3, ground := Ground.data }, { on := 5, ground := Ground.data }], guard := none }) rfl (fun K hK => ?_) AllReadyH.nil
      (go_simp; go_at_call 43; refine (number_c (k := 3 + k) HR.out (by omega) _ _ (HV.out _ HSd.out.bel) HLL.out (by omega)).mono ?_; rintro e w3 ⟨rfl, he⟩; have he' := he.symm; subst he'; dsimp only)
      refine hK.out _ _ ?_ (fun hHeld => ?_)
      · first | exact x1 | exact HSd.out.cell rfl
      clear hK K
      (try simp only [Act.put, List.setIfInBounds_toArray, List.set_cons_zero, List.set_cons_succ])
      refine wpAnyH_take (i := 7) (oi := { dst := some 41, op := Op.binOp BinOp.rem 3 (Operand.tmp 40) (Operand.const (Value.int IntKind.i64 200)) 3, type := 3, pos := "ref.go:222", after := #[{ on := 6, ground := Ground.data }], guard := none }) (v := ?_) rfl (by kernel_rfl) (by kernel_rfl) (by kernel_rfl) (fun _ _ _ h => h) (Or.inl ⟨by rfl, ?_⟩) (by assumption) ?_
      rotate_left
      · ((intro w hSw; (try dsimp only at hSw); go_simp; (try rw [if_neg (by omega)])); try with_reducible rfl)
      (try simp only [Act.put, List.setIfInBounds_toArray, List.set_cons_zero, List.set_cons_succ])
      refine wpAnyH_take (i := 8) (oi := { dst := some 42, op := Op.binOp BinOp.sub 3 (Operand.tmp 36) (Operand.tmp 41) 3, type := 3, pos := "ref.go:222", after := #[{ on := 2, ground := Ground.data }, { on := 7, ground := Ground.data }], guard := none }) (v := ?_) rfl (by kernel_rfl) (by kernel_rfl) (by kernel_rfl) (fun _ _ _ h => h) (Or.inl ⟨by rfl, ?_⟩) (by assumption) ?_
      rotate_left
      · ((intro w hSw; (try dsimp only at hSw); go_simp; (try rw [if_neg (by omega)])); try with_reducible rfl)
      (try simp only [Act.put, List.setIfInBounds_toArray, List.set_cons_zero, List.set_cons_succ])
      refine wpAnyH_take (i := 9) (oi := { dst := some 43, op := Op.fieldAddr 24 (Operand.tmp 6) 1, type := 0, pos := "ref.go:222", after := #[{ on := 0, ground := Ground.phase }, { on := 1, ground := Ground.phase }, { on := 2, ground := Ground.phase }, { on := 3, ground := Ground.phase }, { on := 4, ground := Ground.phase }, { on := 5, ground := Ground.phase }, { on := 6, ground := Ground.phase }, { on := 7, ground := Ground.phase }, { on := 8, ground := Ground.phase }], guard := none }) (v := ?_) rfl (by kernel_rfl) (by kernel_rfl) (by kernel_rfl) (fun _ _ _ h => h) (Or.inl ⟨by rfl, ?_⟩) (by assumption) ?_
      rotate_left
      · ((intro w hSw; (try dsimp only at hSw); go_simp; (try rw [if_neg (by omega)])); try with_reducible rfl)
      (try simp only [Act.put, List.setIfInBounds_toArray, List.set_cons_zero, List.set_cons_succ])
      refine wpAnyH_done (by kernel_rfl) ?_ _
      show Oper.wp _ _ _ _ _ _
      go_simp
      go_upto_region 11 with fail
      try rw [wq]
      obtain ⟨WF, hWF⟩ : ∃ WF, (wo.setCell ⟨Bx, 1, none⟩ (.int .i64 (lo - 1 - q))).drew = WF := ⟨_, rfl⟩
      have hsf := (HS.out.setLo (lo - 1 - q)).drew
      have hof : WF.ownsRow (Bx + 1) 30 2 (.slice la k lc) k (AX.prc L) := by rw [← hWF]; exact own_drew (own_mx HOWN.out)
      rw [hWF] at hsf ⊢
      have HSF := Lib.hid hsf
      have HOF := Lib.hid hof
      clear hWF hsf hof x1 xf
      go_wp2_with fail
      refine (number_c (k := 5 + k) HR'.out (by omega) _ _ (HV.out _ HSF.out.bel) HLL.out (by omega)).mono ?_
      rintro e w3 ⟨rfl, he⟩
      have he' := he.symm
      subst he'
      have x1 : WF.cell? ⟨Bx, 1, none⟩ = some (.int .i64 (lo - 1 - q)) := HSF.out.cell rfl
      go_upto_region 9 with (at_builtin; refine wpList_appN _ rfl _ _ 22 rfl (Bx + 1) 30 i0 (.agg #[.int .i64 0, .int .i64 0]) 2 16 Try.underlying22 hi0 hz0 hz1 hz2 rfl (by decide) _ _ (AX.prc [(lo - 1 - q, m)]) rfl (own_litN WF (AX.prc [(lo - 1 - q, m)]) _ 2 1 (Bx + 1) rfl (by have := HSF.out.lt; omega) (by simp [maxLen])) _ k (AX.prc L) rfl ((own_srcN HOF.out).keep (balloc (Below.refl _ _) _)) (AX.prc_one _) (by unfold maxLen; omega) (by omega) (by have := HSF.out.lt; simp; omega) ?_; intro v' w1 hown' hgrow hat; rw [Nat.add_comm 1 k] at hown'; obtain ⟨g', cap', rfl⟩ := ownsRow_succ hown')
      have hs1 := (HSF.out.alloc (.cells (AX.prc [(lo - 1 - q, m)]).toArray 30)).grown hgrow (fun j ej => by have : WF.heap.size = j := Option.some.inj ej; have := HSF.out.lt; omega)
      have HS1 := Lib.hid hs1
      have HO2 := Lib.hid hown'
      clear hs1 hown' hgrow hat
      go_wp2_with fail
      go_roundw
      case rel => exact ⟨k + 1, by rw [HL1.out], by go_num, h1, by rw [HL1.out]; exact HS1.out, by rw [HL1.out]; exact HO2.out⟩
      case measure => simp [intOf]; omega
    · obtain rfl : k = low := by omega
      have HM : Hid (∀ t, AX.mkAxis l t = ⟨t, (AX.lows l d k).1, d, (AX.highs l d ((AX.lows l d k).2.2 ++ [(d, 0)]) high).1, (AX.highs l d ((AX.lows l d k).2.2 ++ [(d, 0)]) high).2.2⟩) := Lib.hid (by intro t; unfold AX.mkAxis; rw [HD.out, HLOW.out, HHIGH.out])
      have HLEN := Lib.hid (AX.lows_len l d k)
      obtain ⟨lo, hlo⟩ : ∃ lo, (AX.lows l d k).1 = lo := ⟨_, rfl⟩
      obtain ⟨L, hL⟩ : ∃ L, (AX.lows l d k).2.2 = L := ⟨_, rfl⟩
      rw [hlo] at HS
      rw [hL] at HOWN HLEN
      rw [hlo, hL] at HM
      clear hlo hL hbd
      go_upto_region 14 with (at_builtin; refine wpList_appN _ rfl _ _ 22 rfl (Bx + 1) 30 i0 (.agg #[.int .i64 0, .int .i64 0]) 2 16 Try.underlying22 hi0 hz0 hz1 hz2 rfl (by decide) _ _ _ rfl (HOWN.out.alloc _) _ 1 (AX.prc [(d, 0)]) rfl (srcN_new _ (AX.prc [(d, 0)]) _ 2 1 1 rfl) (AX.prc_one _) (by unfold maxLen; omega) (by omega) (by have := HS.out.lt; simp; omega) ?_; intro v' w1 hown' hgrow hat; obtain ⟨g', cap', rfl⟩ := ownsRow_succ hown'; have hs1 := (HS.out.alloc (.cells (AX.prc [(d, 0)]).toArray 30)).grown hgrow (fun j ej => by have := (HOWN.out.lt j ej).1; omega); have x4 := hs1.cell (j := 4) rfl; have f4 := hs1.frozen 4)
      obtain ⟨WG, hWG⟩ : ∃ WG, w1.setCell ⟨Bx, 4, none⟩ (.slice (some ⟨g', 0, none⟩) (k + 1) cap') = WG := ⟨_, rfl⟩
      have hsg := hs1.setMap (.slice (some ⟨g', 0, none⟩) (k + 1) cap')
      have hog : WG.ownsRow (Bx + 1) 30 2 (.slice (some ⟨g', 0, none⟩) (k + 1) cap') (k + 1) (AX.prc (L ++ [(d, 0)])) := by rw [← hWG, AX.prc_app]; exact own_mx hown'
      rw [hWG] at hsg ⊢
      have HSG := Lib.hid hsg
      have HOG := Lib.hid hog
      clear hWG hsg hog hs1 hown' hgrow hat x4 f4
      obtain ⟨M, hM⟩ : ∃ M, L ++ [(d, 0)] = M := ⟨_, rfl⟩
      rw [hM] at HOG HM
      have hML : M.length = k + 1 := by rw [← hM, List.length_append, HLEN.out]; rfl
      have HML := Lib.hid hML
      clear hM hML
      go_wp2_with fail
      go_loopw [10, 12] (fun v10 v12 wr => ∃ (k' : Nat) (vm : Value), v10 = .int .i64 (AX.highs l d M k').2.1 ∧ v12 = .int .i64 (k' : Int) ∧ k' ≤ high ∧ MxS w wr Bx s lo d (AX.highs l d M k').1 vm ∧ wr.ownsRow (Bx + 1) 30 2 vm (k + 1 + k') (AX.prc (AX.highs l d M k').2.2)) (fun _ v _ => high - (intOf v).toNat)
      case atStart => exact ⟨0, .slice (some ⟨g', 0, none⟩) (k + 1) cap', rfl, rfl, Nat.zero_le _, HSG.out, HOG.out⟩
      case round =>
        have hwk : True := trivial
        obtain ⟨j, vm, rfl, rfl, hj, hs, hrow⟩ := hrel
        obtain ⟨wo, hwo⟩ : ∃ wo, wo = wr := ⟨_, rfl⟩
        subst hwo
        obtain ⟨ma, mc, rfl⟩ := own_shape hrow
        have HS2 := Lib.hid hs
        have HOWN2 := Lib.hid hrow
        have hbd := AX.highs_bd l d M hdb j
        clear hs hrow
        by_cases h2 : j < high
        · have h2i : (j : Int) < (high : Int) := by omega
          have hj0 : (0 : Int) ≤ (j : Int) := by omega
          obtain ⟨r, hr⟩ : ∃ r, AX.num l (7 + j) = r := ⟨_, rfl⟩
          obtain ⟨s', hs'⟩ : ∃ s', AX.num l (9 + j) = s' := ⟨_, rfl⟩
          have hrb := AX.num_bd l (7 + j)
          rw [hr] at hrb
          have hsb := AX.num_bd l (9 + j)
          rw [hs'] at hsb
          obtain ⟨q, hq⟩ : ∃ q, r % 200 = q := ⟨_, rfl⟩
          obtain ⟨p, hp⟩ : ∃ p, s' % 65 = p := ⟨_, rfl⟩
          have hqb : 0 ≤ q ∧ q < 200 := by omega
          have hpb : 0 ≤ p ∧ p < 65 := by omega
          have HL1 : Hid (AX.highs l d M (j + 1) = ((AX.highs l d M j).1 + 1 + q, min 64 ((AX.highs l d M j).2.1 + p), (AX.highs l d M j).2.2 ++ [((AX.highs l d M j).1 + 1 + q, min 64 ((AX.highs l d M j).2.1 + p))])) := Lib.hid (by
            show ((AX.highs l d M j).1 + 1 + AX.num l (7 + j) % 200, min 64 ((AX.highs l d M j).2.1 + AX.num l (9 + j) % 65), (AX.highs l d M j).2.2 ++ [((AX.highs l d M j).1 + 1 + AX.num l (7 + j) % 200, min 64 ((AX.highs l d M j).2.1 + AX.num l (9 + j) % 65))]) = _
            rw [hr, hs', hq, hp])
          have HR := Lib.hid hr
          have HR' := Lib.hid hs'
          clear hr hs'
          obtain ⟨hi, hhi⟩ : ∃ hi, (AX.highs l d M j).1 = hi := ⟨_, rfl⟩
          obtain ⟨y, hy⟩ : ∃ y, (AX.highs l d M j).2.1 = y := ⟨_, rfl⟩
          obtain ⟨L2, hL2⟩ : ∃ L2, (AX.highs l d M j).2.2 = L2 := ⟨_, rfl⟩
          rw [hhi, hy] at hbd
          rw [hhi, hy, hL2] at HL1
          rw [hhi] at HS2
          rw [hL2] at HOWN2
          rw [hy]
          obtain ⟨m, hm⟩ : ∃ m, (if y + p < 64 then y + p else 64) = m := ⟨_, rfl⟩
          have hm2 : min 64 (y + p) = m := by rw [← hm]; split <;> omega
          rw [hm2] at HL1
          have HSd := Lib.hid HS2.out.drew
          have x1 : wo.cell? ⟨Bx, 3, none⟩ = some (.int .i64 hi) := HS2.out.cell rfl
          have xf : wo.frozen? ⟨Bx, 3, none⟩ = false := HS2.out.frozen 3
          have wr1 : IntKind.i64.wrap (7 + (j : Int)) = 7 + (j : Int) := by rw [IntKind.wrap_i64]; omega
          have wr2 : IntKind.i64.wrap (9 + (j : Int)) = 9 + (j : Int) := by rw [IntKind.wrap_i64]; omega
          have wr3 : IntKind.i64.wrap (hi + 1) = hi + 1 := by rw [IntKind.wrap_i64]; omega
          have wq : IntKind.i64.wrap (hi + 1 + r.tmod 200) = hi + 1 + q := by rw [show r.tmod 200 = q from (Int.tmod_eq_emod_of_nonneg hrb.1).trans hq, IntKind.wrap_i64]; omega
          have wr4 : IntKind.i64.wrap (hi + 1 + q) = hi + 1 + q := by rw [IntKind.wrap_i64]; omega
          clear hhi hy hL2 hm2
          go_upto_region 18 with fail
          refine wp_region_last #[{ dst := some 70, op := Op.fieldAddr 24 (Operand.tmp 6) 3, type := 0, pos := "ref.go:229", after := #[], guard := none }, { dst := some 71, op := Op.load 3 (Operand.tmp 70), type := 3, pos := "ref.go:229", after := #[{ on := 0, ground := Ground.data }], guard := none }, { dst := some 72, op := Op.binOp BinOp.add 3 (Operand.tmp 71) (Operand.const (Value.int IntKind.i64 1)) 3, type := 3, pos := "ref.go:229", after := #[{ on := 1, ground := Ground.data }], guard := none }, { dst := some 73, op := Op.move (Operand.tmp 0), type := 25, pos := "ref.go:229", after := #[], guard := none }, { dst := some 74, op := Op.move (Operand.tmp 12), type := 3, pos := "ref.go:229", after := #[], guard := none }, { dst := some 75, op := Op.binOp BinOp.add 3 (Operand.const (Value.int IntKind.i64 7)) (Operand.tmp 74) 3, type := 3, pos := "ref.go:229", after := #[{ on := 4, ground := Ground.data }], guard := none }, { dst := some 76, op := Op.call { callee := Callee.value (Operand.func 43), args := #[Operand.tmp 73, Operand.tmp 75], argTypes := #[25, 3] }, type := 3, pos := "ref.go:229", after := #[{ on := 3, ground := Ground.data }, { on := 5, ground := Ground.data }], guard := none }, { dst := some 77, op := Op.binOp BinOp.rem 3 (Operand.tmp 76) (Operand.const (Value.int IntKind.i64 200)) 3, type := 3, pos := "ref.go:229", after := #[{ on := 6, ground := Ground.data }], guard := none }, { dst := some 78, op := Op.binOp BinOp.add 3 (Operand.tmp 72) (Operand.tmp 77) 3, type := 3, pos := "ref.go:229", after := #[{ on := 2, ground := Ground.data }, { on := 7, ground := Ground.data }], guard := none }, { dst := some 79, op := Op.fieldAddr 24 (Operand.tmp 6) 3, type := 0, pos := "ref.go:229", after := #[{ on := 0, ground := Ground.phase }, { on := 1, ground := Ground.phase }, { on := 2, ground := Ground.phase }, { on := 3, ground := Ground.phase }, { on := 4, ground := Ground.phase }, { on := 5, ground := Ground.phase }, { on := 6, ground := Ground.phase }, { on := 7, ground := Ground.phase }, { on := 8, ground := Ground.phase }], guard := none }] { dst := none, op := Op.store 3 (Operand.tmp 79) (Operand.tmp 78), type := 0, pos := "ref.go:229", after := #[{ on := 9, ground := Ground.data }, { on := 8, ground := Ground.data }, { on := 6, ground := Ground.chain }, { on := 0, ground := Ground.phase }, { on := 1, ground := Ground.phase }, { on := 2, ground := Ground.phase }, { on := 3, ground := Ground.phase }, { on := 4, ground := Ground.phase }, { on := 5, ground := Ground.phase }, { on := 6, ground := Ground.phase }, { on := 7, ground := Ground.phase }, { on := 8, ground := Ground.phase }], guard := none } rfl (by kernel_rfl) (by kernel_rfl) (fun w' => w'.cell? ⟨Bx, 3, none⟩ = some (.int .i64 hi)) ?_ (fun hHeld => ?_)
          · first | exact x1 | exact HSd.out.cell rfl
          refine wpAnyH_take (i := 0) (oi := { dst := some 70, op := Op.fieldAddr 24 (Operand.tmp 6) 3, type := 0, pos := "ref.go:229", after := #[], guard := none }) (v := ?_) rfl (by kernel_rfl) (by kernel_rfl) (by kernel_rfl) (fun _ _ _ h => h) (Or.inl ⟨by rfl, ?_⟩) (by assumption) ?_
          rotate_left
          · ((intro w hSw; (try dsimp only at hSw); go_simp; (try rw [if_neg (by omega)])); try with_reducible rfl)
          (try simp only [Act.put, List.setIfInBounds_toArray, List.set_cons_zero, List.set_cons_succ])
          refine wpAnyH_take (i := 1) (oi := { dst := some 71, op := Op.load 3 (Operand.tmp 70), type := 3, pos := "ref.go:229", after := #[{ on := 0, ground := Ground.data }], guard := none }) (v := ?_) rfl (by kernel_rfl) (by kernel_rfl) (by kernel_rfl) (fun _ _ _ h => h) (Or.inl ⟨by rfl, ?_⟩) (by assumption) ?_
          rotate_left
          · ((intro w hSw; (try dsimp only at hSw); go_simp; (try rw [if_neg (by omega)])); try with_reducible rfl)
          (try simp only [Act.put, List.setIfInBounds_toArray, List.set_cons_zero, List.set_cons_succ])
          refine wpAnyH_take (i := 2) (oi := { dst := some 72, op := Op.binOp BinOp.add 3 (Operand.tmp 71) (Operand.const (Value.int IntKind.i64 1)) 3, type := 3, pos := "ref.go:229", after := #[{ on := 1, ground := Ground.data }], guard := none }) (v := ?_) rfl (by kernel_rfl) (by kernel_rfl) (by kernel_rfl) (fun _ _ _ h => h) (Or.inl ⟨by rfl, ?_⟩) (by assumption) ?_
          rotate_left
          · ((intro w hSw; (try dsimp only at hSw); go_simp; (try rw [if_neg (by omega)])); try with_reducible rfl)
          (try simp only [Act.put, List.setIfInBounds_toArray, List.set_cons_zero, List.set_cons_succ])
          refine wpAnyH_take (i := 3) (oi := { dst := some 73, op := Op.move (Operand.tmp 0), type := 25, pos := "ref.go:229", after := #[], guard := none }) (v := ?_) rfl (by kernel_rfl) (by kernel_rfl) (by kernel_rfl) (fun _ _ _ h => h) (Or.inl ⟨by rfl, ?_⟩) (by assumption) ?_
          rotate_left
          · ((intro w hSw; (try dsimp only at hSw); go_simp; (try rw [if_neg (by omega)])); try with_reducible rfl)
          (try simp only [Act.put, List.setIfInBounds_toArray, List.set_cons_zero, List.set_cons_succ])
          refine wpAnyH_take (i := 4) (oi := { dst := some 74, op := Op.move (Operand.tmp 12), type := 3, pos := "ref.go:229", after := #[], guard := none }) (v := ?_) rfl (by kernel_rfl) (by kernel_rfl) (by kernel_rfl) (fun _ _ _ h => h) (Or.inl ⟨by rfl, ?_⟩) (by assumption) ?_
          rotate_left
          · ((intro w hSw; (try dsimp only at hSw); go_simp; (try rw [if_neg (by omega)])); try with_reducible rfl)
          (try simp only [Act.put, List.setIfInBounds_toArray, List.set_cons_zero, List.set_cons_succ])
          refine wpAnyH_take (i := 5) (oi := { dst := some 75, op := Op.binOp BinOp.add 3 (Operand.const (Value.int IntKind.i64 7)) (Operand.tmp 74) 3, type := 3, pos := "ref.go:229", after := #[{ on := 4, ground := Ground.data }], guard := none }) (v := ?_) rfl (by kernel_rfl) (by kernel_rfl) (by kernel_rfl) (fun _ _ _ h => h) (Or.inl ⟨by rfl, ?_⟩) (by assumption) ?_
          rotate_left
          · ((intro w hSw; (try dsimp only at hSw); go_simp; (try rw [if_neg (by omega)])); try with_reducible rfl)
          (try simp only [Act.put, List.setIfInBounds_toArray, List.set_cons_zero, List.set_cons_succ])
          refine wpAnyH_ready (rs := [6]) (by kernel_rfl) (by simp) ?_
          refine AllReadyH.cons (o := { dst := some 76, op := Op.call { callee := Callee.value (Operand.func 43), args := #[Operand.tmp 73, Operand.tmp 75], argTypes := #[25, 3] }, type := 3, pos := "ref.go:229", after := #[{ on := 3, ground := Ground.data }, { on := 5, ground := Ground.data }], guard := none }) rfl (fun K hK => ?_) AllReadyH.nil
          (go_simp; go_at_call 43; refine (number_c (k := 7 + j) HR.out (by omega) _ _ (HV.out _ HSd.out.bel) HLL.out (by omega)).mono ?_; rintro e w3 ⟨rfl, he⟩; have he' := he.symm; subst he'; dsimp only)
          refine hK.out _ _ ?_ (fun hHeld => ?_)
          · first | exact x1 | exact HSd.out.cell rfl
          clear hK K
          (try simp only [Act.put, List.setIfInBounds_toArray, List.set_cons_zero, List.set_cons_succ])
          refine wpAnyH_take (i := 7) (oi := { dst := some 77, op := Op.binOp BinOp.rem 3 (Operand.tmp 76) (Operand.const (Value.int IntKind.i64 200)) 3, type := 3, pos := "ref.go:229", after := #[{ on := 6, ground := Ground.data }], guard := none }) (v := ?_) rfl (by kernel_rfl) (by kernel_rfl) (by kernel_rfl) (fun _ _ _ h => h) (Or.inl ⟨by rfl, ?_⟩) (by assumption) ?_
          rotate_left
          · ((intro w hSw; (try dsimp only at hSw); go_simp; (try rw [if_neg (by omega)])); try with_reducible rfl)
          (try simp only [Act.put, List.setIfInBounds_toArray, List.set_cons_zero, List.set_cons_succ])
          refine wpAnyH_take (i := 8) (oi := { dst := some 78, op := Op.binOp BinOp.add 3 (Operand.tmp 72) (Operand.tmp 77) 3, type := 3, pos := "ref.go:229", after := #[{ on := 2, ground := Ground.data }, { on := 7, ground := Ground.data }], guard := none }) (v := ?_) rfl (by kernel_rfl) (by kernel_rfl) (by kernel_rfl) (fun _ _ _ h => h) (Or.inl ⟨by rfl, ?_⟩) (by assumption) ?_
          rotate_left
          · ((intro w hSw; (try dsimp only at hSw); go_simp; (try rw [if_neg (by omega)])); try with_reducible rfl)
          (try simp only [Act.put, List.setIfInBounds_toArray, List.set_cons_zero, List.set_cons_succ])
          refine wpAnyH_take (i := 9) (oi := { dst := some 79, op := Op.fieldAddr 24 (Operand.tmp 6) 3, type := 0, pos := "ref.go:229", after := #[{ on := 0, ground := Ground.phase }, { on := 1, ground := Ground.phase }, { on := 2, ground := Ground.phase }, { on := 3, ground := Ground.phase }, { on := 4, ground := Ground.phase }, { on := 5, ground := Ground.phase }, { on := 6, ground := Ground.phase }, { on := 7, ground := Ground.phase }, { on := 8, ground := Ground.phase }], guard := none }) (v := ?_) rfl (by kernel_rfl) (by kernel_rfl) (by kernel_rfl) (fun _ _ _ h => h) (Or.inl ⟨by rfl, ?_⟩) (by assumption) ?_
          rotate_left
          · ((intro w hSw; (try dsimp only at hSw); go_simp; (try rw [if_neg (by omega)])); try with_reducible rfl)
          (try simp only [Act.put, List.setIfInBounds_toArray, List.set_cons_zero, List.set_cons_succ])
          refine wpAnyH_done (by kernel_rfl) ?_ _
          show Oper.wp _ _ _ _ _ _
          go_simp
          go_upto_region 19 with fail
          try rw [wq]
          obtain ⟨WF, hWF⟩ : ∃ WF, (wo.setCell ⟨Bx, 3, none⟩ (.int .i64 (hi + 1 + q))).drew = WF := ⟨_, rfl⟩
          have hsf := (HS2.out.setHi (hi + 1 + q)).drew
          have hof : WF.ownsRow (Bx + 1) 30 2 (.slice ma (k + 1 + j) mc) (k + 1 + j) (AX.prc L2) := by rw [← hWF]; exact own_drew (own_mx HOWN2.out)
          rw [hWF] at hsf ⊢
          have HSF := Lib.hid hsf
          have HOF := Lib.hid hof
          clear hWF hsf hof x1 xf
          go_wp2_with fail
          refine (number_c (k := 9 + j) HR'.out (by omega) _ _ (HV.out _ HSF.out.bel) HLL.out (by omega)).mono ?_
          rintro e w3 ⟨rfl, he⟩
          have he' := he.symm
          subst he'
          have x3 : WF.cell? ⟨Bx, 3, none⟩ = some (.int .i64 (hi + 1 + q)) := HSF.out.cell rfl
          have x4 : WF.cell? ⟨Bx, 4, none⟩ = some (.slice ma (k + 1 + j) mc) := HSF.out.cell rfl
          go_upto_region 17 with (at_builtin; refine wpList_appN _ rfl _ _ 22 rfl (Bx + 1) 30 i0 (.agg #[.int .i64 0, .int .i64 0]) 2 16 Try.underlying22 hi0 hz0 hz1 hz2 rfl (by decide) _ _ _ rfl (HOF.out.alloc _) _ 1 (AX.prc [(hi + 1 + q, m)]) rfl (srcN_new _ (AX.prc [(hi + 1 + q, m)]) _ 2 1 1 rfl) (AX.prc_one _) (by unfold maxLen; omega) (by omega) (by have := HSF.out.lt; simp; omega) ?_; intro v' w1 hown' hgrow hat; obtain ⟨g', cap', rfl⟩ := ownsRow_succ hown'; have hs1 := (HSF.out.alloc (.cells (AX.prc [(hi + 1 + q, m)]).toArray 30)).grown hgrow (fun j ej => by have := (HOF.out.lt j ej).1; omega); have z4 := hs1.cell (j := 4) rfl; have f4 := hs1.frozen 4)
          have HS3 := Lib.hid (hs1.setMap (.slice (some ⟨g', 0, none⟩) (k + 1 + j + 1) cap'))
          have HO3 := Lib.hid (own_mx (j := 4) (u := .slice (some ⟨g', 0, none⟩) (k + 1 + j + 1) cap') hown')
          clear hs1 hown' hgrow hat z4 f4
          go_wp2_with fail
          go_roundw
          case rel => exact ⟨j + 1, .slice (some ⟨g', 0, none⟩) (k + 1 + j + 1) cap', by rw [HL1.out], by go_num, h2, by rw [HL1.out]; exact HS3.out, by rw [HL1.out, AX.prc_app]; exact HO3.out⟩
          case measure => simp [intOf]; omega
        · obtain rfl : j = high := by omega
          have HLN := Lib.hid (AX.highs_len l d M j)
          obtain ⟨hi, hhi⟩ : ∃ hi, (AX.highs l d M j).1 = hi := ⟨_, rfl⟩
          obtain ⟨L2, hL2⟩ : ∃ L2, (AX.highs l d M j).2.2 = L2 := ⟨_, rfl⟩
          rw [hhi] at HS2
          rw [hL2] at HOWN2 HLN
          rw [hhi, hL2] at HM
          have x0 := HS2.out.cell (j := 0) rfl
          have x1 := HS2.out.cell (j := 1) rfl
          have x2 := HS2.out.cell (j := 2) rfl
          have x3 := HS2.out.cell (j := 3) rfl
          have x4 := HS2.out.cell (j := 4) rfl
          have hres := HS2.out.res
          have y0 : wo.cell? ⟨w.heap.size, 0, none⟩ = some (.string ⟨#[]⟩) := by simp [World.cell?, hres]
          have y1 : wo.cell? ⟨w.heap.size, 1, none⟩ = some (.int .i64 0) := by simp [World.cell?, hres]
          have y2 : wo.cell? ⟨w.heap.size, 2, none⟩ = some (.int .i64 0) := by simp [World.cell?, hres]
          have y3 : wo.cell? ⟨w.heap.size, 3, none⟩ = some (.int .i64 0) := by simp [World.cell?, hres]
          have y4 : wo.cell? ⟨w.heap.size, 4, none⟩ = some (.slice none 0 0) := by simp [World.cell?, hres]
          have g0 : wo.frozen? ⟨w.heap.size, 0, none⟩ = false := by simp [World.frozen?, hres]
          have g1 : wo.frozen? ⟨w.heap.size, 1, none⟩ = false := by simp [World.frozen?, hres]
          have g2 : wo.frozen? ⟨w.heap.size, 2, none⟩ = false := by simp [World.frozen?, hres]
          have g3 : wo.frozen? ⟨w.heap.size, 3, none⟩ = false := by simp [World.frozen?, hres]
          have g4 : wo.frozen? ⟨w.heap.size, 4, none⟩ = false := by simp [World.frozen?, hres]
          have hz := five_set hres (.string s) (.int .i64 lo) (.int .i64 d) (.int .i64 hi) (.slice ma (k + 1 + j) mc)
          have hkp := five_kept wo w.heap.size (.string s) (.int .i64 lo) (.int .i64 d) (.int .i64 hi) (.slice ma (k + 1 + j) mc)
          have HZ := Lib.hid hz
          have HKP := Lib.hid hkp
          clear hz hkp hres hhi hL2
          go_wp2
          refine bodyPost_ret (v := .agg #[.string s, .int .i64 lo, .int .i64 d, .int .i64 hi, .slice ma (k + 1 + j) mc]) (results_cell_row Try.results13 _ _ w.heap.size 24 _ (0, 0) _ rfl HZ.out Try.underlying24 rfl (by kernel_rfl)) rfl ?_
          refine ⟨.slice ma (k + 1 + j) mc, by rw [HM.out]; rfl, ?_, HS2.out.bel.grown HKP.out HS2.out.bel.size (fun q e => by have := Option.some.inj e; omega)⟩
          rw [HM.out]
          show World.ownsRow _ _ _ _ _ L2.length (AX.prc L2)
          rw [HLN.out, HML.out]
          exact own_base (own_of_grown HOWN2.out HKP.out (fun q h1 e => by have := (HOWN2.out.lt q h1).1; have := HS2.out.le; have := Option.some.inj e; omega)) (by have := HS2.out.le; omega)
end Go.Proofs.Ytbhkbjnmpaebdaa
