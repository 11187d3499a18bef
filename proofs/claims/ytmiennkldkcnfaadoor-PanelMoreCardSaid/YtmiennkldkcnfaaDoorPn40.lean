/- One rectangle of a plan is written into a panel: with power, or while it fails. No conditions. -/
import Derived.Test.YtmiennkldkcnfaaDoorPn37
import Derived.Test.YtmiennkldkcnfaaDoorPn22
namespace Go.Proofs.YtmiennkldkcnfaaDoor
set_option maxRecDepth 100000
set_option linter.unusedVariables false
open Go.ChangeShapes Go.WideShapes Go.ChangeAt Go.RowKit Go.Joins Go.Deep
section
variable {V : World} {b g Y : Nat} {P : Pn} {N : List Nat} {c : Rc} {v : Value}
theorem cut_props (ho : PnOk P) (hc : wiP c P.w P.R.length) (hl : N.length = P.R.length) (h : V.ownsRow Y 63 1 v (cutL N c).length ((cutL N c).map U6)) (hb : b < Y) (hg : g < Y) :
    UA V v (cutL N c) ∧ (∀ q, v.ownBlock = some q → q ≠ b ∧ q ≠ g) ∧ (cutL N c).length ≤ 1000000 ∧ (∀ r ∈ cutL N c, r < 18446744073709551616) ∧ rcOk c := by
  have h64 := ho.w64
  have hh := ho.h64
  obtain ⟨h1, h2, h3, h4, h5, h6, h7, h8⟩ := id hc
  obtain ⟨hgd, hlen⟩ := cut_good ho hc hl
  refine ⟨own_ua h, fun q hq => ?_, by omega, fun r hr => ?_, by unfold rcOk; omega⟩
  · obtain ⟨q', c', e1, e2, e3, e4⟩ := own_q h (by omega)
    rw [e1] at hq
    have : q' = q := Option.some.inj hq
    omega
  · have := anyW_no hgd.2.2 r hr
    exact Nat.lt_of_lt_of_le this (Nat.pow_le_pow_right (n := 2) (j := 64) (by decide) (by omega))
theorem ovl_ok (ho : PnOk P) (hu : P.upd < 1000000) (hf : P.fa = false) (hc : wiP c P.w P.R.length) (hl : N.length = P.R.length) : PnOk ⟨P.w, ovl P.R N c, P.upd + 1, false, P.left⟩ := by
  have h := (wr_ok ho hu c (cutL N c)).1
  rw [cut_wr ho hf hc hl] at h
  exact h
/-- With power. -/
theorem on_step (h : PnAt V b g P) (ho : PnOk P) (hf : P.fa = false) (hu : P.upd < 1000000) (hc : wiP c P.w P.R.length) (hl : N.length = P.R.length) (hown : V.ownsRow Y 63 1 v (cutL N c).length ((cutL N c).map U6)) (hb : b < Y) (hg : g < Y) :
    Calls Tryd.prog 30 #[.pointer (some ⟨b, 0, none⟩), rcV c, v] V fun e w' => e = .returned (.int .i64 0) ∧ PnAt w' b g ⟨P.w, ovl P.R N c, P.upd + 1, false, P.left⟩ ∧ FrS (FP b g) V w' := by
  obtain ⟨k1, k2, k3, k4, k5⟩ := cut_props ho hc hl hown hb hg
  have := wr_any h ho hu c k5 (cutL N c) v k1 k2 k3 k4
  rw [cut_wr ho hf hc hl] at this
  exact this
/-- While it fails. -/
theorem off_step {A : List Nat} {w rows H : Nat} (h : PnAt V b g P) (hs : Fst A N w rows H P) (hla : A.length = N.length) (hu : P.upd < 1000000) (hc : wiP c w A.length) (hown : V.ownsRow Y 63 1 v (cutL N c).length ((cutL N c).map U6)) (hb : b < Y) (hg : g < Y) :
    Calls Tryd.prog 30 #[.pointer (some ⟨b, 0, none⟩), rcV c, v] V fun e w' => ∃ P', e = .returned (.int .i64 (if rows < H + c.h.toNat then 52 else 0)) ∧ PnAt w' b g P' ∧ Fst A N w rows (H + c.h.toNat) P' ∧ P'.upd ≤ P.upd + 1 ∧ FrS (FP b g) V w' := by
  obtain ⟨k1, k2, k3, k4, k5⟩ := cut_props hs.ok (by rw [hs.w, hs.len]; exact hc) (by rw [hs.len]; exact hla.symm) hown hb hg
  obtain ⟨e1, e2, e3⟩ := fst_step hs hla hc hu
  have := wr_any h hs.ok hu c k5 (cutL N c) v k1 k2 k3 k4
  rw [e1] at this
  exact this.mono fun e w' ⟨q1, q2, q3⟩ => ⟨_, q1, q2, e2, e3, q3⟩
end
/-- A page: its rows, and how many there are. -/
structure Pg (U : World) (Y g c n w : Nat) (L : List Nat) : Prop where
  own : U.ownsRow Y 63 1 (.slice (some ⟨g, 0, none⟩) n c) n (L.map U6)
  len : L.length = n
  lt : ∀ r ∈ L, r < 2 ^ w
  lo : Y ≤ g
  hi : g < U.heap.size
  cap : n ≤ c
section
variable {U V : World} {Y g c n w : Nat} {L : List Nat}
theorem Pg.keep (h : Pg U Y g c n w L) (hb : Below U.heap.size U V) : Pg V Y g c n w L := ⟨own_below h.own hb, h.len, h.lt, h.lo, Nat.lt_of_lt_of_le h.hi hb.size, h.cap⟩
theorem Pg.frame {S : Nat → Prop} (h : Pg U Y g c n w L) (hf : FrS S U V) (hs : ¬ S g) : Pg V Y g c n w L := ⟨hf.own h.own (fun q hq => by have : g = q := Option.some.inj hq; rw [← this]; exact hs), h.len, h.lt, h.lo, Nat.lt_of_lt_of_le h.hi hf.size, h.cap⟩
theorem Pg.ua (h : Pg U Y g c n w L) : UA U (.slice (some ⟨g, 0, none⟩) n c) L := own_ua h.own
theorem Pg.cell (h : Pg U Y g c n w L) {k x : Nat} (hk : L[k]? = some x) : U.cell? ⟨g, k, none⟩ = some (U6 x) := by
  obtain ⟨g', o, e, -, hc⟩ := h.ua.cell hk
  injection e with e
  injection e with e1 e2
  subst e1 e2
  rw [Nat.zero_add] at hc
  exact hc
theorem Pg.lt64 (h : Pg U Y g c n w L) (hw : w ≤ 64) : ∀ r ∈ L, r < 18446744073709551616 := fun r hr => Nat.lt_of_lt_of_le (h.lt r hr) (Nat.pow_le_pow_right (n := 2) (j := 64) (by decide) hw)
theorem pg_of {v : Value} (h : U.ownsRow Y 63 1 v n (L.map U6)) (hn : 0 < n) (hl : ∀ r ∈ L, r < 2 ^ w) : ∃ g c, v = .slice (some ⟨g, 0, none⟩) n c ∧ Pg U Y g c n w L := by
  obtain ⟨q, c, rfl, e2, e3, e4⟩ := own_q h hn
  have := h.1
  rw [List.length_map, Nat.mul_one] at this
  exact ⟨q, c, rfl, h, this, hl, e2, e3, e4⟩
end
end Go.Proofs.YtmiennkldkcnfaaDoor
