/- Plain facts: the forms of clusters, and the order of places. No conditions. -/
import Derived.Test.YtkacbmimmnlhlaaDoorCluFactsL
namespace Go.Proofs.YtkacbmimmnlhlaaDoor.FP
open CP
/-- The class of the head, and of the last character. -/
def hd (s : ByteArray) (x : Nat × Nat) : Int := cl s (base s (x.1 : Int) (x.2 : Int)).toNat
def en (s : ByteArray) (x : Nat × Nat) : Int := cl s (x.2 - 1)
def lt (c : Int) : Bool := decide (c = 7) || decide (c = 8)
/-- Whether there is a cluster k that may be joined to; whether k joins on; whether it is joined to. -/
def fol (s : ByteArray) (l : List (Nat × Nat)) (k : Nat) : Bool := match l[k]? with
  | some x => lt (hd s x)
  | none => false
def onx (s : ByteArray) (l : List (Nat × Nat)) (k : Nat) : Bool := match l[k]? with
  | some x => decide (hd s x = 7) && (!decide (en s x = 14) && (decide (en s x = 13) || fol s l (k + 1)))
  | none => false
def tox (s : ByteArray) (l : List (Nat × Nat)) (k : Nat) : Bool := decide (0 < k) && (fol s l k && onx s l (k - 1))
def frm (s : ByteArray) (l : List (Nat × Nat)) (k : Nat) : Int :=
  if fol s l k then (if tox s l k then (if onx s l k then 3 else 4) else (if onx s l k then 2 else 1)) else 0
def forms (s : ByteArray) : List Int := (List.range (split s).length).map (frm s (split s))
theorem forms_length (s : ByteArray) : (forms s).length = (split s).length := by rw [forms, List.length_map, List.length_range]
theorem forms_get {s : ByteArray} {k : Nat} (h : k < (split s).length) : (forms s)[k]? = some (frm s (split s) k) := by
  rw [forms, List.getElem?_map, List.getElem?_range h]; rfl
theorem fol_at {s : ByteArray} {l : List (Nat × Nat)} {k : Nat} {x : Nat × Nat} (h : l[k]? = some x) : fol s l k = lt (hd s x) := by unfold fol; rw [h]
theorem fol_no {s : ByteArray} {l : List (Nat × Nat)} {k : Nat} (h : l.length ≤ k) : fol s l k = false := by unfold fol; rw [List.getElem?_eq_none h]
theorem onx_at {s : ByteArray} {l : List (Nat × Nat)} {k : Nat} {x : Nat × Nat} (h : l[k]? = some x) : onx s l k = (decide (hd s x = 7) && (!decide (en s x = 14) && (decide (en s x = 13) || fol s l (k + 1)))) := by unfold onx; rw [h]
theorem lt_7 {c : Int} (h : c = 7) : lt c = true := by unfold lt; simp [h]
theorem onx_fol {s : ByteArray} {l : List (Nat × Nat)} {k : Nat} (h : onx s l k = true) : fol s l k = true := by
  unfold onx at h
  unfold fol
  split at h
  · rename_i x hx
    simp only [Bool.and_eq_true, decide_eq_true_eq] at h
    exact lt_7 h.1
  · cases h
theorem tox_fol {s : ByteArray} {l : List (Nat × Nat)} {k : Nat} (h : tox s l k = true) : fol s l k = true ∧ 0 < k ∧ onx s l (k - 1) = true := by
  unfold tox at h
  simp only [Bool.and_eq_true, decide_eq_true_eq] at h
  exact ⟨h.2.1, h.1, h.2.2⟩
theorem frm_bd (s : ByteArray) (l : List (Nat × Nat)) (k : Nat) : 0 ≤ frm s l k ∧ frm s l k ≤ 4 := by
  unfold frm
  cases fol s l k <;> cases tox s l k <;> cases onx s l k <;> simp
theorem frm_zero (s : ByteArray) (l : List (Nat × Nat)) (k : Nat) : decide (frm s l k = 0) = !fol s l k := by
  unfold frm
  cases fol s l k <;> cases tox s l k <;> cases onx s l k <;> simp
theorem frm_on (s : ByteArray) (l : List (Nat × Nat)) (k : Nat) : (decide (frm s l k = 2) || decide (frm s l k = 3)) = onx s l k := by
  have h := @onx_fol s l k
  unfold frm
  generalize onx s l k = o at h ⊢
  cases o with
  | true => rw [h rfl]; cases tox s l k <;> simp
  | false => cases fol s l k <;> cases tox s l k <;> simp
theorem frm_to (s : ByteArray) (l : List (Nat × Nat)) (k : Nat) : (decide (frm s l k = 4) || decide (frm s l k = 3)) = tox s l k := by
  have h := @tox_fol s l k
  unfold frm
  generalize tox s l k = o at h ⊢
  cases o with
  | true => rw [(h rfl).1]; cases onx s l k <;> simp
  | false => cases fol s l k <;> cases onx s l k <;> simp
/-- What joins on, and does not end with a joiner, is followed by what is joined to. -/
theorem next_to {s : ByteArray} {l : List (Nat × Nat)} {k : Nat} {x : Nat × Nat} (hx : l[k]? = some x) (h : onx s l k = true) (hj : en s x ≠ 13) : k + 1 < l.length ∧ tox s l (k + 1) = true := by
  have h2 := h
  rw [onx_at hx] at h2
  simp only [Bool.and_eq_true, Bool.or_eq_true, decide_eq_true_eq] at h2
  have h3 := h2.2.2.resolve_left hj
  refine ⟨?_, ?_⟩
  · by_cases c : k + 1 < l.length
    · exact c
    · rw [fol_no (by omega)] at h3; cases h3
  · unfold tox
    rw [h3, Nat.add_sub_cancel, h]; simp
/-- What is joined to stands behind what joins on. -/
theorem prev_on {s : ByteArray} {l : List (Nat × Nat)} {k : Nat} (h : tox s l k = true) : 0 < k ∧ onx s l (k - 1) = true := ⟨(tox_fol h).2.1, (tox_fol h).2.2⟩
/-- The places of so many from i on whose class is such. -/
def plc (s : ByteArray) (P : Int → Bool) : Nat → Nat → List Int
  | 0, _ => []
  | g + 1, i => if P (cl s i) then (i : Int) :: plc s P g (i + 1) else plc s P g (i + 1)
def isB (c : Int) : Bool := decide (c = 12)
def isR (c : Int) : Bool := !(decide (c = 12) || (decide (c = 13) || decide (c = 14)))
def ord (s : ByteArray) (f t : Int) : List Int :=
  if f < 0 ∨ t ≤ f ∨ (s.size : Int) < t then [] else plc s isB (t - f).toNat f.toNat ++ plc s isR (t - f).toNat f.toNat
theorem ord_bad {s : ByteArray} {f t : Int} (h : f < 0 ∨ t ≤ f ∨ (s.size : Int) < t) : ord s f t = [] := if_pos h
theorem ord_good {s : ByteArray} {f t : Nat} (h : f < t) (ht : t ≤ s.size) : ord s f t = plc s isB (t - f) f ++ plc s isR (t - f) f := by
  unfold ord
  rw [if_neg (by omega), show ((t : Int) - (f : Int)).toNat = t - f by omega, show ((f : Nat) : Int).toNat = f by omega]
theorem plc_snoc (s : ByteArray) (P : Int → Bool) : ∀ g i, plc s P (g + 1) i = plc s P g i ++ (if P (cl s (i + g)) then [((i + g : Nat) : Int)] else [])
  | 0, i => by unfold plc; cases P (cl s i) <;> simp [plc]
  | g + 1, i => by
    rw [plc, plc_snoc s P g (i + 1), plc, show i + 1 + g = i + (g + 1) by omega]
    cases P (cl s i) <;> simp
theorem plc_length (s : ByteArray) (P : Int → Bool) : ∀ g i, (plc s P g i).length ≤ g
  | 0, i => Nat.le_refl _
  | g + 1, i => by
    have := plc_length s P g (i + 1)
    unfold plc
    split
    · rw [List.length_cons]; omega
    · omega
theorem plc_mem {s : ByteArray} {P : Int → Bool} {x : Int} : ∀ {g i : Nat}, x ∈ plc s P g i ↔ ∃ k : Nat, x = (k : Int) ∧ i ≤ k ∧ k < i + g ∧ P (cl s k) = true
  | 0, i => by
    constructor
    · intro h; cases h
    · rintro ⟨k, _, h1, h2, _⟩; omega
  | g + 1, i => by
    unfold plc
    have ih := plc_mem (s := s) (P := P) (x := x) (g := g) (i := i + 1)
    by_cases hp : P (cl s i) = true
    · rw [if_pos hp, List.mem_cons, ih]
      constructor
      · rintro (h | ⟨k, h1, h2, h3, h4⟩)
        · exact ⟨i, h, by omega, by omega, hp⟩
        · exact ⟨k, h1, by omega, by omega, h4⟩
      · rintro ⟨k, h1, h2, h3, h4⟩
        by_cases e : k = i
        · exact .inl (by rw [h1, e])
        · exact .inr ⟨k, h1, by omega, by omega, h4⟩
    · rw [if_neg hp, ih]
      constructor
      · rintro ⟨k, h1, h2, h3, h4⟩; exact ⟨k, h1, by omega, by omega, h4⟩
      · rintro ⟨k, h1, h2, h3, h4⟩
        by_cases e : k = i
        · subst e; exact absurd h4 hp
        · exact ⟨k, h1, by omega, by omega, h4⟩
end Go.Proofs.YtkacbmimmnlhlaaDoor.FP
