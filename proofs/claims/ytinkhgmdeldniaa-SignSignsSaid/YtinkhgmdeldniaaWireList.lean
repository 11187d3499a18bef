/- The lists of package wire: the bytes of a list are those of its length and of its elements, one after the other. -/
import Derived.Test.YtinkhgmdeldniaaWireBuild
namespace Go.Proofs.Ytinkhgmdeldniaa.W
set_option maxRecDepth 100000
open Go.RowKit

/-- The values of a list, as a slice that lies in memory. -/
def RowAt (w : World) (v : Value) (U : List Value) : Prop := ∃ a cap, v = .slice a U.length cap ∧ (U = [] ∨ ∃ g o, a = some ⟨g, o, none⟩ ∧ g < w.heap.size ∧ ∀ i, i < U.length → w.cell? ⟨g, o + i, none⟩ = some (U.getD i (.bool false)))
theorem RowAt.out {w : World} {v : Value} {U : List Value} (h : RowAt w v U) : ∃ a cap, v = .slice a U.length cap ∧ (U = [] ∨ ∃ g o, a = some ⟨g, o, none⟩ ∧ g < w.heap.size ∧ ∀ i, i < U.length → w.cell? ⟨g, o + i, none⟩ = some (U.getD i (.bool false))) := h
theorem RowAt.keep {w w' : World} {v : Value} {U : List Value} (h : RowAt w v U) (hb : Below w.heap.size w w') : RowAt w' v U := by
  obtain ⟨a, cap, rfl, h | ⟨g, o, rfl, hg, hc⟩⟩ := h.out
  · exact ⟨a, cap, rfl, Or.inl h⟩
  · exact ⟨_, cap, rfl, Or.inr ⟨g, o, rfl, Nat.lt_of_lt_of_le hg hb.size, fun i hi => (hb.cell (p := ⟨g, o + i, none⟩) hg).trans (hc i hi)⟩⟩
theorem byteCells_strCells (l : List UInt8) : Lib.strCells (WP.S l) = Lib.byteCells l := by simp [Lib.strCells, Lib.byteCells, WP.S]
theorem byteCells_append (a b : List UInt8) : Lib.byteCells (a ++ b) = Lib.byteCells a ++ Lib.byteCells b := by simp [Lib.byteCells]
namespace WP
def ints (L : List Int) : List UInt8 := int L.length ++ L.flatMap int
def texts (L : List (List UInt8)) : List UInt8 := int L.length ++ L.flatMap text
def upto {α : Type} (f : α → List UInt8) (n : Int) (L : List α) (k : Nat) : List UInt8 := int n ++ (L.take k).flatMap f
theorem upto_next {α : Type} (f : α → List UInt8) (n : Int) (L : List α) (k : Nat) (h : k < L.length) : upto f n L (k + 1) = upto f n L k ++ f L[k] := by
  unfold upto
  rw [List.take_add_one, List.getElem?_eq_getElem h, List.flatMap_append]
  simp
theorem upto_all {α : Type} (f : α → List UInt8) (n : Int) (L : List α) (k : Nat) (h : L.length ≤ k) : upto f n L k = int n ++ L.flatMap f := by
  unfold upto; rw [List.take_of_length_le h]
theorem flat_len {α : Type} (f : α → List UInt8) (m : Nat) : ∀ (L : List α), (∀ x, x ∈ L → (f x).length ≤ m) → (L.flatMap f).length ≤ m * L.length
  | [], _ => by simp
  | x :: L, h => by
    have := flat_len f m L (fun y hy => h y (List.mem_cons_of_mem _ hy))
    have := h x (List.mem_cons_self ..)
    simp only [List.flatMap_cons, List.length_append, List.length_cons]
    have : m * (L.length + 1) = m * L.length + m := Nat.mul_succ _ _
    omega
theorem upto_len {α : Type} (f : α → List UInt8) (n : Int) (m : Nat) (L : List α) (k : Nat) (h : ∀ x, x ∈ L → (f x).length ≤ m) : (upto f n L k).length ≤ 10 + m * L.length := by
  unfold upto
  have h1 := flat_len f m (L.take k) (fun x hx => h x (List.mem_of_mem_take hx))
  have h2 := int_len n
  have h3 : m * (L.take k).length ≤ m * L.length := Nat.mul_le_mul_left _ (by simp; omega)
  simp only [List.length_append]
  omega
theorem text_len (s : List UInt8) : (text s).length ≤ 10 + s.length := by unfold text; have := int_len (s.length : Int); simp only [List.length_append]; omega
end WP

theorem isb_keep {B b : Nat} {bs : List Value} {w w' : World} (h : IsB B b bs w) (hb : Below w.heap.size w w') : IsB B b bs w' := by
  have key : ∀ p, Lib.BuilderAt 104 5 B b p bs w → Lib.BuilderAt 104 5 B b p bs w' := fun p hp => by
    have hlt := hp.lt
    obtain ⟨hB, v, hbk, hown, hne⟩ := hp
    exact ⟨hB, v, (hb.block b hlt).trans hbk, hown.kept (row := none) ⟨hb.os, hb.tape, hb.output, hb.size, fun k hk _ => hb.block k hk⟩ (by cases hw : v.ownBlock with | none => exact Or.inl rfl | some k => exact Or.inr (by simp)), hne⟩
  exact h.imp (key _) (key _)
theorem text_s (s : List UInt8) (w : World) (hs : s.length ≤ 4611686018427387904) :
    Calls Try.prog 72 #[.string (WP.S s)] w fun e w' => e = .returned (.string (WP.S (WP.text s))) ∧ Below w.heap.size w w' := by
  have := text_any (WP.S s) w (by rw [WP.S_size]; exact hs)
  rwa [WP.S_toList] at this
def LRel {α : Type} (w : World) (f : α → List UInt8) (L : List α) (i : Value) (wr : World) : Prop := ∃ k : Nat, k ≤ L.length ∧ i = .int .i64 k ∧ BAt w.heap.size w.heap.size (Lib.byteCells (WP.upto f L.length L k)) wr ∧ Below w.heap.size w wr
theorem LRel.out {α : Type} {w : World} {f : α → List UInt8} {L : List α} {i : Value} {wr : World} (h : LRel w f L i wr) : ∃ k : Nat, k ≤ L.length ∧ i = .int .i64 k ∧ BAt w.heap.size w.heap.size (Lib.byteCells (WP.upto f L.length L k)) wr ∧ Below w.heap.size w wr := h

set_option maxRecDepth 100000 in
set_option maxHeartbeats 1000000 in
theorem texts_any (v : Value) (L : List (List UInt8)) (m : Nat) (w : World) (hv : RowAt w v (L.map (fun s => Value.string (WP.S s)))) (hm : ∀ x, x ∈ L → (WP.text x).length ≤ m) (hr : ∀ x, x ∈ L → x.length ≤ 4611686018427387904) (hl : 10 + m * L.length + m ≤ 140737488355328) (hL : L.length ≤ 1000000000000) :
    Calls Try.prog 73 #[v, .func (.func 72) #[] #[]] w fun e w' => e = .returned (.string (WP.S (WP.texts L))) ∧ Below w.heap.size w w' := by
  obtain ⟨a, cap, rfl, hrow⟩ := hv.out
  have HROW := Lib.hid hrow
  clear hrow hv
  have hml : (L.map (fun s => Value.string (WP.S s))).length = L.length := by simp
  rw [hml]
  have h10 := WP.int_size (L.length : Int)
  have hfresh := Lib.hid (Lib.fresh_isBuilder 104 5 w)
  go_enter Try.func73, Try.ntmps73
  go_wp2_with (first | (go_at_call 42; refine (int_any _ _ (by omega) (by omega)).mono ?_; rintro e w1 ⟨rfl, hb1⟩) | (go_at_call 83; refine (write_any w.heap.size w.heap.size [] _ _ (isb_keep hfresh.out (by simpa using hb1)) (by simp; omega) (by have := hb1.size; simp at this; omega)).mono ?_; rintro e w2 ⟨rfl, hB2, hb2⟩))
  go_loopw [14] (fun i wr => LRel w WP.text L i wr) (fun i _ => L.length - (intOf i).toNat)
  case atStart => exact ⟨0, Nat.zero_le _, rfl, by simpa [WP.upto, byteCells_strCells] using hB2, (bnext (balloc (Below.refl _ _) _) hb1).trans hb2⟩
  case round =>
    obtain ⟨k, hk, rfl, hB, hb⟩ := hrel.out
    by_cases hkl : k < L.length
    · obtain ⟨g, o, rfl, hg, hc⟩ := HROW.out.resolve_left (by intro h; simp at h; simp [h] at hkl)
      have hcell := (hb.cell (p := ⟨g, o + k, none⟩) hg).trans (hc k (by rw [hml]; exact hkl))
      have hki : (k : Int) < (L.length : Int) := by omega
      have hlt := hB.lt
      have hsz : Hid (∀ x, x ∈ L → (Lib.byteCells (WP.upto WP.text L.length L k)).length + (WP.S (WP.text x)).size ≤ 140737488355328) := Lib.hid fun x hx => by
        have h1 := WP.upto_len WP.text L.length m L k hm
        have h2 := hm x hx
        have h3 : m ≤ m * L.length := Nat.le_mul_of_pos_right _ (by omega)
        simp only [Lib.byteCells, List.length_map, WP.S_size]
        omega
      go_wp2_with (first | (go_at_call 72; refine (text_s _ _ (hr _ (by simp))).mono ?_; rintro e w3 ⟨rfl, hb3⟩) | (go_at_call 83; refine (write_any w.heap.size w.heap.size (Lib.byteCells (WP.upto WP.text L.length L k)) _ _ (isb_keep (.inr hB) hb3) (hsz.out L[k] (by simp)) (by have := hb3.size; omega)).mono ?_; rintro e w4 ⟨rfl, hB4, hb4⟩))
      go_roundw
      case rel => exact ⟨k + 1, by omega, by go_num, by rw [WP.upto_next _ _ _ _ hkl, byteCells_append, ← byteCells_strCells]; exact hB4, (bnext hb hb3).trans hb4⟩
      case measure => simp [intOf]; omega
    · go_wp2_with (go_at_call 84; refine (Try.Builder_String_any w.heap.size w.heap.size (WP.upto WP.text L.length L k) _ (.inr hB) hb.size).mono ?_; rintro e w3 ⟨rfl, hb3⟩)
      go_ret
      exact ⟨rets (congrArg WP.S (WP.upto_all WP.text _ _ _ (by omega))), hb.trans hb3⟩
end Go.Proofs.Ytinkhgmdeldniaa.W
