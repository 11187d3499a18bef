/- Lists and strings are read as they were written. Plain facts. -/
import Derived.Test.YtinkhgmdeldniaaWireArgs
namespace Go.Proofs.Ytinkhgmdeldniaa.W.WP
set_option maxRecDepth 100000
open Go.RowKit

def Reads {α : Type} (one : RS → α × RS) (f : α → List UInt8) (ok : α → Prop) : Prop :=
  ∀ (x : α) (r : RS) (t : List UInt8), ok x → r.bad = false → r.p ≤ r.s.length → r.s.drop r.p = f x ++ t → one r = (x, { r with p := r.p + (f x).length })
def inR (n : Int) : Prop := -9223372036854775808 ≤ n ∧ n ≤ 9223372036854775807
theorem reads_int : Reads RS.int int inR := fun _ _ _ h hb _ hd => int_read hb hd h.1 h.2
theorem drop_next {s : List UInt8} {p : Nat} {a t : List UInt8} (h : s.drop p = a ++ t) : s.drop (p + a.length) = t := by
  rw [← List.drop_drop, h]; simp
theorem drop_len {s : List UInt8} {p : Nat} {a t : List UInt8} (hp : p ≤ s.length) (h : s.drop p = a ++ t) : s.length = p + a.length + t.length := by
  have := congrArg List.length h
  simp at this
  omega
theorem count_read {r : RS} {n : Nat} {t : List UInt8} (hb : r.bad = false) (hp : r.p ≤ r.s.length) (h : r.s.drop r.p = int n ++ t) (hn : n ≤ t.length) (h2 : n ≤ 9223372036854775807) : r.count = ((n : Int), { r with p := r.p + (int n).length }) := by
  have hi := int_read (r := r) hb h (by omega) (by omega)
  have hl := drop_len hp h
  unfold RS.count
  rw [hi]
  simp only [hb, Bool.false_eq_true, if_false, RS.left]
  rw [if_neg (by omega)]
theorem reads_text : Reads RS.text text (fun x => x.length ≤ 9223372036854775807) := fun x r t hx hb hp h => by
  have h' : r.s.drop r.p = int (x.length : Nat) ++ (x ++ t) := by rw [h]; unfold text; rw [List.append_assoc]
  have hc := count_read hb hp h' (by simp) hx
  have hd := drop_next h'
  unfold RS.text
  rw [hc]
  simp only [hb, Bool.false_eq_true, if_false, Int.toNat_natCast]
  rw [hd]
  have e : (text x).length = (int (x.length : Nat)).length + x.length := by unfold text; simp
  rw [e, ← Nat.add_assoc]
  simp
theorem elems_read {α : Type} {one : RS → α × RS} {f : α → List UInt8} {ok : α → Prop} (h1 : Reads one f ok) : ∀ (L : List α) (acc : List α) (r : RS) (t : List UInt8), (∀ x, x ∈ L → ok x) → r.bad = false → r.p ≤ r.s.length → r.s.drop r.p = L.flatMap f ++ t →
    elems one L.length acc r = (acc ++ L, { r with p := r.p + (L.flatMap f).length })
  | [], acc, r, t, _, _, _, _ => by simp [elems]
  | x :: L, acc, r, t, ho, hb, hp, h => by
    have h' : r.s.drop r.p = f x ++ (L.flatMap f ++ t) := by rw [h]; simp
    have e := h1 x r _ (ho x (List.mem_cons_self ..)) hb hp h'
    have hl := drop_len hp h'
    rw [List.length_cons, elems_next one _ _ _ hb, e]
    simp only
    rw [elems_read h1 L (acc ++ [x]) { r with p := r.p + (f x).length } t (fun y hy => ho y (List.mem_cons_of_mem _ hy)) hb (by simp only; omega) (drop_next h')]
    simp only [List.append_assoc, List.singleton_append, List.flatMap_cons, List.length_append, Nat.add_assoc]
theorem flat_min {α : Type} {f : α → List UInt8} : ∀ (L : List α), (∀ x, x ∈ L → 0 < (f x).length) → L.length ≤ (L.flatMap f).length
  | [], _ => by simp
  | x :: L, h => by
    have := flat_min L (fun y hy => h y (List.mem_cons_of_mem _ hy))
    have := h x (List.mem_cons_self ..)
    simp only [List.length_cons, List.flatMap_cons, List.length_append]
    omega
theorem elements_read {α : Type} {one : RS → α × RS} {f : α → List UInt8} {ok : α → Prop} (h1 : Reads one f ok) (hf : ∀ x, 0 < (f x).length) {L : List α} {r : RS} {t : List UInt8} (ho : ∀ x, x ∈ L → ok x) (hb : r.bad = false) (hp : r.p ≤ r.s.length)
    (h : r.s.drop r.p = (int L.length ++ L.flatMap f) ++ t) (hL : L.length ≤ 9223372036854775807) : r.elements one = (L, { r with p := r.p + (int L.length ++ L.flatMap f).length }) := by
  rw [List.append_assoc] at h
  have hm := flat_min L (fun x _ => hf x)
  have hc := count_read hb hp h (by simp only [List.length_append]; omega) hL
  have hl := drop_len hp h
  have he := elems_read h1 L [] { r with p := r.p + (int (L.length : Nat)).length } t ho hb (by simp only; omega) (drop_next h)
  unfold RS.elements
  rw [hc]
  simp only [Int.toNat_natCast]
  rw [he]
  simp only [hb, Bool.false_eq_true, if_false, List.nil_append, List.length_append, Nat.add_assoc]
theorem text_pos (x : List UInt8) : 0 < (text x).length := by unfold text; have := int_pos (x.length : Int); simp; omega
theorem ints_read' {L : List Int} {r : RS} {t : List UInt8} (ho : ∀ x, x ∈ L → inR x) (hb : r.bad = false) (hp : r.p ≤ r.s.length) (h : r.s.drop r.p = ints L ++ t) (hL : L.length ≤ 9223372036854775807) : r.ints = (L, { r with p := r.p + (ints L).length }) :=
  elements_read reads_int int_pos ho hb hp h hL
theorem texts_read' {L : List (List UInt8)} {r : RS} {t : List UInt8} (ho : ∀ x, x ∈ L → x.length ≤ 9223372036854775807) (hb : r.bad = false) (hp : r.p ≤ r.s.length) (h : r.s.drop r.p = texts L ++ t) (hL : L.length ≤ 9223372036854775807) : r.texts = (L, { r with p := r.p + (texts L).length }) :=
  elements_read reads_text text_pos ho hb hp h hL
end Go.Proofs.Ytinkhgmdeldniaa.W.WP
namespace Go.Proofs.Ytinkhgmdeldniaa.W
open Go.RowKit
theorem row_own {w : World} {B e : Nat} {v : Value} {U : List Value} {n : Nat} (h : w.ownsRow B e 1 v n U) (hn : n = U.length) : RowAt w v U := by
  subst hn
  rcases Nat.eq_zero_or_pos U.length with e0 | e0
  · obtain ⟨a, c, rfl⟩ := own_shape h
    exact ⟨a, c, rfl, Or.inl (List.eq_nil_of_length_eq_zero e0)⟩
  · obtain ⟨g, cap, rfl, _, hg, hc⟩ := own_at h e0
    exact ⟨_, cap, rfl, Or.inr ⟨g, 0, rfl, hg, fun i hi => by rw [Nat.zero_add]; exact hc i _ (by simp [List.getD, hi])⟩⟩
theorem row_first {w : World} {a : Option Addr} {n cap m : Nat} {U : List Value} (h : RowAt w (.slice a n cap) U) (hm : m ≤ U.length) : RowAt w (.slice a m cap) (U.take m) := by
  have hl : m = (U.take m).length := by rw [List.length_take, Nat.min_eq_left hm]
  obtain ⟨a', cap', he, h⟩ := h.out
  injection he with h1 h2 h3
  subst h1 h3
  refine ⟨a, cap, congrArg (fun z => Value.slice a z cap) hl, ?_⟩
  rcases h with h | ⟨g, o, rfl, hg, hc⟩
  · exact Or.inl (by simp [h])
  · refine Or.inr ⟨g, o, rfl, hg, fun i hi => ?_⟩
    have hi' : i < m ∧ i < U.length := by simp at hi; omega
    rw [hc i hi'.2]
    simp [List.getD, hi'.1]
/-- One cell of a row. -/
theorem RowAt.cell {w : World} {a : Option Addr} {n cap k : Nat} {U : List Value} (h : RowAt w (.slice a n cap) U) (hk : k < U.length) : ∃ g o, a = some ⟨g, o, none⟩ ∧ g < w.heap.size ∧ w.cell? ⟨g, o + k, none⟩ = some U[k] := by
  obtain ⟨a', cap', he, h⟩ := h.out
  injection he with h1 h2 h3
  rcases h with h | ⟨g, o, h4, hg, hc⟩
  · simp [h] at hk
  · exact ⟨g, o, by rw [h1, h4], hg, by rw [hc k hk]; simp [List.getD, hk]⟩
end Go.Proofs.Ytinkhgmdeldniaa.W
