/- Plans, plainly: rectangles of rows, joined while there are too many. No conditions. -/
import Derived.Test.YtmiennkldkcnfaaDoorPn8
import Derived.Test.YtmiennkldkcnfaaDoorShelf
namespace Go.Proofs.YtmiennkldkcnfaaDoor
set_option linter.unusedVariables false
abbrev zr : Rc := ⟨0, 0, 0, 0⟩
def rb (r : Rc) : Prop := 0 ≤ r.x ∧ 0 ≤ r.y ∧ 1 ≤ r.w ∧ 1 ≤ r.h ∧ r.x + r.w ≤ 64 ∧ r.y + r.h ≤ 64
def rcL (r : Rc) : List Value := [.int .i64 r.x, .int .i64 r.y, .int .i64 r.w, .int .i64 r.h]
theorem rcL_len (r : Rc) : (rcL r).length = 4 := rfl
def rcs (L : List Rc) : List Value := L.flatMap rcL
theorem rcs_len (L : List Rc) : (rcs L).length = L.length * 4 := flat_len rcL_len L
theorem rcs_app (A B : List Rc) : rcs (A ++ B) = rcs A ++ rcs B := List.flatMap_append
theorem rcs_cells (l : List Rc) : ∀ u ∈ rcs l, u.oneCell' = true := fun u hu => by
  obtain ⟨k, -, hk⟩ := List.mem_flatMap.1 hu
  simp only [rcL, List.mem_cons, List.not_mem_nil, or_false] at hk
  rcases hk with rfl | rfl | rfl | rfl <;> rfl
namespace PN
def both (a b : Rc) : Rc := ⟨min a.x b.x, min a.y b.y, max (a.x + a.w) (b.x + b.w) - min a.x b.x, max (a.y + a.h) (b.y + b.h) - min a.y b.y⟩
def area (r : Rc) : Int := r.w * r.h
theorem both_rb {a b : Rc} (ha : rb a) (hb : rb b) : rb (both a b) := by
  unfold rb both at *
  dsimp only
  omega
theorem foldl_rb {a : Rc} (ha : rb a) : ∀ {L : List Rc}, (∀ r ∈ L, rb r) → rb (L.foldl both a)
  | [], _ => ha
  | b :: L, h => foldl_rb (both_rb ha (h b List.mem_cons_self)) (fun r hr => h r (List.mem_cons_of_mem _ hr))
theorem area_le {r : Rc} (h : rb r) : 1 ≤ area r ∧ area r ≤ 4096 := by
  obtain ⟨h1, h2, h3, h4, h5, h6⟩ := h
  unfold area
  have hw : r.w ≤ 64 := by omega
  have hh : r.h ≤ 64 := by omega
  have a1 : r.w * r.h ≤ 64 * 64 := Int.mul_le_mul hw hh (by omega) (by omega)
  have a2 : 1 * 1 ≤ r.w * r.h := Int.mul_le_mul h3 h4 (by omega) (by omega)
  omega
/-- The pixels of each row that differ. -/
def df (A B : List Nat) (w : Nat) : List Nat := List.zipWith (fun a b => (a ^^^ b) &&& (2 ^ w - 1)) A B
def rowR (k d : Nat) : Rc := ⟨(Lib.ctz 64 d : Nat), k, ((Lib.bitLen d : Nat) : Int) - (Lib.ctz 64 d : Nat), 1⟩
def stp (st : List Rc × Bool) (k d : Nat) : List Rc × Bool := if d = 0 then (st.1, false) else if st.2 then (st.1.dropLast ++ [both (st.1.getLastD zr) (rowR k d)], true) else (st.1 ++ [rowR k d], true)
/-- The rectangles of the first rows; whether the last one differs. -/
def pl (D : List Nat) : Nat → List Rc × Bool
  | 0 => ([], false)
  | k + 1 => stp (pl D k) k (D.getD k 0)
/-- The rectangle of n + 1 rows from f on. -/
def bx (D : List Nat) (f : Nat) : Nat → Rc
  | 0 => rowR f (D.getD f 0)
  | n + 1 => both (bx D f n) (rowR (f + n + 1) (D.getD (f + n + 1) 0))
theorem pl_piece (D : List Nat) (f n : Nat) (h0 : (pl D f).2 = false) (hd : ∀ k, f ≤ k → k ≤ f + n → D.getD k 0 ≠ 0) : pl D (f + n + 1) = ((pl D f).1 ++ [bx D f n], true) := by
  induction n with
  | zero =>
    show stp (pl D f) f (D.getD f 0) = _
    unfold stp
    rw [if_neg (hd f (Nat.le_refl _) (by omega)), h0, if_neg Bool.false_ne_true]
    rfl
  | succ n ih =>
    show stp (pl D (f + n + 1)) (f + n + 1) (D.getD (f + n + 1) 0) = _
    rw [ih (fun k h1 h2 => hd k h1 (by omega))]
    unfold stp
    rw [if_neg (hd (f + n + 1) (by omega) (by omega))]
    simp [bx]
theorem pl_zero (D : List Nat) (k : Nat) (h : D.getD k 0 = 0) : pl D (k + 1) = ((pl D k).1, false) := by
  show stp (pl D k) k (D.getD k 0) = _
  unfold stp
  rw [if_pos h]
def at' (l : List Rc) (i : Nat) : Rc := l.getD i zr
def loss (l : List Rc) (i : Nat) : Int := area (both (at' l i) (at' l (i + 1))) - area (at' l i) - area (at' l (i + 1))
/-- The first two neighbours that lose the least, among the first n + 1. -/
def bst (l : List Rc) : Nat → Nat
  | 0 => 0
  | n + 1 => if loss l (n + 1) < loss l (bst l n) then n + 1 else bst l n
theorem bst_le (l : List Rc) : ∀ n, bst l n ≤ n
  | 0 => Nat.le_refl _
  | n + 1 => by
    unfold bst
    split
    · exact Nat.le_refl _
    · exact Nat.le_trans (bst_le l n) (Nat.le_succ n)
def jn (l : List Rc) (b : Nat) : List Rc := l.take b ++ (both (at' l b) (at' l (b + 1)) :: l.drop (b + 2))
def jn1 (l : List Rc) : List Rc := jn l (bst l (l.length - 2))
theorem jn_len {l : List Rc} {b : Nat} (h : b + 1 < l.length) : (jn l b).length + 1 = l.length := by
  unfold jn
  rw [List.length_append, List.length_cons, List.length_take, List.length_drop]
  omega
theorem jn1_len {l : List Rc} (h : 2 ≤ l.length) : (jn1 l).length + 1 = l.length := jn_len (by have := bst_le l (l.length - 2); omega)
theorem at_rb {l : List Rc} (hl : ∀ r ∈ l, rb r) {i : Nat} (h : i < l.length) : rb (at' l i) := by
  unfold at'
  rw [List.getD_eq_getElem?_getD, List.getElem?_eq_getElem h]
  exact hl _ (List.getElem_mem h)
theorem jn_rb {l : List Rc} {b : Nat} (hl : ∀ r ∈ l, rb r) (h : b + 1 < l.length) : ∀ r ∈ jn l b, rb r := fun r hr => by
  unfold jn at hr
  rcases List.mem_append.1 hr with hr | hr
  · exact hl r (List.mem_of_mem_take hr)
  · rcases List.mem_cons.1 hr with rfl | hr
    · exact both_rb (at_rb hl (by omega)) (at_rb hl h)
    · exact hl r (List.mem_of_mem_drop hr)
theorem jn1_rb {l : List Rc} (hl : ∀ r ∈ l, rb r) (h : 2 ≤ l.length) : ∀ r ∈ jn1 l, rb r := jn_rb hl (by have := bst_le l (l.length - 2); omega)
/-- At most so many, by joining. -/
def red (most : Nat) (l : List Rc) : List Rc := if h : most < l.length ∧ 1 ≤ most then red most (jn1 l) else l
termination_by l.length
decreasing_by
  have := jn1_len (l := l) (by omega)
  omega
theorem red_go {most : Nat} {l : List Rc} (h : most < l.length) (h1 : 1 ≤ most) : red most l = red most (jn1 l) := by
  rw [red, dif_pos ⟨h, h1⟩]
theorem red_end {most : Nat} {l : List Rc} (h : ¬ most < l.length) : red most l = l := by
  rw [red, dif_neg (fun x => h x.1)]
def plan (A B : List Nat) (w most : Nat) : List Rc := red most (pl (df A B w) A.length).1
theorem df_len {A B : List Nat} (w : Nat) (h : A.length = B.length) : (df A B w).length = A.length := by
  unfold df
  rw [List.length_zipWith]
  omega
theorem df_at {A B : List Nat} (w : Nat) {k a b : Nat} (ha : A[k]? = some a) (hb : B[k]? = some b) : (df A B w)[k]? = some ((a ^^^ b) &&& (2 ^ w - 1)) := by
  unfold df
  rw [List.getElem?_zipWith, ha, hb]
theorem df_lt {A B : List Nat} {w d : Nat} (h : d ∈ df A B w) : d < 2 ^ w := by
  obtain ⟨k, hk⟩ := List.getElem?_of_mem h
  unfold df at hk
  rw [List.getElem?_zipWith] at hk
  cases ha : A[k]? with
  | none => rw [ha] at hk; cases hk
  | some a =>
    cases hb : B[k]? with
    | none => rw [ha, hb] at hk; cases hk
    | some b =>
      rw [ha, hb] at hk
      obtain rfl := Option.some.inj hk
      have h1 : (a ^^^ b) &&& (2 ^ w - 1) ≤ 2 ^ w - 1 := Nat.and_le_right
      have h2 := @Nat.one_le_two_pow w
      omega
end PN
end Go.Proofs.YtmiennkldkcnfaaDoor
