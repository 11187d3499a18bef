/- Sums taken apart: plain. No conditions. -/
import Derived.Test.YtbhkbjnmpaebdaaAxM
import Derived.Test.YtbhkbjnmpaebdaaAx34
namespace Go.Proofs.Ytbhkbjnmpaebdaa.AX
set_option linter.unusedVariables false
theorem scalar_rgt {l : List Tn} {at' : List Int} (hr : right l (at'.length : Int) = true) (hc : coords at' = true) : F.FP.rgt (scalar l at').1 (scalar l at').2 := by
  have hrr := (right_iff _ _).1 hr
  have hcc := (coords_iff _).1 hc
  have hlen : (l.zip at').length = at'.length := by rw [List.length_zip]; omega
  have hz : ∀ x ∈ l.zip at', tent x.1 = true ∧ coord x.2 = true := fun x hx => ⟨hrr.2 _ (List.of_mem_zip hx).1, hcc.1 _ (List.of_mem_zip hx).2⟩
  have hS := (prod_S hz (by omega) (l.zip at').length (Nat.le_refl _)).1
  rw [List.take_length] at hS
  unfold scalar
  rw [if_pos ⟨hr, hc⟩]
  exact hS
/-- A change whose region there is, by a small number. -/
def Gd (R : List (List Tn)) (g : Int × Int) : Prop := 0 ≤ g.1 ∧ g.1 < (R.length : Int) ∧ F.FP.sm g.2
def pos (R : List (List Tn)) (at' : List Int) (g : Int × Int) : Bool := decide (0 < (scalar (R.getD g.1.toNat []) at').1)
def vs (R : List (List Tn)) (at' : List Int) : List (Int × Int) → Int
  | [] => 0
  | g :: l => (partOf R at' g).1 + vs R at' l
section
variable {R : List (List Tn)} {at' : List Int}
theorem gd_part (hR : ∀ r ∈ R, right r (at'.length : Int) = true) (hc : coords at' = true) {g : Int × Int} (hg : Gd R g) : growOk R (at'.length : Int) g = true ∧ (partOf R at' g).2 = true ∧ (pos R at' g = false → (partOf R at' g).1 = 0) := by
  obtain ⟨h0, h1, h2⟩ := hg
  have hx : R[g.1.toNat]? = some (R[g.1.toNat]'(by omega)) := List.getElem?_eq_getElem _
  have hd : R.getD g.1.toNat [] = R[g.1.toNat]'(by omega) := getD_of hx
  have hr := hR _ (List.mem_of_getElem? hx)
  rw [← hd] at hr
  have hs := scalar_rgt hr hc
  refine ⟨?_, ?_, fun hp => ?_⟩
  · unfold growOk
    rw [Bool.and_eq_true, decide_eq_true_iff]
    exact ⟨⟨h0, h1⟩, hr⟩
  · unfold partOf F.FP.partS
    rw [if_pos ⟨h2, hs⟩]
  · unfold pos at hp
    rw [decide_eq_false_iff_not] at hp
    have h3 := hs.n0
    have h4 : (scalar (R.getD g.1.toNat []) at').1 = 0 := by omega
    unfold partOf F.FP.partS
    rw [if_pos ⟨h2, hs⟩, h4]
    show F.FP.rnd (64 * g.2 * 0) _ = 0
    rw [Int.mul_zero]
    have := rnd_exact' 0 (scalar (R.getD g.1.toNat []) at').2 hs.d1
    rw [Int.zero_mul] at this
    exact this
theorem acc_val : ∀ (l : List (Int × Int)) (s : Int × Bool), (∀ g ∈ l, (partOf R at' g).2 = true) → acc R at' s l = (s.1 + vs R at' l, s.2)
  | [], s, _ => by show s = (s.1 + 0, s.2); rw [Int.add_zero]
  | g :: l, s, h => by
    show acc R at' (s.1 + (partOf R at' g).1, s.2 && (partOf R at' g).2) l = _
    rw [acc_val l _ (fun g' h' => h g' (List.mem_cons_of_mem _ h')), h g List.mem_cons_self, Bool.and_true]
    show (s.1 + (partOf R at' g).1 + vs R at' l, s.2) = (s.1 + ((partOf R at' g).1 + vs R at' l), s.2)
    rw [Int.add_assoc]
theorem sum_val (hR : ∀ r ∈ R, right r (at'.length : Int) = true) (hc : coords at' = true) {base : Int} (hb : F.FP.sm base) {l : List (Int × Int)} (hl : l.length ≤ 8) (hg : ∀ g ∈ l, Gd R g) : sum base l R at' = (64 * base + vs R at' l, true) := by
  have h1 : l.all (growOk R (at'.length : Int)) = true := by
    rw [List.all_eq_true]
    exact fun g h => (gd_part hR hc (hg g h)).1
  have h2 := acc_val l (F.FP.partS base 1 1) (fun g h => (gd_part hR hc (hg g h)).2.1)
  rw [part_one hb] at h2
  unfold sum
  rw [part_one hb, h2, if_pos ⟨hl, hc, h1, rfl⟩]
theorem vs_app : ∀ (A B : List (Int × Int)), vs R at' (A ++ B) = vs R at' A + vs R at' B
  | [], B => by show vs R at' B = 0 + _; rw [Int.zero_add]
  | g :: A, B => by
    show (partOf R at' g).1 + vs R at' (A ++ B) = (partOf R at' g).1 + vs R at' A + vs R at' B
    rw [vs_app A B, Int.add_assoc]
theorem vs_filter (hR : ∀ r ∈ R, right r (at'.length : Int) = true) (hc : coords at' = true) : ∀ (l : List (Int × Int)), (∀ g ∈ l, Gd R g) → vs R at' (l.filter (pos R at')) = vs R at' l
  | [], _ => rfl
  | g :: l, h => by
    have ih := vs_filter hR hc l (fun g' h' => h g' (List.mem_cons_of_mem _ h'))
    rw [List.filter_cons]
    by_cases hp : pos R at' g = true
    · rw [if_pos hp]
      show (partOf R at' g).1 + _ = (partOf R at' g).1 + _
      rw [ih]
    · rw [if_neg hp]
      show _ = (partOf R at' g).1 + vs R at' l
      rw [ih, (gd_part hR hc (h g List.mem_cons_self)).2.2 (by simpa using hp), Int.zero_add]
/-- What the law says. -/
theorem adds (hR : ∀ r ∈ R, right r (at'.length : Int) = true) (hc : coords at' = true) {base : Int} (hb : F.FP.sm base) {A B : List (Int × Int)} (hA : A.length ≤ 4) (hB : B.length ≤ 4) (gA : ∀ g ∈ A, Gd R g) (gB : ∀ g ∈ B, Gd R g) :
    ∃ a b d : Int, sum base (A ++ B) R at' = (a, true) ∧ sum base A R at' = (b, true) ∧ sum 0 B R at' = (d, true) ∧ sum base ((B ++ A).filter (pos R at')) R at' = (a, true) ∧ a = b + d := by
  have gAB : ∀ g ∈ A ++ B, Gd R g := fun g h => by
    rcases List.mem_append.1 h with h | h
    · exact gA g h
    · exact gB g h
  have gBA : ∀ g ∈ B ++ A, Gd R g := fun g h => by
    rcases List.mem_append.1 h with h | h
    · exact gB g h
    · exact gA g h
  have gF : ∀ g ∈ (B ++ A).filter (pos R at'), Gd R g := fun g h => gBA g (List.mem_filter.1 h).1
  have h1 := sum_val hR hc hb (l := A ++ B) (by rw [List.length_append]; omega) gAB
  have h2 := sum_val hR hc hb (l := A) (by omega) gA
  have h3 := sum_val hR hc (base := 0) (by unfold F.FP.sm; omega) (l := B) (by omega) gB
  have h4 := sum_val hR hc hb (l := (B ++ A).filter (pos R at')) (by have := List.length_filter_le (pos R at') (B ++ A); rw [List.length_append] at this; omega) gF
  rw [vs_filter hR hc _ gBA, vs_app] at h4
  rw [vs_app] at h1
  refine ⟨_, _, _, h1, h2, h3, ?_, by omega⟩
  rw [h4, Int.add_comm (vs R at' B)]
end
end Go.Proofs.Ytbhkbjnmpaebdaa.AX
