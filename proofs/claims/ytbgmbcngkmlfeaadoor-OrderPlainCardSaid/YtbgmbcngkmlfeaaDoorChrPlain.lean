/- Plain facts on the classes and scripts of characters: what the table says, row by row, and what the reference asks, question by question. No conditions. -/
import Derived.WalkKit
namespace Go.Proofs.YtbgmbcngkmlfeaaDoor.FC

def tab : List (List Int) := [[10, 10, 1, 0], [32, 32, 2, 0], [33, 47, 4, 0], [48, 57, 3, 0], [64, 95, 5, 1], [96, 103, 6, 1], [104, 127, 7, 2], [128, 143, 8, 2], [144, 151, 6, 2], [152, 183, 9, 3], [184, 184, 10, 3], [185, 191, 11, 3], [192, 199, 12, 3], [200, 207, 6, 3], [240, 240, 13, 0], [241, 241, 14, 0]]
def cell (k j : Nat) : Int := (tab.getD k []).getD j 0
def has (c : Int) (r : List Int) : Bool := decide (r.getD 0 0 ≤ c) && decide (c ≤ r.getD 1 0)
def row (c : Int) : List Int := (tab.find? (has c)).getD []
/-- The class. -/
def cls (c : Int) : Int := (row c).getD 2 0
/-- The script. -/
def scr (c : Int) : Int := (row c).getD 3 0
/-- The strength. -/
def stg (c : Int) : Int := if cls c = 3 then 3 else if scr c = 2 then 2 else if 0 < scr c then 1 else 0
def dualB (c : Int) : Bool := decide (cls c = 7)
def joinB (c : Int) : Bool := decide (cls c = 7 ∨ cls c = 8)
def extB (c : Int) : Bool := decide (cls c = 6 ∨ cls c = 10 ∨ cls c = 11 ∨ cls c = 12 ∨ cls c = 13 ∨ cls c = 14)

theorem hit256 : ∀ n : Fin 256, ∀ k : Fin 16, cell k 0 ≤ (n.val : Int) → (n.val : Int) ≤ cell k 1 → cls n.val = cell k 2 ∧ scr n.val = cell k 3 := by decide +kernel
theorem bounds : ∀ k : Fin 16, 0 ≤ cell k 0 ∧ cell k 1 ≤ 255 := by decide +kernel
theorem hit {k : Nat} {c : Int} (hk : k < 16) (h0 : cell k 0 ≤ c) (h1 : c ≤ cell k 1) : cls c = cell k 2 ∧ scr c = cell k 3 := by
  have b := bounds ⟨k, hk⟩
  simp only at b
  have e : ((c.toNat : Nat) : Int) = c := by omega
  have := hit256 ⟨c.toNat, by omega⟩ ⟨k, hk⟩
  simp only [e] at this
  exact this h0 h1
theorem mem_cell : ∀ r ∈ tab, ∃ k : Fin 16, r.getD 0 0 = cell k 0 ∧ r.getD 1 0 = cell k 1 := by decide +kernel
theorem miss {c : Int} (h : ∀ k, k < 16 → ¬ (cell k 0 ≤ c ∧ c ≤ cell k 1)) : cls c = 0 ∧ scr c = 0 := by
  have e : tab.find? (has c) = none := List.find?_eq_none.2 fun r hr => by
    obtain ⟨k, a, b⟩ := mem_cell r hr
    have := h k.val k.isLt
    unfold has
    rw [a, b]
    simp
    omega
  unfold cls scr row
  rw [e]
  exact ⟨rfl, rfl⟩
theorem out {c : Int} (h : c < 0 ∨ 255 < c) : cls c = 0 ∧ scr c = 0 := miss fun k hk => by
  have b := bounds ⟨k, hk⟩
  simp only at b
  omega
theorem prop256 : ∀ n : Fin 256, (0 ≤ cls n.val ∧ cls n.val ≤ 14) ∧ (0 ≤ scr n.val ∧ scr n.val ≤ 3) ∧ ((cls n.val = 7 ∨ cls n.val = 8) → scr n.val = 2) ∧ (0 < scr n.val → cls n.val ≠ 3) ∧ (scr n.val = 2 → cls n.val = 7 ∨ cls n.val = 8 ∨ cls n.val = 6) := by decide +kernel
theorem props (c : Int) : (0 ≤ cls c ∧ cls c ≤ 14) ∧ (0 ≤ scr c ∧ scr c ≤ 3) ∧ ((cls c = 7 ∨ cls c = 8) → scr c = 2) ∧ (0 < scr c → cls c ≠ 3) ∧ (scr c = 2 → cls c = 7 ∨ cls c = 8 ∨ cls c = 6) := by
  by_cases h : c < 0 ∨ 255 < c
  · obtain ⟨a, b⟩ := out h
    rw [a, b]; omega
  · have e : ((c.toNat : Nat) : Int) = c := by omega
    have := prop256 ⟨c.toNat, by omega⟩
    simp only [e] at this
    exact this
theorem stgs (c : Int) : (cls c = 3 → stg c = 3) ∧ (cls c ≠ 3 → scr c = 2 → stg c = 2) ∧ (cls c ≠ 3 → scr c ≠ 2 → 0 < scr c → stg c = 1) ∧ (cls c ≠ 3 → scr c = 0 → stg c = 0) := by
  unfold stg
  refine ⟨fun h => if_pos h, fun h k => ?_, fun h k l => ?_, fun h k => ?_⟩
  · rw [if_neg h, if_pos k]
  · rw [if_neg h, if_neg k, if_pos l]
  · rw [if_neg h, k]; rfl
theorem stg_eq {c : Int} (h : scr c = 0) : (stg c != 0) = (cls c == 3) := by
  obtain ⟨s1, -, -, s4⟩ := stgs c
  by_cases h3 : cls c = 3
  · rw [s1 h3, h3]; rfl
  · rw [s4 h3 h]; simp [h3]
/-- Where a number lies, and its class and script. -/
def seg (lo hi k s : Int) : Prop := ∀ c : Int, lo ≤ c → c ≤ hi → cls c = k ∧ scr c = s
theorem seg_of {lo hi k s : Int} (h0 : 0 ≤ lo) (h1 : hi ≤ 255) (h : ∀ n : Fin 256, lo ≤ (n.val : Int) → (n.val : Int) ≤ hi → cls n.val = k ∧ scr n.val = s) : seg lo hi k s := fun c a b => by
  have e : ((c.toNat : Nat) : Int) = c := by omega
  have := h ⟨c.toNat, by omega⟩
  simp only [e] at this
  exact this a b
theorem cls_10 {c : Int} (h : c = 10) : cls c = 1 := by subst h; decide +kernel
theorem cls_32 {c : Int} (h : c = 32) : cls c = 2 := by subst h; decide +kernel
theorem cls_33 {c : Int} (a : 33 ≤ c) (b : c ≤ 47) : cls c = 4 := (seg_of (by decide) (by decide) (by decide +kernel) : seg 33 47 4 0) c a b |>.1
theorem cls_48 {c : Int} (a : 48 ≤ c) (b : c ≤ 57) : cls c = 3 := (seg_of (by decide) (by decide) (by decide +kernel) : seg 48 57 3 0) c a b |>.1
theorem cls_64 {c : Int} (a : 64 ≤ c) (b : c ≤ 95) : cls c = 5 := (seg_of (by decide) (by decide) (by decide +kernel) : seg 64 95 5 1) c a b |>.1
theorem cls_96 {c : Int} (a : 96 ≤ c) (b : c ≤ 103) : cls c = 6 := (seg_of (by decide) (by decide) (by decide +kernel) : seg 96 103 6 1) c a b |>.1
theorem cls_104 {c : Int} (a : 104 ≤ c) (b : c ≤ 127) : cls c = 7 := (seg_of (by decide) (by decide) (by decide +kernel) : seg 104 127 7 2) c a b |>.1
theorem cls_128 {c : Int} (a : 128 ≤ c) (b : c ≤ 143) : cls c = 8 := (seg_of (by decide) (by decide) (by decide +kernel) : seg 128 143 8 2) c a b |>.1
theorem cls_144 {c : Int} (a : 144 ≤ c) (b : c ≤ 151) : cls c = 6 := (seg_of (by decide) (by decide) (by decide +kernel) : seg 144 151 6 2) c a b |>.1
theorem cls_152 {c : Int} (a : 152 ≤ c) (b : c ≤ 183) : cls c = 9 := (seg_of (by decide) (by decide) (by decide +kernel) : seg 152 183 9 3) c a b |>.1
theorem cls_184 {c : Int} (h : c = 184) : cls c = 10 := by subst h; decide +kernel
theorem cls_185 {c : Int} (a : 185 ≤ c) (b : c ≤ 191) : cls c = 11 := (seg_of (by decide) (by decide) (by decide +kernel) : seg 185 191 11 3) c a b |>.1
theorem cls_192 {c : Int} (a : 192 ≤ c) (b : c ≤ 199) : cls c = 12 := (seg_of (by decide) (by decide) (by decide +kernel) : seg 192 199 12 3) c a b |>.1
theorem cls_200 {c : Int} (a : 200 ≤ c) (b : c ≤ 207) : cls c = 6 := (seg_of (by decide) (by decide) (by decide +kernel) : seg 200 207 6 3) c a b |>.1
theorem cls_240 {c : Int} (h : c = 240) : cls c = 13 := by subst h; decide +kernel
theorem cls_241 {c : Int} (h : c = 241) : cls c = 14 := by subst h; decide +kernel
theorem cls_0 {c : Int} (h : (c < 10 ∨ 10 < c) ∧ (c < 32 ∨ 57 < c) ∧ (c < 64 ∨ 207 < c) ∧ (c < 240 ∨ 241 < c)) : cls c = 0 := by
  by_cases h' : c < 0 ∨ 255 < c
  · exact (out h').1
  · have e : ((c.toNat : Nat) : Int) = c := by omega
    have : ∀ n : Fin 256, (((n.val : Int) < 10 ∨ 10 < (n.val : Int)) ∧ ((n.val : Int) < 32 ∨ 57 < (n.val : Int)) ∧ ((n.val : Int) < 64 ∨ 207 < (n.val : Int)) ∧ ((n.val : Int) < 240 ∨ 241 < (n.val : Int))) → cls n.val = 0 := by decide +kernel
    have := this ⟨c.toNat, by omega⟩
    simp only [e] at this
    exact this h
theorem scr_1 {c : Int} (a : 64 ≤ c) (b : c ≤ 103) : scr c = 1 := by
  have : ∀ n : Fin 256, 64 ≤ (n.val : Int) → (n.val : Int) ≤ 103 → scr n.val = 1 := by decide +kernel
  have e : ((c.toNat : Nat) : Int) = c := by omega
  have := this ⟨c.toNat, by omega⟩
  simp only [e] at this
  exact this a b
theorem scr_2 {c : Int} (a : 104 ≤ c) (b : c ≤ 151) : scr c = 2 := by
  have : ∀ n : Fin 256, 104 ≤ (n.val : Int) → (n.val : Int) ≤ 151 → scr n.val = 2 := by decide +kernel
  have e : ((c.toNat : Nat) : Int) = c := by omega
  have := this ⟨c.toNat, by omega⟩
  simp only [e] at this
  exact this a b
theorem scr_3 {c : Int} (a : 152 ≤ c) (b : c ≤ 207) : scr c = 3 := by
  have : ∀ n : Fin 256, 152 ≤ (n.val : Int) → (n.val : Int) ≤ 207 → scr n.val = 3 := by decide +kernel
  have e : ((c.toNat : Nat) : Int) = c := by omega
  have := this ⟨c.toNat, by omega⟩
  simp only [e] at this
  exact this a b
theorem scr_0 {c : Int} (h : c < 64 ∨ 207 < c) : scr c = 0 := by
  by_cases h' : c < 0 ∨ 255 < c
  · exact (out h').2
  · have e : ((c.toNat : Nat) : Int) = c := by omega
    have : ∀ n : Fin 256, ((n.val : Int) < 64 ∨ 207 < (n.val : Int)) → scr n.val = 0 := by decide +kernel
    have := this ⟨c.toNat, by omega⟩
    simp only [e] at this
    exact this h
end Go.Proofs.YtbgmbcngkmlfeaaDoor.FC
