/- Glyphs that numbers make, plain. No conditions. -/
import Derived.Test.YtpmmincophaaiaaDraw
import Derived.Test.YtpmmincophaaiaaAttRow
namespace Go.Proofs.Ytpmmincophaaiaa.AT
def mkAn (L : List Int) (a : Nat) : An × Nat := ((1 + (nx L a 3).1, (nx L (nx L a 3).2 60).1 - 20, (nx L (nx L (nx L a 3).2 60).2 60).1 - 20), (nx L (nx L (nx L a 3).2 60).2 60).2)
def mkAns (L : List Int) (a : Nat) : Nat → List An × Nat
  | 0 => ([], a)
  | i + 1 => ((mkAns L a i).1 ++ [(mkAn L (mkAns L a i).2).1], (mkAn L (mkAns L a i).2).2)
def mkMany (L : List Int) : Int × Nat := nx L (nx L 0 60).2 4
def mkRow (L : List Int) : List An × Nat := mkAns L (mkMany L).2 (mkMany L).1.toNat
def mkDr (L : List Int) : Dr := ⟨(mkRow L).1, if (nx L (mkRow L).2 2).1 = 1 then (mkAn L (nx L (mkRow L).2 2).2).1 else (0, 0, 0), (nx L 0 60).1 - 10⟩
def made (LL : List (List Int)) : List Dr := (LL.take 12).map mkDr
def AnIn (z : An) : Prop := (1 ≤ z.1 ∧ z.1 ≤ 3) ∧ (-20 ≤ z.2.1 ∧ z.2.1 ≤ 40) ∧ (-20 ≤ z.2.2 ∧ z.2.2 ≤ 40)
theorem mkAn_in (L : List Int) (a : Nat) (ha : a ≤ L.length) : AnIn (mkAn L a).1 ∧ (mkAn L a).2 ≤ L.length := by
  obtain ⟨p1, p2, p3⟩ := nx_bd L a (n := 3) (by omega) ha
  obtain ⟨q1, q2, q3⟩ := nx_bd L (nx L a 3).2 (n := 60) (by omega) p3
  obtain ⟨r1, r2, r3⟩ := nx_bd L (nx L (nx L a 3).2 60).2 (n := 60) (by omega) q3
  unfold mkAn AnIn
  simp only
  exact ⟨⟨⟨by omega, by omega⟩, ⟨by omega, by omega⟩, ⟨by omega, by omega⟩⟩, r3⟩
theorem mkAns_in (L : List Int) (a : Nat) (ha : a ≤ L.length) : ∀ i, (mkAns L a i).1.length = i ∧ (∀ z ∈ (mkAns L a i).1, AnIn z) ∧ (mkAns L a i).2 ≤ L.length
  | 0 => ⟨rfl, fun z hz => by simp [mkAns] at hz, ha⟩
  | i + 1 => by
    obtain ⟨h1, h2, h3⟩ := mkAns_in L a ha i
    obtain ⟨h4, h5⟩ := mkAn_in L _ h3
    refine ⟨by simp [mkAns, h1], fun z hz => ?_, h5⟩
    rcases List.mem_append.1 hz with hz | hz
    · exact h2 z hz
    · rw [List.mem_singleton.1 hz]
      exact h4
theorem mkMany_in (L : List Int) : 0 ≤ (mkMany L).1 ∧ (mkMany L).1 < 4 ∧ (mkMany L).2 ≤ L.length :=
  nx_bd L _ (by omega) (nx_bd L 0 (n := 60) (by omega) (Nat.zero_le _)).2.2
theorem mkRow_in (L : List Int) : (mkRow L).1.length = (mkMany L).1.toNat ∧ (∀ z ∈ (mkRow L).1, AnIn z) ∧ (mkRow L).2 ≤ L.length := mkAns_in L _ (mkMany_in L).2.2 _
theorem mkDr_in (L : List Int) : (mkDr L).anchors.length ≤ 3 ∧ (∀ z ∈ (mkDr L).anchors, AnIn z) ∧ ((mkDr L).hang = (0, 0, 0) ∨ AnIn (mkDr L).hang) ∧ (-10 ≤ (mkDr L).adv ∧ (mkDr L).adv ≤ 50) := by
  obtain ⟨h1, h2, h3⟩ := mkRow_in L
  obtain ⟨m1, m2, m3⟩ := mkMany_in L
  obtain ⟨a1, a2, -⟩ := nx_bd L 0 (n := 60) (by omega) (Nat.zero_le _)
  refine ⟨?_, h2, ?_, ?_⟩
  · show (mkRow L).1.length ≤ 3
    omega
  · show (if (nx L (mkRow L).2 2).1 = 1 then (mkAn L (nx L (mkRow L).2 2).2).1 else (0, 0, 0)) = _ ∨ AnIn (if (nx L (mkRow L).2 2).1 = 1 then (mkAn L (nx L (mkRow L).2 2).2).1 else (0, 0, 0))
    by_cases h : (nx L (mkRow L).2 2).1 = 1
    · rw [if_pos h]
      exact .inr (mkAn_in L _ (nx_bd L _ (n := 2) (by omega) h3).2.2).1
    · rw [if_neg h]
      exact .inl rfl
  · show -10 ≤ (nx L 0 60).1 - 10 ∧ (nx L 0 60).1 - 10 ≤ 50
    omega
theorem anIn_ok {z : An} (h : AnIn z) : anOk z = true := by
  obtain ⟨h1, h2, h3⟩ := h
  unfold anOk
  rw [Bool.and_eq_true, small_iff, small_iff]
  omega
theorem mkDr_right (L : List Int) : right (mkDr L) = true := by
  obtain ⟨h1, h2, h3, h4⟩ := mkDr_in L
  have h5 : small (mkDr L).hang.2.1 = true ∧ small (mkDr L).hang.2.2 = true := by
    rw [small_iff, small_iff]
    rcases h3 with h | ⟨-, h, h'⟩
    · rw [h]; simp
    · omega
  unfold right
  rw [Bool.and_eq_true, List.all_eq_true]
  refine ⟨fun z hz => anIn_ok (h2 z hz), ?_⟩
  rw [h5.1, h5.2, (small_iff _).2 (by omega : -1048576 ≤ (mkDr L).adv ∧ (mkDr L).adv ≤ 1048576)]
  rfl
theorem made_mem {LL : List (List Int)} {d : Dr} (h : d ∈ made LL) : ∃ L, d = mkDr L := by
  obtain ⟨L, -, rfl⟩ := List.mem_map.1 h
  exact ⟨L, rfl⟩
theorem made_len (LL : List (List Int)) : (made LL).length ≤ 12 := by
  unfold made
  rw [List.length_map, List.length_take]
  omega
theorem made_right (LL : List (List Int)) : (made LL).all right = true := by
  rw [List.all_eq_true]
  intro d hd
  obtain ⟨L, rfl⟩ := made_mem hd
  exact mkDr_right L
theorem made_anch (LL : List (List Int)) : ∀ d ∈ made LL, d.anchors.length ≤ 1000000000000 := fun d hd => by
  obtain ⟨L, rfl⟩ := made_mem hd
  have := (mkDr_in L).1
  omega
theorem made_places (LL : List (List Int)) : places (made LL) = (go (made LL) (made LL).length).1 := places_good (by have := made_len LL; omega) (made_right LL)
end Go.Proofs.Ytpmmincophaaiaa.AT
namespace Go.Proofs.Ytpmmincophaaiaa
set_option maxRecDepth 100000
set_option linter.unusedVariables false
open Go.RowKit Go.Deep
/-- Lists of numbers, in a slice. -/
def LLAt (W : World) (v : Value) (LL : List (List Int)) : Prop := ∃ a cap, v = .slice a LL.length cap ∧ (LL = [] ∨ ∃ g o, a = some ⟨g, o, none⟩ ∧ g < W.heap.size ∧ ∀ i L, LL[i]? = some L → ∃ la lc, W.cell? ⟨g, o + i, none⟩ = some (.slice la L.length lc) ∧ L.length ≤ maxLen ∧ DwRow W W.heap.size la L)
theorem DwRow.mono {W : World} {B B' : Nat} {la : Option Addr} {L : List Int} (h : DwRow W B la L) (hB : B ≤ B') : DwRow W B' la L := by
  rcases h with h | ⟨g, o, e, h1, h2⟩
  · exact .inl h
  · exact .inr ⟨g, o, e, Nat.lt_of_lt_of_le h1 hB, h2⟩
theorem LLAt.keep {W W' : World} {v : Value} {LL : List (List Int)} (h : LLAt W v LL) (hb : Below W.heap.size W W') : LLAt W' v LL := by
  obtain ⟨a, cap, e, h⟩ := h
  refine ⟨a, cap, e, ?_⟩
  rcases h with h | ⟨g, o, e2, hg, hc⟩
  · exact .inl h
  · refine .inr ⟨g, o, e2, Nat.lt_of_lt_of_le hg hb.size, fun i L hL => ?_⟩
    obtain ⟨la, lc, c1, c2, c3⟩ := hc i L hL
    exact ⟨la, lc, (hb.cell (p := ⟨g, o + i, none⟩) hg).trans c1, c2, (c3.keep hb).mono hb.size⟩
theorem next_c {L : List Int} {a : Nat} {n r : Int} {a' : Nat} (h : nx L a n = (r, a')) (la : Option Addr) (lc B : Nat) (w : World) (hd : DwB w B (.slice la L.length lc) a) (hr : DwRow w B la L) (ha : a ≤ L.length) (hL : L.length ≤ maxLen) (h0 : 1 ≤ n) (h1 : n ≤ 1000000) :
    Calls Try.prog 17 #[.pointer (some ⟨B, 0, none⟩), .int .i64 n] w fun e w' => e = .returned (.int .i64 r) ∧ DwB w' B (.slice la L.length lc) a' ∧ DwRow w' B la L ∧ w.grownBy w' (some B) := by
  refine (next_any L la lc B a n w hd hr ha (by unfold maxLen at hL; omega) h0 h1).mono ?_
  rintro e w' ⟨rfl, h2, h3⟩
  rw [h] at h2 ⊢
  exact ⟨rfl, h2, hr.grown h3, h3⟩
end Go.Proofs.Ytpmmincophaaiaa
