/- For all lists of numbers and every number of a character FormsApart returns true: the forms before and after a space, an end of a line, or punctuation are those of the parts alone. No conditions. -/
import Derived.Test.YtkacbmimmnlhlaaDoorFrmSane
import Derived.Test.YtkacbmimmnlhlaaDoorClsLaid
import Derived.Test.YtkacbmimmnlhlaaDoorFrmApart
import Derived.ChangeMaps5
namespace Go.Proofs.YtkacbmimmnlhlaaDoor.formsApart
open Go.ChangeShapes Go.WideShapes Go.ChangeAt Go.RowKit Go.Joins Go.Deep Go.ChangeMaps
set_option linter.unusedVariables false

theorem text_of {v : Value} {a : List Int} {w W : World} (n : Nat) (hn : n ≤ 1000) (hv : RowAt w v (a.map (Value.int .i64))) (hL : a.length ≤ maxLen) (hE : ∀ x, x ∈ a → -9223372036854775808 ≤ x ∧ x ≤ 9223372036854775807) (hb : Below w.heap.size w W) :
    Calls Tryd.prog 10 #[v, .int .i64 n] W fun e W' => ∃ t : ByteArray, e = .returned (.string t) ∧ t.size ≤ n ∧ Below W.heap.size W W' :=
  text_any v a n W (hv.keep hb) hE hL hn
theorem drop_mid (A : List Value) (x : Value) (B : List Value) : (A ++ x :: B).drop (A.length + 1) = B := by
  induction A with
  | nil => rfl
  | cons a A ih => simp
theorem own_cap {w : World} {B e size n c : Nat} {a : Option Addr} {xs : List Value} (h : w.ownsRow B e size (.slice a n c) n xs) : n ≤ c := by
  rcases h.2 with ⟨hv, hn⟩ | ⟨g, cap, cur, hv, _, _, hle, _⟩
  · omega
  · injection hv with h1 h2 h3; omega
theorem between (j : Nat) (hj : j < 4) : ∃ m : ByteArray, (∀ h : j < [Value.string ⟨#[32]⟩, .string ⟨#[10]⟩, .string ⟨#[33]⟩, .string ⟨#[45]⟩].length, [Value.string ⟨#[32]⟩, .string ⟨#[10]⟩, .string ⟨#[33]⟩, .string ⟨#[45]⟩][j]'h = .string m) ∧ m.size = 1 ∧ (FP.lt (CP.cl m 0) = false ∧ CP.cl m 0 ≠ 9 ∧ CP.cl m 0 ≠ 10 ∧ CP.ex m 0 = false) := by
  have hc : j = 0 ∨ j = 1 ∨ j = 2 ∨ j = 3 := by omega
  rcases hc with rfl | rfl | rfl | rfl
  · exact ⟨⟨#[32]⟩, fun _ => rfl, rfl, by decide +kernel⟩
  · exact ⟨⟨#[10]⟩, fun _ => rfl, rfl, by decide +kernel⟩
  · exact ⟨⟨#[33]⟩, fun _ => rfl, rfl, by decide +kernel⟩
  · exact ⟨⟨#[45]⟩, fun _ => rfl, rfl, by decide +kernel⟩
theorem ex_h (b : ByteArray) : CP.ex (⟨#[104]⟩ ++ b) 0 = false := by
  unfold CP.ex
  rw [CP.ch_l (by decide)]
  decide +kernel
set_option maxRecDepth 100000 in
set_option maxHeartbeats 4000000 in
theorem walk (v0 : Value) (a0 : List Int) (v1 : Value) (a1 : List Int) (a2 : Int) (g : Nat × Nat) (wa2 : (Lit.int .u8 a2).wf = true) (w : World) (hl : Laid w g) (H0 : RowAt w v0 (a0.map (Value.int .i64))) (L0 : a0.length ≤ maxLen ∧ ∀ a n c, v0 = .slice a n c → n ≤ c) (E0 : ∀ x, x ∈ a0 → -9223372036854775808 ≤ x ∧ x ≤ 9223372036854775807) (H1 : RowAt w v1 (a1.map (Value.int .i64))) (L1 : a1.length ≤ maxLen ∧ ∀ a n c, v1 = .slice a n c → n ≤ c) (E1 : ∀ x, x ∈ a1 → -9223372036854775808 ≤ x ∧ x ≤ 9223372036854775807) :
    Calls Tryd.prog 7 #[v0, v1, .int .u8 a2] w fun e w' => e = .returned (.bool true) ∧ Below w.heap.size w w' := by
  have HL : Hid (∀ B, Below w.heap.size w B → Laid B g) := Lib.hid fun B hb => hl.mono hb
  have acc0 : Below w.heap.size w w := Below.refl _ _
  have HM0 := Lib.hid (fun W (hb : Below w.heap.size w W) => text_of 30 (by omega) H0 L0.1 E0 hb)
  clear H0 E0
  have HM1 := Lib.hid (fun W (hb : Below w.heap.size w W) => text_of 30 (by omega) H1 L1.1 E1 hb)
  clear H1 E1
  have wb2 := bd8 wa2
  obtain ⟨j, hj, hj4⟩ : ∃ j : Nat, a2.tmod 4 = (j : Int) ∧ j < 4 := ⟨(a2.tmod 4).toNat, by rw [Int.tmod_eq_emod_of_nonneg wb2.1]; omega, by rw [Int.tmod_eq_emod_of_nonneg wb2.1]; omega⟩
  obtain ⟨m, hlit, hm1, hmc⟩ := between j hj4
  have HMC := Lib.hid hmc
  have HLIT := Lib.hid hlit
  have hj4i : (j : Int) < 4 := by omega
  have hje : a2 % 4 = (j : Int) := by rw [Int.tmod_eq_emod_of_nonneg wb2.1] at hj; exact hj
  clear hmc hlit wa2
  go_enter Tryd.func7, Tryd.ntmps7
  go_wp2_with fail
  refine (sane_any g _ hl).mono ?_
  rintro e w1 ⟨rfl, hb1⟩
  have acc1 := bnext acc0 hb1
  clear hb1 acc0
  go_wp2_with fail
  refine (HM0.out _ acc1).mono ?_
  rintro e w2 ⟨A, rfl, hA, hb2⟩
  have acc2 := bnext acc1 hb2
  go_wp2_with fail
  refine (HM1.out _ acc2).mono ?_
  rintro e w3 ⟨B0, rfl, hB0, hb3⟩
  have acc3 := bnext acc2 hb3
  clear hb2 hb3 acc1 acc2 HM0 HM1
  have hA1 : A.size ≤ 1000000000 := by omega
  by_cases hz : 0 < B0.size
  · have hzi : (0 : Int) < (B0.size : Int) := by omega
    have hby : (B0[0].toNat : Int) ≤ 255 := by have := B0[0].toNat_lt; omega
    have HE := Lib.hid (extends_any (B0[0].toNat : Int) g w3 (HL.out _ acc3))
    rw [← CP.ch_at hz] at HE
    change Hid (Calls _ _ _ _ fun e w' => e = .returned (.bool (CP.ex B0 0)) ∧ _) at HE
    cases hx : CP.ex B0 0 with
    | true =>
      rw [hx, CP.ch_at hz] at HE
      clear hx
      go_wp2_with fail
      refine HE.out.mono ?_
      rintro e w4 ⟨rfl, hb4⟩
      have acc4 := bnext acc3 hb4
      clear hb4 acc3 HE
      go_wp2_with fail
      obtain ⟨B, hBe, hB1, hBx⟩ : ∃ B : ByteArray, (⟨#[104]⟩ ++ B0 : ByteArray) = B ∧ B.size ≤ 31 ∧ (0 < B.size → CP.ex B 0 = false) := ⟨_, rfl, by rw [ByteArray.size_append]; show 1 + B0.size ≤ 31; omega, fun _ => ex_h B0⟩
      try rw [hBe]
      clear hBe
      have hB2 : B.size ≤ 1000000000 := by omega
      have hAB : (A ++ m ++ B).size ≤ 1000000000 := by rw [ByteArray.size_append, ByteArray.size_append]; omega
      have HMID := Lib.hid (FP.forms_mid (a := A) (b := B) hm1 HMC.out hBx)
      have acc5 := balloc acc4 (.cells #[.string ⟨#[32]⟩, .string ⟨#[10]⟩, .string ⟨#[33]⟩, .string ⟨#[45]⟩] 9)
      have hlit := HLIT.out
      clear hBx HMC acc4 HLIT
      go_wp2_with fail
      rw [hlit]
      refine (forms_any A g _ (HL.out _ acc5) hA1).mono ?_
      rintro e w6 ⟨v6, rfl, o6, hb6⟩
      have acc6 := bnext acc5 hb6
      have P1 := Lib.hid (own_src o6 (by rw [List.length_map, FP.forms_length]))
      clear o6 hb6 acc5 hlit
      go_wp2_with fail
      refine (forms_any B g _ (HL.out _ acc6) hB2).mono ?_
      rintro e w7 ⟨v7, rfl, o7, hb7⟩
      have acc7 := bnext acc6 hb7
      replace P1 := Lib.hid (P1.out.keep hb7)
      have P2 := Lib.hid (own_src o7 (by rw [List.length_map, FP.forms_length]))
      clear o7 hb7 acc6
      go_wp2_with fail
      refine (forms_any (A ++ m ++ B) g _ (HL.out _ acc7) hAB).mono ?_
      rintro e w8 ⟨v8, rfl, o8, hb8⟩
      have acc8 := bnext acc7 hb8
      replace P1 := Lib.hid (P1.out.keep hb8)
      replace P2 := Lib.hid (P2.out.keep hb8)
      obtain ⟨a3, c3, rfl⟩ := own_shape o8
      have hcap := own_cap o8
      have P3 := Lib.hid (own_src o8 (by rw [List.length_map, FP.forms_length]))
      clear o8 hb8 acc7
      have e0 : (CP.split (A ++ m ++ B)).length = (FP.forms (A ++ m ++ B)).length := by rw [FP.forms_length]
      rw [e0, HMID.out] at hcap P3 ⊢
      have l1 := FP.forms_length A
      have l2 := FP.forms_length B
      have s1 := CP.split_length A
      have s2 := CP.split_length B
      have hl1 : (FP.forms A).length ≤ 31 := by omega
      have hl2 : (FP.forms B).length ≤ 31 := by omega
      generalize FP.forms A = L1 at P1 P3 hl1 hcap ⊢
      generalize FP.forms B = L2 at P2 P3 hl2 hcap ⊢
      clear l1 l2 s1 s2 e0 HMID
      obtain ⟨n1, hn1⟩ : ∃ n, L1.length = n := ⟨_, rfl⟩
      obtain ⟨n2, hn2⟩ : ∃ n, L2.length = n := ⟨_, rfl⟩
      have S1 := P1.out
      have S2 := P2.out
      have S3 := P3.out
      obtain ⟨a1, c1, rfl, _⟩ := P1.out
      obtain ⟨a2, c2, rfl, _⟩ := P2.out
      obtain ⟨a3', c3', he3, h3⟩ := P3.out
      have e1 : (L1.map (Value.int .i64)).length = n1 := by rw [List.length_map, hn1]
      have e2 : (L2.map (Value.int .i64)).length = n2 := by rw [List.length_map, hn2]
      have e3 : ((L1 ++ 0 :: L2).map (Value.int .i64)).length = n1 + 1 + n2 := by simp; omega
      have e4 : (L1 ++ 0 :: L2).length = n1 + 1 + n2 := by simp; omega
      injection he3 with he1 he2 he4
      subst he1 he4
      rcases h3 with ⟨h3, _⟩ | ⟨g3, o3, rfl, hg3, hc3⟩
      · simp at h3
      have cell := hc3 n1 (by rw [e3]; omega)
      rw [show ((L1 ++ 0 :: L2).map (Value.int .i64)).getD n1 (.bool false) = .int .i64 0 by rw [← hn1]; simp [List.getD]] at cell
      have T1 := S3.take (k := n1) (by rw [e4]; omega)
      have T2 := S3.drop (k := n1 + 1) (ao := some ⟨g3, o3 + (n1 + 1), none⟩) (by rw [e4]; omega) (fun h => by cases h) (fun _ g o h => by injection h with h; injection h with h1 h2; subst h1 h2; rfl)
      rw [show ((L1 ++ 0 :: L2).map (Value.int .i64)).take n1 = L1.map (Value.int .i64) by rw [← hn1]; simp] at T1
      rw [show ((L1 ++ 0 :: L2).map (Value.int .i64)).drop (n1 + 1) = L2.map (Value.int .i64) by rw [List.map_append, List.map_cons, ← hn1, show L1.length = (L1.map (Value.int .i64)).length by simp, drop_mid]] at T2
      rw [e1] at S1
      rw [e2] at S2
      rw [e4] at T2 hcap
      rw [e1, e2, e4]
      have I1 := Lib.hid (is_any _ _ L1 _ T1.row S1.row (by omega))
      have x1 : (n1 : Int) < (n1 : Int) + 1 + (n2 : Int) := by omega
      have x2 : (((n1 + 1 + n2 : Nat) : Int) != (n1 : Int) + 1 + (n2 : Int)) = false := by simp
      clear hc3 P1 P2 P3 S3 e1 e2 e3 e4 he2
      go_wp2_with fail
      refine I1.out.mono ?_
      rintro e w9 ⟨rfl, hb9⟩
      rw [show n1 + 1 + n2 - (n1 + 1) = n2 by omega] at T2
      have I2 := Lib.hid (is_any _ _ L2 _ (T2.keep hb9).row (S2.keep hb9).row (by omega))
      have I3 : Hid (n2 = 0 → Calls Tryd.prog 11 #[.slice (some ⟨g3, o3, none⟩) n2 0, .slice a2 n2 c2] w9 fun e w' => e = .returned (.bool true) ∧ Below w9.heap.size w9 w') := Lib.hid fun h0 => by
        have hL2 : L2 = [] := List.eq_nil_of_length_eq_zero (by omega)
        subst hL2
        subst h0
        exact is_any _ _ [] _ ⟨_, _, rfl, .inl rfl⟩ (S2.keep hb9).row (by decide)
      have cell9 := (hb9.cell (World.block_lt_of_cell? _ _ cell)).trans cell
      have acc9 := bnext acc8 hb9
      clear hb9 S2 T2 S1 T1 I1 cell
      go_wp2_with fail
      case inl =>
        refine (I3.out (by omega)).mono ?_
        rintro e w10 ⟨rfl, hb10⟩
        have acc10 := bnext acc9 hb10
        go_wp2_with fail
        go_ret
        exact ⟨rfl, acc10⟩
      case inr =>
        refine I2.out.mono ?_
        rintro e w10 ⟨rfl, hb10⟩
        have acc10 := bnext acc9 hb10
        go_wp2_with fail
        go_ret
        exact ⟨rfl, acc10⟩
    | false =>
      rw [hx, CP.ch_at hz] at HE
      have HXX := Lib.hid hx
      clear hx
      go_wp2_with fail
      refine HE.out.mono ?_
      rintro e w4 ⟨rfl, hb4⟩
      have acc4 := bnext acc3 hb4
      clear hb4 acc3 HE
      go_wp2_with fail
      have hB1 : B0.size ≤ 31 := by omega
      have hBx : 0 < B0.size → CP.ex B0 0 = false := fun _ => HXX.out
      have hB2 : B0.size ≤ 1000000000 := by omega
      have hAB : (A ++ m ++ B0).size ≤ 1000000000 := by rw [ByteArray.size_append, ByteArray.size_append]; omega
      have HMID := Lib.hid (FP.forms_mid (a := A) (b := B0) hm1 HMC.out hBx)
      have acc5 := balloc acc4 (.cells #[.string ⟨#[32]⟩, .string ⟨#[10]⟩, .string ⟨#[33]⟩, .string ⟨#[45]⟩] 9)
      have hlit := HLIT.out
      clear hBx HMC acc4 HLIT
      go_wp2_with fail
      rw [hlit]
      refine (forms_any A g _ (HL.out _ acc5) hA1).mono ?_
      rintro e w6 ⟨v6, rfl, o6, hb6⟩
      have acc6 := bnext acc5 hb6
      have P1 := Lib.hid (own_src o6 (by rw [List.length_map, FP.forms_length]))
      clear o6 hb6 acc5 hlit
      go_wp2_with fail
      refine (forms_any B0 g _ (HL.out _ acc6) hB2).mono ?_
      rintro e w7 ⟨v7, rfl, o7, hb7⟩
      have acc7 := bnext acc6 hb7
      replace P1 := Lib.hid (P1.out.keep hb7)
      have P2 := Lib.hid (own_src o7 (by rw [List.length_map, FP.forms_length]))
      clear o7 hb7 acc6
      go_wp2_with fail
      refine (forms_any (A ++ m ++ B0) g _ (HL.out _ acc7) hAB).mono ?_
      rintro e w8 ⟨v8, rfl, o8, hb8⟩
      have acc8 := bnext acc7 hb8
      replace P1 := Lib.hid (P1.out.keep hb8)
      replace P2 := Lib.hid (P2.out.keep hb8)
      obtain ⟨a3, c3, rfl⟩ := own_shape o8
      have hcap := own_cap o8
      have P3 := Lib.hid (own_src o8 (by rw [List.length_map, FP.forms_length]))
      clear o8 hb8 acc7
      have e0 : (CP.split (A ++ m ++ B0)).length = (FP.forms (A ++ m ++ B0)).length := by rw [FP.forms_length]
      rw [e0, HMID.out] at hcap P3 ⊢
      have l1 := FP.forms_length A
      have l2 := FP.forms_length B0
      have s1 := CP.split_length A
      have s2 := CP.split_length B0
      have hl1 : (FP.forms A).length ≤ 31 := by omega
      have hl2 : (FP.forms B0).length ≤ 31 := by omega
      generalize FP.forms A = L1 at P1 P3 hl1 hcap ⊢
      generalize FP.forms B0 = L2 at P2 P3 hl2 hcap ⊢
      clear l1 l2 s1 s2 e0 HMID
      obtain ⟨n1, hn1⟩ : ∃ n, L1.length = n := ⟨_, rfl⟩
      obtain ⟨n2, hn2⟩ : ∃ n, L2.length = n := ⟨_, rfl⟩
      have S1 := P1.out
      have S2 := P2.out
      have S3 := P3.out
      obtain ⟨a1, c1, rfl, _⟩ := P1.out
      obtain ⟨a2, c2, rfl, _⟩ := P2.out
      obtain ⟨a3', c3', he3, h3⟩ := P3.out
      have e1 : (L1.map (Value.int .i64)).length = n1 := by rw [List.length_map, hn1]
      have e2 : (L2.map (Value.int .i64)).length = n2 := by rw [List.length_map, hn2]
      have e3 : ((L1 ++ 0 :: L2).map (Value.int .i64)).length = n1 + 1 + n2 := by simp; omega
      have e4 : (L1 ++ 0 :: L2).length = n1 + 1 + n2 := by simp; omega
      injection he3 with he1 he2 he4
      subst he1 he4
      rcases h3 with ⟨h3, _⟩ | ⟨g3, o3, rfl, hg3, hc3⟩
      · simp at h3
      have cell := hc3 n1 (by rw [e3]; omega)
      rw [show ((L1 ++ 0 :: L2).map (Value.int .i64)).getD n1 (.bool false) = .int .i64 0 by rw [← hn1]; simp [List.getD]] at cell
      have T1 := S3.take (k := n1) (by rw [e4]; omega)
      have T2 := S3.drop (k := n1 + 1) (ao := some ⟨g3, o3 + (n1 + 1), none⟩) (by rw [e4]; omega) (fun h => by cases h) (fun _ g o h => by injection h with h; injection h with h1 h2; subst h1 h2; rfl)
      rw [show ((L1 ++ 0 :: L2).map (Value.int .i64)).take n1 = L1.map (Value.int .i64) by rw [← hn1]; simp] at T1
      rw [show ((L1 ++ 0 :: L2).map (Value.int .i64)).drop (n1 + 1) = L2.map (Value.int .i64) by rw [List.map_append, List.map_cons, ← hn1, show L1.length = (L1.map (Value.int .i64)).length by simp, drop_mid]] at T2
      rw [e1] at S1
      rw [e2] at S2
      rw [e4] at T2 hcap
      rw [e1, e2, e4]
      have I1 := Lib.hid (is_any _ _ L1 _ T1.row S1.row (by omega))
      have x1 : (n1 : Int) < (n1 : Int) + 1 + (n2 : Int) := by omega
      have x2 : (((n1 + 1 + n2 : Nat) : Int) != (n1 : Int) + 1 + (n2 : Int)) = false := by simp
      clear hc3 P1 P2 P3 S3 e1 e2 e3 e4 he2
      go_wp2_with fail
      refine I1.out.mono ?_
      rintro e w9 ⟨rfl, hb9⟩
      rw [show n1 + 1 + n2 - (n1 + 1) = n2 by omega] at T2
      have I2 := Lib.hid (is_any _ _ L2 _ (T2.keep hb9).row (S2.keep hb9).row (by omega))
      have I3 : Hid (n2 = 0 → Calls Tryd.prog 11 #[.slice (some ⟨g3, o3, none⟩) n2 0, .slice a2 n2 c2] w9 fun e w' => e = .returned (.bool true) ∧ Below w9.heap.size w9 w') := Lib.hid fun h0 => by
        have hL2 : L2 = [] := List.eq_nil_of_length_eq_zero (by omega)
        subst hL2
        subst h0
        exact is_any _ _ [] _ ⟨_, _, rfl, .inl rfl⟩ (S2.keep hb9).row (by decide)
      have cell9 := (hb9.cell (World.block_lt_of_cell? _ _ cell)).trans cell
      have acc9 := bnext acc8 hb9
      clear hb9 S2 T2 S1 T1 I1 cell
      go_wp2_with fail
      case inl =>
        refine (I3.out (by omega)).mono ?_
        rintro e w10 ⟨rfl, hb10⟩
        have acc10 := bnext acc9 hb10
        go_wp2_with fail
        go_ret
        exact ⟨rfl, acc10⟩
      case inr =>
        refine I2.out.mono ?_
        rintro e w10 ⟨rfl, hb10⟩
        have acc10 := bnext acc9 hb10
        go_wp2_with fail
        go_ret
        exact ⟨rfl, acc10⟩
  · have hzi : ¬ (0 : Int) < (B0.size : Int) := by omega
    go_wp2_with fail
    have hB1 : B0.size ≤ 31 := by omega
    have hBx : 0 < B0.size → CP.ex B0 0 = false := fun h => absurd h hz
    have hB2 : B0.size ≤ 1000000000 := by omega
    have hAB : (A ++ m ++ B0).size ≤ 1000000000 := by rw [ByteArray.size_append, ByteArray.size_append]; omega
    have HMID := Lib.hid (FP.forms_mid (a := A) (b := B0) hm1 HMC.out hBx)
    have acc5 := balloc acc3 (.cells #[.string ⟨#[32]⟩, .string ⟨#[10]⟩, .string ⟨#[33]⟩, .string ⟨#[45]⟩] 9)
    have hlit := HLIT.out
    clear hBx HMC acc3 HLIT
    go_wp2_with fail
    rw [hlit]
    refine (forms_any A g _ (HL.out _ acc5) hA1).mono ?_
    rintro e w6 ⟨v6, rfl, o6, hb6⟩
    have acc6 := bnext acc5 hb6
    have P1 := Lib.hid (own_src o6 (by rw [List.length_map, FP.forms_length]))
    clear o6 hb6 acc5 hlit
    go_wp2_with fail
    refine (forms_any B0 g _ (HL.out _ acc6) hB2).mono ?_
    rintro e w7 ⟨v7, rfl, o7, hb7⟩
    have acc7 := bnext acc6 hb7
    replace P1 := Lib.hid (P1.out.keep hb7)
    have P2 := Lib.hid (own_src o7 (by rw [List.length_map, FP.forms_length]))
    clear o7 hb7 acc6
    go_wp2_with fail
    refine (forms_any (A ++ m ++ B0) g _ (HL.out _ acc7) hAB).mono ?_
    rintro e w8 ⟨v8, rfl, o8, hb8⟩
    have acc8 := bnext acc7 hb8
    replace P1 := Lib.hid (P1.out.keep hb8)
    replace P2 := Lib.hid (P2.out.keep hb8)
    obtain ⟨a3, c3, rfl⟩ := own_shape o8
    have hcap := own_cap o8
    have P3 := Lib.hid (own_src o8 (by rw [List.length_map, FP.forms_length]))
    clear o8 hb8 acc7
    have e0 : (CP.split (A ++ m ++ B0)).length = (FP.forms (A ++ m ++ B0)).length := by rw [FP.forms_length]
    rw [e0, HMID.out] at hcap P3 ⊢
    have l1 := FP.forms_length A
    have l2 := FP.forms_length B0
    have s1 := CP.split_length A
    have s2 := CP.split_length B0
    have hl1 : (FP.forms A).length ≤ 31 := by omega
    have hl2 : (FP.forms B0).length ≤ 31 := by omega
    generalize FP.forms A = L1 at P1 P3 hl1 hcap ⊢
    generalize FP.forms B0 = L2 at P2 P3 hl2 hcap ⊢
    clear l1 l2 s1 s2 e0 HMID
    obtain ⟨n1, hn1⟩ : ∃ n, L1.length = n := ⟨_, rfl⟩
    obtain ⟨n2, hn2⟩ : ∃ n, L2.length = n := ⟨_, rfl⟩
    have S1 := P1.out
    have S2 := P2.out
    have S3 := P3.out
    obtain ⟨a1, c1, rfl, _⟩ := P1.out
    obtain ⟨a2, c2, rfl, _⟩ := P2.out
    obtain ⟨a3', c3', he3, h3⟩ := P3.out
    have e1 : (L1.map (Value.int .i64)).length = n1 := by rw [List.length_map, hn1]
    have e2 : (L2.map (Value.int .i64)).length = n2 := by rw [List.length_map, hn2]
    have e3 : ((L1 ++ 0 :: L2).map (Value.int .i64)).length = n1 + 1 + n2 := by simp; omega
    have e4 : (L1 ++ 0 :: L2).length = n1 + 1 + n2 := by simp; omega
    injection he3 with he1 he2 he4
    subst he1 he4
    rcases h3 with ⟨h3, _⟩ | ⟨g3, o3, rfl, hg3, hc3⟩
    · simp at h3
    have cell := hc3 n1 (by rw [e3]; omega)
    rw [show ((L1 ++ 0 :: L2).map (Value.int .i64)).getD n1 (.bool false) = .int .i64 0 by rw [← hn1]; simp [List.getD]] at cell
    have T1 := S3.take (k := n1) (by rw [e4]; omega)
    have T2 := S3.drop (k := n1 + 1) (ao := some ⟨g3, o3 + (n1 + 1), none⟩) (by rw [e4]; omega) (fun h => by cases h) (fun _ g o h => by injection h with h; injection h with h1 h2; subst h1 h2; rfl)
    rw [show ((L1 ++ 0 :: L2).map (Value.int .i64)).take n1 = L1.map (Value.int .i64) by rw [← hn1]; simp] at T1
    rw [show ((L1 ++ 0 :: L2).map (Value.int .i64)).drop (n1 + 1) = L2.map (Value.int .i64) by rw [List.map_append, List.map_cons, ← hn1, show L1.length = (L1.map (Value.int .i64)).length by simp, drop_mid]] at T2
    rw [e1] at S1
    rw [e2] at S2
    rw [e4] at T2 hcap
    rw [e1, e2, e4]
    have I1 := Lib.hid (is_any _ _ L1 _ T1.row S1.row (by omega))
    have x1 : (n1 : Int) < (n1 : Int) + 1 + (n2 : Int) := by omega
    have x2 : (((n1 + 1 + n2 : Nat) : Int) != (n1 : Int) + 1 + (n2 : Int)) = false := by simp
    clear hc3 P1 P2 P3 S3 e1 e2 e3 e4 he2
    go_wp2_with fail
    refine I1.out.mono ?_
    rintro e w9 ⟨rfl, hb9⟩
    rw [show n1 + 1 + n2 - (n1 + 1) = n2 by omega] at T2
    have I2 := Lib.hid (is_any _ _ L2 _ (T2.keep hb9).row (S2.keep hb9).row (by omega))
    have I3 : Hid (n2 = 0 → Calls Tryd.prog 11 #[.slice (some ⟨g3, o3, none⟩) n2 0, .slice a2 n2 c2] w9 fun e w' => e = .returned (.bool true) ∧ Below w9.heap.size w9 w') := Lib.hid fun h0 => by
      have hL2 : L2 = [] := List.eq_nil_of_length_eq_zero (by omega)
      subst hL2
      subst h0
      exact is_any _ _ [] _ ⟨_, _, rfl, .inl rfl⟩ (S2.keep hb9).row (by decide)
    have cell9 := (hb9.cell (World.block_lt_of_cell? _ _ cell)).trans cell
    have acc9 := bnext acc8 hb9
    clear hb9 S2 T2 S1 T1 I1 cell
    go_wp2_with fail
    case inl =>
      refine (I3.out (by omega)).mono ?_
      rintro e w10 ⟨rfl, hb10⟩
      have acc10 := bnext acc9 hb10
      go_wp2_with fail
      go_ret
      exact ⟨rfl, acc10⟩
    case inr =>
      refine I2.out.mono ?_
      rintro e w10 ⟨rfl, hb10⟩
      have acc10 := bnext acc9 hb10
      go_wp2_with fail
      go_ret
      exact ⟨rfl, acc10⟩

set_option maxRecDepth 100000 in
theorem lifted (os : Os) (started : os.Started) (H : Type) (enc : TypeId × Value → H) :
    ReturnsInHanded {} Tryd.checked os 7 .any (fun w args => (Rows.formsApartSpec.pre enc Tryd.prog Tryd.f7 [] false w args ∧ laidMetH Tryd.prog laidL w) ∧ sizedMet enc Tryd.prog Tryd.f7 (OpenSpec.ofChange Rows.formsApartSpec) false w args)
      (Rows.formsApartSpec.post enc Tryd.prog Tryd.f7 false true false false) := by
  refine returnsInHanded_of_change_and (C := Tryd.checked) (X := fun w _ => laidMetH Tryd.prog laidL w) (fun _ _ _ hh h => h.of_heap hh) own started (by kernel_rfl) Tryd.func7
    (ChangeSpec.witness_shaped (enc := enc) (C := Tryd.checked) (os := os) (X := fun w _ => laidMetH Tryd.prog laidL w) false (World.doorLaid Tryd.prog 46 os) #[.slice none 0 0, .slice none 0 0, .int .u8 0] 8 rfl (World.shaped_of_RefB (by kernel_rfl) (by kernel_rfl)) (by kernel_rfl) (by kernel_rfl) (by kernel_rfl) (door_met os _)) ?_
  intro W base args ds gs before hval0 hW _ _ hL _
  have hval : ∀ (j : Nat) t v, Tryd.f7.params[j]? = some t → args[j]? = some v → Value.okWide Tryd.prog W .any base t v := hval0
  have hW' := hW
  obtain ⟨p, q, hA0, hV, rfl, hfz, hnd⟩ := hW
  have hA : DataW.TrodAll enc Tryd.prog W 0 (fun _ => true) true Tryd.f7.params.toList args.toList ds p := hA0
  rw [Tryd.params7] at hA hval
  obtain ⟨v0, vs0, d0, ds0, p0, q0, hargs, rfl, rfl, h0, r0⟩ := trodAll_cons hA
  obtain ⟨v1, vs1, d1, ds1, p1, q1, rfl, rfl, rfl, h1, r1⟩ := trodAll_cons r0
  obtain ⟨v2, vs2, d2, ds2, p2, q2, rfl, rfl, rfl, h2, r2⟩ := trodAll_cons r1
  obtain ⟨rfl, rfl, rfl⟩ := trodAll_nil r2
  obtain rfl : args = #[v0, v1, v2] := by cases args; simp_all
  obtain ⟨rfl, rfl⟩ := trodVars_none hV
  obtain ⟨g, hlaid⟩ := of_laid hL
  have k0 := h0
  have lt0 : ∀ x ∈ p0, x.block < W.heap.size := by obtain ⟨m, hm⟩ := k0; exact DataW.trod_lt m _ _ _ hm
  have k1 := h1
  have lt1 : ∀ x ∈ p1, x.block < W.heap.size := by obtain ⟨m, hm⟩ := k1; exact DataW.trod_lt m _ _ _ hm
  have k2 := h2
  have lt2 : ∀ x ∈ p2, x.block < W.heap.size := by obtain ⟨m, hm⟩ := k2; exact DataW.trod_lt m _ _ _ hm
  obtain ⟨a0, H0, L0, E0⟩ := open_l (hval 0 22 v0 rfl rfl) h0
  obtain ⟨a1, H1, L1, E1⟩ := open_l (hval 1 22 v1 rfl rfl) h1
  obtain ⟨a2, rfl, rfl, rfl, wa2⟩ := open_int Tryd.underlying5 (hval 2 5 v2 rfl rfl) h2
  clear hA0 hval0
  refine (walk v0 a0 v1 a1 a2 g wa2 W hlaid H0 L0 E0 H1 L1 E1).mono fun e W' ⟨he, bel⟩ => ?_
  subst he
  exact ⟨_, rfl, _, _, _, [], _, [], hW', trodAll_mk1 (shut_bool Tryd.underlying4 _), (trodAll_cons_mk (Below.trod laidOut (by kernel_rfl) (of_decide_eq_true (by kernel_rfl)) k0 bel lt0) (trodAll_cons_mk (Below.trod laidOut (by kernel_rfl) (of_decide_eq_true (by kernel_rfl)) k1 bel lt1) (trodAll_cons_mk (Below.trod laidOut (by kernel_rfl) (of_decide_eq_true (by kernel_rfl)) k2 bel lt2) trodAll_mk0))), rfl, bel.frame _, fun h => by cases h⟩

theorem over : Rows.formsApartRow.holds Tryd.pinned (OpenSpec.ofChange Rows.formsApartSpec) :=
  OpenClaim.holds_of_wide 7 Tryd.f7 rfl rfl rfl rfl rfl rfl rfl ⟨rfl, rfl, rfl, rfl, rfl⟩ rfl rfl rfl rfl rfl (by kernel_rfl) Tryd.func7 (by kernel_rfl)
    (of_decide_eq_true (by kernel_rfl)) (by unfold Func.isWrapper; first | (rw [if_pos (by decide +kernel)]; kernel_rfl) | (rw [if_neg (by decide +kernel)]; exact ⟨rfl, rfl⟩))
    (fun os started H enc _ => lifted os started H enc)

/-- The row's card, tied to the program's text. -/
theorem card : Rows.FormsApartCardSaid :=
  Claim7.holds_tied_plain_at .later [] [.data] true Rows.formsApartCard.stood.harness false
    over (fun _ h => by cases h) (by kernel_rfl) (fun _ h => by cases h) formsApart_row_tie rfl ⟨rfl, rfl⟩ (by kernel_rfl) rfl
    (fun f fn hf hfn => by
      obtain rfl : f = 7 := Option.some.inj ((show Tryd.prog.funcNamed "abugida/abugidalaw17.FormsApart" = some 7 by kernel_rfl).symm.trans hf) |>.symm
      obtain rfl : fn = Tryd.f7 := (Option.some.inj (Tryd.func7.symm.trans hfn)).symm
      exact ⟨by kernel_rfl, fun j t ht => by
        rw [Tryd.params7] at ht
        have hm : t ∈ [22, 22, 5] := by simpa using Array.mem_of_getElem? ht
        have hall : ([22, 22, 5].all fun u => !Tryd.prog.wantsStandIn u) = true := by kernel_rfl
        exact (show Tryd.prog.wantsStandIn t = false by simpa using List.all_eq_true.1 hall t hm)⟩)
    (by kernel_rfl)

end Go.Proofs.YtkacbmimmnlhlaaDoor.formsApart
namespace Go.Proofs.YtkacbmimmnlhlaaDoor
theorem formsApart_proved : Rows.FormsApartCardSaid := formsApart.card
#print axioms formsApart_proved
end Go.Proofs.YtkacbmimmnlhlaaDoor
