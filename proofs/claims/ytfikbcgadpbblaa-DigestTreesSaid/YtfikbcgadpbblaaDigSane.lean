/- The law's examples hold. No conditions. -/
import Derived.Test.YtfikbcgadpbblaaDigSane0
import Derived.Test.YtfikbcgadpbblaaDigSame
namespace Go.Proofs.Ytfikbcgadpbblaa
set_option linter.unusedVariables false
open Go.RowKit
theorem of_c {s z : ByteArray} (hz : DG.Of s = z) (hs : s.size ≤ maxLen) (w : World) : Calls Try.prog 13 #[.string s] w fun e w' => e = .returned (.string z) ∧ Below w.heap.size w w' := by
  rw [← hz]; exact Of_any s w hs
theorem pair_c {a b z : ByteArray} (hz : DG.Pair a b = z) (ha : a.size < 4294967296) (hb : b.size ≤ maxLen) (w : World) : Calls Try.prog 15 #[.string a, .string b] w fun e w' => e = .returned (.string z) ∧ Below w.heap.size w w' := by
  rw [← hz]; exact Pair_any a b w ha hb
theorem root_c {L : List ByteArray} {h n : Nat} {z : ByteArray} {a : Option Addr} {c : Nat} {w : World} (hn : L.length = n) (hz : DG.root L h = z) (hr : RowAt w (.slice a n c) (L.map Value.string)) (hL : L.length ≤ 1000000) (hs : ∀ s ∈ L, s.size < 2147483648) (hh : DG.IsH L.length h) :
    Calls Try.prog 21 #[.slice a n c] w fun e W' => e = .returned (.string z) ∧ Below w.heap.size w W' := by
  subst hn hz; exact rootP_any L a c h w hr hL hs hh
theorem proof_c {L M : List ByteArray} {h n m : Nat} {i : Int} {a : Option Addr} {c : Nat} {w : World} (hn : L.length = n) (hz : DG.proof L h i = M) (hm : M.length = m) (hr : RowAt w (.slice a n c) (L.map Value.string)) (hL : L.length ≤ 1000000) (hs : ∀ s ∈ L, s.size < 2147483648) (hh : DG.IsH L.length h) :
    Calls Try.prog 19 #[.slice a n c, .int .i64 i] w fun e W' => ∃ pa pc, e = .returned (.slice pa m pc) ∧ m ≤ pc ∧ RowAt W' (.slice pa m pc) (M.map Value.string) ∧ Below w.heap.size w W' := by
  subst hn hz hm
  refine (proof_any L a c h i w hr hL hs hh).mono fun e W' ⟨v, he, hv, hb⟩ => ?_
  obtain ⟨pa, pc, rfl⟩ := own_shape hv
  refine ⟨pa, pc, he, ?_, row_own hv (by rw [List.length_map]), hb⟩
  rcases hv.2 with ⟨e1, e2⟩ | ⟨g, cap, cur, e1, _, _, e2, _⟩
  · omega
  · injection e1 with _ _ e3
    omega
theorem same_c {L M : List ByteArray} {n m : Nat} {a b : Option Addr} {c d : Nat} {w : World} (he : L = M) (hn : L.length = n) (hm : M.length = m) (hr : RowAt w (.slice a n c) (L.map Value.string)) (hr2 : RowAt w (.slice b m d) (M.map Value.string)) (hL : L.length ≤ maxLen) :
    Calls Try.prog 18 #[.slice a n c, .slice b m d] w fun e w' => e = .returned (.bool true) ∧ Below w.heap.size w w' := by
  subst hn hm
  have := rsame_any a b c d L M w hr hr2 hL (he ▸ hL)
  rwa [show decide (L = M) = true by simpa using he] at this
theorem ver_c {root leaf : ByteArray} {i : Int} {l : List ByteArray} {n : Nat} {a : Option Addr} {c : Nat} {w : World} {r : Bool} (hz : DG.verify root leaf i l = r) (hn : l.length = n) (hi : -9223372036854775808 ≤ i ∧ i ≤ 9223372036854775807) (hf : leaf.size < 2147483648) (hr : RowAt w (.slice a n c) (l.map Value.string)) (hs : ∀ s ∈ l, s.size < 2147483648) :
    Calls Try.prog 23 #[.string root, .string leaf, .int .i64 i, .slice a n c] w fun e w' => e = .returned (.bool r) ∧ Below w.heap.size w w' := by
  subst hn hz; exact verify_any root leaf i a c l w hi hf hr hs
theorem small3 : ∀ s ∈ DG.L3, s.size < 2147483648 := by
  intro s hs
  simp [DG.L3, DG.sa, DG.sb, DG.sc] at hs
  rcases hs with rfl | rfl | rfl <;> decide
set_option maxRecDepth 100000 in
set_option maxHeartbeats 4000000 in
theorem sane_any (w : World) : Calls Try.prog 11 #[] w fun e w' => e = .returned (.bool true) ∧ Below w.heap.size w w' := by
  obtain ⟨R, hR⟩ : ∃ R, DG.root DG.L3 2 = R := ⟨_, rfl⟩
  obtain ⟨Z, hZ⟩ : ∃ Z, DG.Of ⟨#[2, 0]⟩ = Z := ⟨_, rfl⟩
  obtain ⟨q, hq⟩ : ∃ q, DG.Pair DG.sa DG.sb = q := ⟨_, rfl⟩
  obtain ⟨y, hy⟩ : ∃ y, DG.Pair DG.sc ⟨#[]⟩ = y := ⟨_, rfl⟩
  have p2 := DG.proof_2
  have p0 := DG.proof_0
  have v2 := DG.ver_2
  have v6 := DG.ver_6
  have v1 := DG.ver_1
  have r0 := DG.root_0
  rw [hq] at p2 v2 v6
  rw [hy] at p0
  rw [hR] at v2 v6 v1
  rw [hZ] at r0
  have hqs : ∀ s ∈ [(⟨#[]⟩ : ByteArray), q], s.size < 2147483648 := by
    intro s hs
    simp at hs
    rcases hs with rfl | rfl
    · decide
    · rw [← hq, DG.Pair_size]; decide
  have HQ := Lib.hid hq
  have HY := Lib.hid hy
  have HR := Lib.hid hR
  have HZ := Lib.hid hZ
  have P2 := Lib.hid p2
  have P0 := Lib.hid p0
  have V2 := Lib.hid v2
  have V6 := Lib.hid v6
  have V1 := Lib.hid v1
  have R0 := Lib.hid r0
  have HQS := Lib.hid hqs
  clear hR hZ hq hy p2 p0 v2 v6 v1 r0 hqs
  have hl0 : RowAt (w.alloc (.cells #[.string ⟨#[97]⟩, .string ⟨#[98]⟩, .string ⟨#[99]⟩] 9)) (.slice (some ⟨w.heap.size, 0, none⟩) 3 3) (DG.L3.map Value.string) := row_own (own_lit w [.string ⟨#[97]⟩, .string ⟨#[98]⟩, .string ⟨#[99]⟩] 9 w.heap.size (Nat.le_refl _) (by simp [maxLen])) rfl
  have ha0 : Below w.heap.size w (w.alloc (.cells #[.string ⟨#[97]⟩, .string ⟨#[98]⟩, .string ⟨#[99]⟩] 9)) := balloc (Below.refl _ _) _
  have hb0 := Below.refl (w.alloc (.cells #[.string ⟨#[97]⟩, .string ⟨#[98]⟩, .string ⟨#[99]⟩] 9)).heap.size (w.alloc (.cells #[.string ⟨#[97]⟩, .string ⟨#[98]⟩, .string ⟨#[99]⟩] 9))
  go_enter Try.func11, Try.ntmps11
  go_wp2_with fail
  generalize w.alloc (.cells #[.string ⟨#[97]⟩, .string ⟨#[98]⟩, .string ⟨#[99]⟩] 9) = W at hl0 ha0 hb0 ⊢
  have HL := Lib.hid hl0
  have HA := Lib.hid ha0
  clear hl0 ha0
  refine (proof_c (L := DG.L3) rfl P2.out rfl HL.out (by decide) small3 DG.isH_3).mono ?_
  rintro e w1 ⟨pa, pc, rfl, hpc, hrp, k1⟩
  have hb1 := bnext hb0 k1
  have cb1 := Below.refl w1.heap.size w1
  clear k1
  clear hb0
  have HPC : Hid (2 ≤ pc) := Lib.hid hpc
  have HP := Lib.hid hrp
  clear hrp
  have hbp := Lib.hid hb1
  go_wp2_with fail
  refine (root_c (L := DG.L3) rfl HR.out (HL.out.keep hb1) (by decide) small3 DG.isH_3).mono ?_
  rintro e w2 ⟨rfl, k2⟩
  have hb2 := bnext hb1 k2
  have cb2 := bnext cb1 k2
  clear cb1
  clear k2
  clear hb1
  go_wp2_with fail
  refine (of_c DG.of_0 (by decide) _).mono ?_
  rintro e w3 ⟨rfl, k3⟩
  have hb3 := bnext hb2 k3
  have cb3 := bnext cb2 k3
  clear cb2
  clear k3
  clear hb2
  go_wp2_with fail
  refine (of_c DG.of_1 (by decide) _).mono ?_
  rintro e w4 ⟨rfl, k4⟩
  have hb4 := bnext hb3 k4
  have cb4 := bnext cb3 k4
  clear cb3
  clear k4
  clear hb3
  go_wp2_with fail
  refine (root_c (L := []) (h := 0) rfl R0.out ⟨none, 0, rfl, .inl rfl⟩ (by decide) (by simp) DG.isH_0).mono ?_
  rintro e w5 ⟨rfl, k5⟩
  have hb5 := bnext hb4 k5
  have cb5 := bnext cb4 k5
  clear cb4
  clear k5
  clear hb4
  go_wp2_with fail
  refine (of_c HZ.out (by decide) _).mono ?_
  rintro e w6 ⟨rfl, k6⟩
  have hb6 := bnext hb5 k6
  have cb6 := bnext cb5 k6
  clear cb5
  clear k6
  clear hb5
  go_wp2_with fail
  refine (pair_c HQ.out (by decide) (by decide) _).mono ?_
  rintro e w7 ⟨rfl, k7⟩
  have hb7 := bnext hb6 k7
  have cb7 := bnext cb6 k7
  clear cb6
  clear k7
  clear hb6
  go_wp2_with fail
  refine (same_c (L := [⟨#[]⟩, q]) (M := [⟨#[]⟩, q]) rfl rfl rfl (HP.out.keep (balloc cb7 _)) (row_own (own_lit w7 [.string ⟨#[]⟩, .string q] 9 w7.heap.size (Nat.le_refl _) (by simp [maxLen])) rfl) (by simp [maxLen])).mono ?_
  rintro e w8 ⟨rfl, k8⟩
  have hb8 := bnext (balloc hb7 _) k8
  have cb8 := bnext (balloc cb7 _) k8
  clear cb7
  clear k8
  clear hb7
  go_wp2_with fail
  refine (proof_c (L := DG.L3) rfl P0.out rfl (HL.out.keep hb8) (by decide) small3 DG.isH_3).mono ?_
  rintro e w9 ⟨pa2, pc2, rfl, hpc2, hrp2, k9⟩
  have hb9 := bnext hb8 k9
  have cb9 := bnext cb8 k9
  clear cb8
  clear k9
  clear hb8
  have HP2 := Lib.hid hrp2
  clear hrp2
  go_wp2_with fail
  refine (pair_c HY.out (by decide) (by decide) _).mono ?_
  rintro e w10 ⟨rfl, k10⟩
  have hb10 := bnext hb9 k10
  have cb10 := bnext cb9 k10
  clear cb9
  clear hb9
  go_wp2_with fail
  refine (same_c (L := [DG.sb, y]) (M := [DG.sb, y]) rfl rfl rfl (HP2.out.keep (balloc k10 _)) (row_own (own_lit w10 [.string DG.sb, .string y] 9 w10.heap.size (Nat.le_refl _) (by simp [maxLen])) rfl) (by simp [maxLen])).mono ?_
  rintro e w11 ⟨rfl, k11⟩
  have hb11 := bnext (balloc hb10 _) k11
  have cb11 := bnext (balloc cb10 _) k11
  clear cb10
  clear k11
  clear hb10
  clear k10
  go_wp2_with fail
  refine (proof_c (L := DG.L3) rfl DG.proof_3 rfl (HL.out.keep hb11) (by decide) small3 DG.isH_3).mono ?_
  rintro e w12 ⟨pa3, pc3, rfl, hpc3, hrp3, k12⟩
  have hb12 := bnext hb11 k12
  have cb12 := bnext cb11 k12
  clear cb11
  clear k12
  clear hb11
  clear hrp3
  go_wp2_with fail
  refine (ver_c V2.out rfl (by decide) (by decide) (HP.out.keep cb12) HQS.out).mono ?_
  rintro e w13 ⟨rfl, k13⟩
  have hb13 := bnext hb12 k13
  have cb13 := bnext cb12 k13
  clear cb12
  clear k13
  clear hb12
  go_wp2_with fail
  refine (ver_c V6.out rfl (by decide) (by decide) (HP.out.keep cb13) HQS.out).mono ?_
  rintro e w14 ⟨rfl, k14⟩
  have hb14 := bnext hb13 k14
  have cb14 := bnext cb13 k14
  clear cb13
  clear k14
  clear hb13
  have hp1 := row_first (HP.out.keep cb14) (m := 1) (by simp)
  have hpc9 := HPC.out
  have hpi : (1 : Int) ≤ (pc : Int) := by omega
  have hpn : 1 ≤ pc := by omega
  go_wp2_with fail
  refine (ver_c (l := [⟨#[]⟩]) V1.out rfl (by decide) (by decide) hp1 (fun s hs => by simp at hs; subst hs; decide)).mono ?_
  rintro e w15 ⟨rfl, k15⟩
  have hb15 := bnext hb14 k15
  have cb15 := bnext cb14 k15
  clear cb14
  clear k15
  clear hb14
  clear hp1
  go_wp2
  go_ret
  exact ⟨rfl, bnext HA.out hb15⟩
end Go.Proofs.Ytfikbcgadpbblaa
