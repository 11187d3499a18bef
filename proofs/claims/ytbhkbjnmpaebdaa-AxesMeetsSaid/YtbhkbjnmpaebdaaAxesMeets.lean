/- For every case AxesMeets returns true: a region touches ranges if and only if it has a scalar other than 0 somewhere within, found axis by axis, and touches greater ranges, too. No conditions. -/
import Derived.Test.YtbhkbjnmpaebdaaAxM
import Derived.Test.YtbhkbjnmpaebdaaLast
import Derived.Test.YtbhkbjnmpaebdaaHeldIn
namespace Go.Proofs.Ytbhkbjnmpaebdaa.axesMeets
open Go.ChangeShapes Go.WideShapes Go.ChangeAt Go.RowKit Go.Joins Go.Deep
set_option linter.unusedVariables false

def FB (t : AX.Tn) (p : AX.Pr) (y bst : Int) (f : Bool) : Prop := (f = true → 0 < (AX.strength t bst).1) ∧ (f = false → ∀ u, p.1 ≤ u → u < y → ¬ 0 < (AX.strength t u).1)
theorem found_zero (r : List AX.Tn) (l : List AX.Pr) : AX.Found r l [] 0 true := ⟨fun j x y hj => by omega, fun _ j t y hj => by omega, fun h => by simp at h⟩
theorem found_step {r : List AX.Tn} {l : List AX.Pr} {A : List Int} {k : Nat} {b f : Bool} {x : AX.Pr} {t : AX.Tn} {y : Int} (hA : A.length = k) (h : AX.Found r l A k b) (hx : l[k]? = some x) (ht : r[k]? = some t) (hy : x.1 ≤ y ∧ y ≤ x.2) (h1 : f = true → 0 < (AX.strength t y).1) (h2 : f = false → ∀ u, x.1 ≤ u → u ≤ x.2 → ¬ 0 < (AX.strength t u).1) : AX.Found r l (A ++ [y]) (k + 1) (b && f) := by
  obtain ⟨a1, a2, a3⟩ := h
  have get : ∀ (j : Nat) (z : Int), j < k + 1 → (A ++ [y])[j]? = some z → (j < k ∧ A[j]? = some z) ∨ (j = k ∧ z = y) := by
    intro j z hj hz
    by_cases hjk : j < k
    · rw [List.getElem?_append_left (by omega)] at hz
      exact .inl ⟨hjk, hz⟩
    · obtain rfl : j = k := by omega
      rw [List.getElem?_append_right (by omega), hA, Nat.sub_self] at hz
      exact .inr ⟨rfl, by simpa using hz.symm⟩
  refine ⟨fun j x' z hj hx' hz => ?_, fun hb j t' z hj ht' hz => ?_, fun hb => ?_⟩
  · rcases get j z hj hz with ⟨c, d⟩ | ⟨c, d⟩
    · exact a1 j x' z c hx' d
    · subst c d
      rw [hx] at hx'
      obtain rfl := Option.some.inj hx'
      exact hy
  · rw [Bool.and_eq_true] at hb
    rcases get j z hj hz with ⟨c, d⟩ | ⟨c, d⟩
    · exact a2 hb.1 j t' z c ht' d
    · subst c d
      rw [ht] at ht'
      obtain rfl := Option.some.inj ht'
      exact h1 hb.2
  · cases hbb : b with
    | false =>
      obtain ⟨j, t', x', hj, e1, e2, e3⟩ := a3 hbb
      exact ⟨j, t', x', by omega, e1, e2, e3⟩
    | true =>
      rw [hbb, Bool.true_and] at hb
      exact ⟨k, t, x, by omega, ht, hx, h2 hb⟩
theorem cell_set_ne {V : World} {b g i j : Nat} (u : Value) (h : b ≠ g) : (V.setCell ⟨g, j, none⟩ u).cell? ⟨b, i, none⟩ = V.cell? ⟨b, i, none⟩ := World.cell?_of_block (a := ⟨b, i, none⟩) (Below.heap_setCell _ _ _ _ (by simpa using h))
theorem i64_and63 (n : Int) : bits .and .i64 n 63 = n % 64 := by
  have h127 : (BitVec.ofInt 64 63).toNat = 2 ^ 6 - 1 := by decide
  have key : (BitVec.ofInt 64 n &&& BitVec.ofInt 64 63).toNat = (n % ((2 ^ 64 : Nat) : Int)).toNat % 2 ^ 6 := by
    rw [BitVec.toNat_and, h127, Nat.and_two_pow_sub_one_eq_mod, BitVec.toNat_ofInt]
  show IntKind.i64.wrap ((BitVec.ofInt 64 n &&& BitVec.ofInt 64 63).toNat : Nat) = n % 64
  rw [key, IntKind.wrap_i64]
  omega
theorem i64_and31 (n : Int) : bits .and .i64 n 31 = n % 32 := by
  have h127 : (BitVec.ofInt 64 31).toNat = 2 ^ 5 - 1 := by decide
  have key : (BitVec.ofInt 64 n &&& BitVec.ofInt 64 31).toNat = (n % ((2 ^ 64 : Nat) : Int)).toNat % 2 ^ 5 := by
    rw [BitVec.toNat_and, h127, Nat.and_two_pow_sub_one_eq_mod, BitVec.toNat_ofInt]
  show IntKind.i64.wrap ((BitVec.ofInt 64 n &&& BitVec.ofInt 64 31).toNat : Nat) = n % 32
  rw [key, IntKind.wrap_i64]
  omega
set_option maxRecDepth 100000 in
set_option maxHeartbeats 16000000 in
theorem walk (v0 : Value) (L0 : List (List Int)) (a0 : List Int) (g0 : List Int) (b0 : List Int) (x0 : Int)  (w : World) (H0 : CaArg w v0 L0 a0 g0 b0 x0) :
    Calls Try.prog 9 #[v0] w fun e w' => e = .returned (.bool true) ∧ Below w.heap.size w w' := by
  obtain ⟨ip, hip, hq0, hq1, hq2⟩ := info_parts info_pr
  obtain ⟨ar, cr, aa, ca, ag, cg, aw, cw, rfl, ⟨hll, hllm⟩, hia, hig, hiw, hx0, hx1⟩ := H0.out
  obtain ⟨nr, hnr⟩ : ∃ nr, L0.length = nr := ⟨_, rfl⟩
  obtain ⟨na, hna⟩ : ∃ na, a0.length = na := ⟨_, rfl⟩
  obtain ⟨ng, hng⟩ : ∃ ng, g0.length = ng := ⟨_, rfl⟩
  obtain ⟨nw, hnw⟩ : ∃ nw, b0.length = nw := ⟨_, rfl⟩
  obtain ⟨x, hx⟩ : ∃ x, x = x0 := ⟨_, rfl⟩
  subst hx
  obtain ⟨n, hn⟩ : ∃ n : Nat, x % 4 = (n : Int) := ⟨(x % 4).toNat, by omega⟩
  have hn3 : n ≤ 3 := by omega
  rw [hnr] at hll
  rw [hna] at hia
  rw [hng] at hig
  rw [hnw] at hiw
  rw [hnr, hna, hng, hnw]
  unfold CaV
  have HLL : Hid (∀ V, Below w.heap.size w V → LnAt V (.slice ar nr cr) L0) := Lib.hid fun V hV => hll.keep hV
  have HIA : Hid (∀ V, Below w.heap.size w V → InArg V (.slice aa na ca) a0) := Lib.hid fun V hV => hia.keep hV
  have HIG : Hid (∀ V, Below w.heap.size w V → InArg V (.slice ag ng cg) g0) := Lib.hid fun V hV => hig.keep hV
  have HIW : Hid (∀ V, Below w.heap.size w V → InArg V (.slice aw nw cw) b0) := Lib.hid fun V hV => hiw.keep hV
  have HX := Lib.hid hn
  have HLM := Lib.hid hllm
  clear H0 hll hia hig hiw hnr hna hng hnw hllm
  obtain ⟨B, hB⟩ : ∃ B, w.heap.size = B := ⟨_, rfl⟩
  obtain ⟨W0, hW0, b1, bel0, hsz0⟩ := one_block w (.cells #[.slice ar nr cr, .slice aa na ca, .slice ag ng cg, .slice aw nw cw, .int .u8 x] 56) B hB
  have HCX0 : Hid (∀ V, Below W0.heap.size W0 V → V.heap[B]? = some (.cells #[.slice ar nr cr, .slice aa na ca, .slice ag ng cg, .slice aw nw cw, .int .u8 x] 56 (0, 0))) := Lib.hid fun V hV => (hV.block B (Array.getElem?_eq_some_iff.1 b1).1).trans b1
  have HB0 := Lib.hid bel0
  have HB := Lib.hid hB
  have HSZ0 := Lib.hid hsz0
  clear b1 bel0 hsz0
  go_enter Try.func9, Try.ntmps9
  go_upto_region 1 with fail
  try rw [hW0]
  try rw [hB]
  clear hW0 hB
  go_wp2_with fail
  refine (sane_any _).mono ?_
  rintro e w1 ⟨rfl, hb1⟩
  have HB01 := Lib.hid hb1
  have HB1 := Lib.hid (bnext HB0.out hb1)
  have HS : Hid (∀ V, Below w1.heap.size w1 V → (fun w' => w'.cell? ⟨B, 0, none⟩ = some (.slice ar nr cr) ∧ w'.cell? ⟨B, 1, none⟩ = some (.slice aa na ca) ∧ w'.cell? ⟨B, 2, none⟩ = some (.slice ag ng cg) ∧ w'.cell? ⟨B, 3, none⟩ = some (.slice aw nw cw) ∧ w'.cell? ⟨B, 4, none⟩ = some (.int .u8 x)) V) := Lib.hid fun V hV => by
    have h := HCX0.out V (bnext HB01.out hV)
    exact ⟨cell_of h rfl, cell_of h rfl, cell_of h rfl, cell_of h rfl, cell_of h rfl⟩
  obtain ⟨s0, s1, s2, s3, s4⟩ := HS.out w1 (Below.refl _ _)
  clear hb1
  go_wp2_with fail
  refine (axesOf_c HX.out ar nr cr aa na ca ag ng cg aw nw cw hx0 hx1 _).mono ?_
  rintro e w2 ⟨rfl, hb2⟩
  have HB2 := Lib.hid hb2
  clear s0 s1 s2 s3 s4
  obtain ⟨s0, s1, s2, s3, s4⟩ := HS.out w2 hb2
  clear hb2
  go_wp2_with fail
  refine (maderanges_any _ n _ _ (HIG.out _ (bnext HB1.out HB2.out)).1 (HIG.out _ (bnext HB1.out HB2.out)).2.1 hn3).mono ?_
  rintro e w3 ⟨ug, rfl, hog, hb3⟩
  obtain ⟨uga, ugc, rfl⟩ := own_shape hog
  have HRR := Lib.hid (AX.mkRanges_right g0 hn3)
  have HRLEN := Lib.hid (AX.mkRanges_len g0 n)
  generalize AX.mkRanges g0 n = P0 at hog HRR HRLEN
  have HB13 := Lib.hid (bnext HB2.out hb3)
  have HB3 := Lib.hid (bnext HB1.out HB13.out)
  have HOG := Lib.hid (own_srcN hog)
  have HPL : Hid (∀ V, Below w3.heap.size w3 V → PrAt V (.slice uga n ugc) P0) := Lib.hid fun V hV => by
    have h3 : SrcN 2 V (.slice uga n ugc) P0.length (AX.prc P0) := by rw [HRLEN.out]; exact HOG.out.keep hV
    exact h3.pr
  clear hb3 hog s0 s1 s2 s3 s4
  go_upto_region 5 with (at_builtin; refine wpList_appN _ rfl _ _ 22 rfl w3.heap.size 30 ip _ 2 16 Try.underlying22 hip hq0 hq1 hq2 rfl (by decide) _ _ _ rfl (own_empty w3 30 2 w3.heap.size (Nat.le_refl _)) _ n (AX.prc P0) rfl (HOG.out.keep (balloc (Below.refl _ _) _)) (AX.prc_one _) (by unfold maxLen; omega) (by omega) (by simp) ?_; intro v' w5 hown' hgrow hat; rw [Nat.zero_add, List.nil_append] at hown'; obtain ⟨sa, sc, rfl⟩ := own_shape hown')
  have hb35 : Below w3.heap.size w3 w5 := (balloc (Below.refl _ w3) _).grown hgrow (by simp) (fun j ej => by have : w3.heap.size = j := Option.some.inj ej; omega)
  have HB35 := Lib.hid hb35
  have HO5 := Lib.hid hown'
  have HBLT : Hid (B < w3.heap.size) := Lib.hid (by have h1 := HSZ0.out; have h2 := HB01.out.size; have h3 := HB13.out.size; omega)
  have HW0 : Hid (AX.Wider P0 P0) := Lib.hid ⟨rfl, fun j x y hx hy => by rw [hx] at hy; obtain rfl := Option.some.inj hy; exact ⟨Int.le_refl _, Int.le_refl _, ((AX.ranges_iff _ _).1 HRR.out).2 _ (List.mem_of_getElem? hx)⟩⟩
  clear hb35 hown' hgrow hat
  go_wp2_with fail
  go_loopw [7] (fun v7 wr => ∃ (k : Nat) (M : List AX.Pr), v7 = .int .i64 (k : Int) ∧ k ≤ n ∧ AX.Wider P0 M ∧ wr.ownsRow w3.heap.size 30 2 (.slice sa n sc) n (AX.prc M) ∧ Below w3.heap.size w3 wr) (fun v _ => n - (intOf v).toNat)
  case atStart => exact ⟨0, P0, rfl, Nat.zero_le _, HW0.out, HO5.out, HB35.out⟩
  case round =>
    obtain ⟨k, M, rfl, hk, hwd, hrow, hb⟩ := hrel
    obtain ⟨wo, hwo⟩ : ∃ wo, wo = wr := ⟨_, rfl⟩
    subst hwo
    have hb1o := bnext HB13.out hb
    obtain ⟨s0, s1, s2, s3, s4⟩ := HS.out wo hb1o
    have HBo := Lib.hid hb
    have HOo := Lib.hid hrow
    have HWo := Lib.hid hwd
    by_cases hkn : k < n
    · have hkk : (k : Int) < (n : Int) := by omega
      have hk0 : (0 : Int) ≤ (k : Int) := by omega
      by_cases hkw : k < nw
      · have hkwi : (k : Int) < (nw : Int) := by omega
        obtain ⟨p, hp⟩ : ∃ p, P0[k]? = some p := ⟨P0[k]'(by rw [HRLEN.out]; exact hkn), List.getElem?_eq_getElem _⟩
        have hwl : M.length = n := by rw [hwd.1]; exact HRLEN.out
        obtain ⟨q, hq⟩ : ∃ q, M[k]? = some q := ⟨M[k]'(by omega), List.getElem?_eq_getElem _⟩
        obtain ⟨a', c', e1, hcw⟩ := HPL.out w3 (Below.refl _ _)
        rw [HRLEN.out] at e1
        injection e1 with e1 e2 e3
        subst e1 e3
        rcases hcw with h | ⟨gl, ol, rfl, hgl, hcl⟩
        · rw [h] at hp
          simp at hp
        obtain ⟨c0, c1⟩ := hcl k p hp
        replace c0 := (hb.cell (p := ⟨gl, ol + k * 2, none⟩) hgl).trans c0
        replace c1 := (hb.cell (p := ⟨gl, ol + k * 2 + 1, none⟩) hgl).trans c1
        have hiw := (HIW.out w (Below.refl _ _)).1
        obtain ⟨a'', c'', e1, hcz⟩ := hiw
        injection e1 with e1 e2 e3
        subst e1 e3
        obtain ⟨z, hz⟩ : ∃ z, b0[k]? = some z := ⟨b0[k]'(by omega), List.getElem?_eq_getElem _⟩
        rcases hcz with h | ⟨gw, ow, rfl, hgw, hclw⟩
        · rw [h] at hz
          simp at hz
        have c2 := ((bnext HB3.out hb).cell (p := ⟨gw, ow + k, none⟩) hgw).trans (hclw k z hz)
        obtain ⟨gq, rfl, hgq⟩ := own_addr hrow (by omega)
        obtain ⟨t1, ht1⟩ : ∃ s', bits .and .i64 z 63 = s' := ⟨_, rfl⟩
        obtain ⟨t2, ht2⟩ : ∃ s', bits .and .i64 z 31 = s' := ⟨_, rfl⟩
        have ht1b : 0 ≤ t1 ∧ t1 ≤ 63 := by rw [← ht1, i64_and63]; omega
        have ht2b : 0 ≤ t2 ∧ t2 ≤ 31 := by rw [← ht2, i64_and31]; omega
        have hpr := (AX.rng_iff _).1 (((AX.ranges_iff _ _).1 HRR.out).2 p (List.mem_of_getElem? hp))
        obtain ⟨z1, hz1⟩ : ∃ m, (if -64 < p.1 - t1 then p.1 - t1 else -64) = m := ⟨_, rfl⟩
        obtain ⟨z2, hz2⟩ : ∃ m, (if p.2 + t2 < 64 then p.2 + t2 else 64) = m := ⟨_, rfl⟩
        have hz1b : -64 ≤ z1 ∧ z1 ≤ p.1 := by rw [← hz1]; split <;> omega
        have hz2b : z2 ≤ 64 ∧ p.2 ≤ z2 := by rw [← hz2]; split <;> omega
        have HWD : Hid (AX.Wider P0 (M.set k (z1, z2))) := Lib.hid ⟨by rw [List.length_set]; exact hwd.1, fun j x y hx hy => by
          by_cases hjk : j = k
          · subst hjk
            rw [hp] at hx
            obtain rfl := Option.some.inj hx
            rw [List.getElem?_set] at hy
            simp at hy
            obtain ⟨-, rfl⟩ := hy
            refine ⟨hz1b.2, hz2b.2, ?_⟩
            rw [AX.rng_iff]
            simp only
            omega
          · rw [List.getElem?_set_ne (by omega)] at hy
            exact hwd.2 j x y hx hy⟩
        have st1 := hrow.stored (k * 2) (.int .i64 z1)
        rw [AX.prc_set0 M k q z1 hq] at st1
        have st2 := st1.1.stored (k * 2 + 1) (.int .i64 z2)
        rw [AX.prc_set1 (M.set k (z1, q.2)) k (z1, q.2) z2 (by rw [List.getElem?_set]; simp; omega), List.set_set] at st2
        have st3 := st2.1
        have hbr := bset (bset hb (p := ⟨gq, k * 2, none⟩) hgq (.int .i64 z1)) (p := ⟨gq, k * 2 + 1, none⟩) hgq (.int .i64 z2)
        obtain ⟨y0, y1⟩ := AX.prc_get M hq
        have k0 := (hrow.cellAt (k * 2) (by omega)).trans y0
        have k1 := (hrow.cellAt (k * 2 + 1) (by omega)).trans y1
        have f0 := hrow.frozenAt (k * 2)
        have f1 := hrow.frozenAt (k * 2 + 1)
        have HS9 : Hid ((fun w' => w'.cell? ⟨B, 3, none⟩ = some (.slice (some ⟨gw, ow, none⟩) nw cw) ∧ w'.cell? ⟨gl, ol + k * 2, none⟩ = some (.int .i64 p.1) ∧ w'.cell? ⟨gl, ol + k * 2 + 1, none⟩ = some (.int .i64 p.2) ∧ w'.cell? ⟨gw, ow + k, none⟩ = some (.int .i64 z)) wo.drew) := Lib.hid ⟨s3, c0, c1, c2⟩
        have wq1 : IntKind.i64.wrap (p.1 - t1) = p.1 - t1 := by rw [IntKind.wrap_i64]; omega
        have wq2 : IntKind.i64.wrap (p.2 + t2) = p.2 + t2 := by rw [IntKind.wrap_i64]; omega
        have hgwlt : gw < w3.heap.size := Nat.lt_of_lt_of_le hgw HB3.out.size
        have HS9b : Hid ((fun w' => w'.cell? ⟨B, 3, none⟩ = some (.slice (some ⟨gw, ow, none⟩) nw cw) ∧ w'.cell? ⟨gl, ol + k * 2, none⟩ = some (.int .i64 p.1) ∧ w'.cell? ⟨gl, ol + k * 2 + 1, none⟩ = some (.int .i64 p.2) ∧ w'.cell? ⟨gw, ow + k, none⟩ = some (.int .i64 z)) ((wo.drew.setCell ⟨gq, k * 2, none⟩ (.int .i64 z1)).setCell ⟨gq, k * 2 + 1, none⟩ (.int .i64 z2))) := Lib.hid (by
          refine ⟨?_, ?_, ?_, ?_⟩
          · rw [cell_set_ne _ (by have := HBLT.out; omega), cell_set_ne _ (by have := HBLT.out; omega)]; exact s3
          · rw [cell_set_ne _ (by omega), cell_set_ne _ (by omega)]; exact c0
          · rw [cell_set_ne _ (by omega), cell_set_ne _ (by omega)]; exact c1
          · rw [cell_set_ne _ (by omega), cell_set_ne _ (by omega)]; exact c2)
        clear hcl hclw hp hq hz y0 y1 hrow hwd hb hb1o
        go_upto_region 9 with fail
        refine wp_region_held_drew (S := fun w' => w'.cell? ⟨B, 3, none⟩ = some (.slice (some ⟨gw, ow, none⟩) nw cw) ∧ w'.cell? ⟨gl, ol + k * 2, none⟩ = some (.int .i64 p.1) ∧ w'.cell? ⟨gl, ol + k * 2 + 1, none⟩ = some (.int .i64 p.2) ∧ w'.cell? ⟨gw, ow + k, none⟩ = some (.int .i64 z)) (by kernel_rfl) ?_ (fun hHeld => ?_)
        · first | exact HS9b.out | exact HS9.out
        refine wpAnyH_take (i := 0) (oi := { dst := some 37, op := Op.move (Operand.tmp 6), type := 22, pos := "law.go:263", after := #[], guard := none }) (v := ?_) rfl (by kernel_rfl) (by kernel_rfl) (by kernel_rfl) (fun _ _ _ h => h) (Or.inl ⟨by rfl, ?_⟩) (by assumption) ?_
        rotate_left
        · ((intro w hSw; (try dsimp only at hSw); go_simp; (try rw [if_neg (by omega)])); try with_reducible rfl)
        (try simp only [Act.put, List.setIfInBounds_toArray, List.set_cons_zero, List.set_cons_succ])
        refine wpAnyH_take (i := 1) (oi := { dst := some 38, op := Op.move (Operand.tmp 7), type := 3, pos := "law.go:263", after := #[], guard := none }) (v := ?_) rfl (by kernel_rfl) (by kernel_rfl) (by kernel_rfl) (fun _ _ _ h => h) (Or.inl ⟨by rfl, ?_⟩) (by assumption) ?_
        rotate_left
        · ((intro w hSw; (try dsimp only at hSw); go_simp; (try rw [if_neg (by omega)])); try with_reducible rfl)
        (try simp only [Act.put, List.setIfInBounds_toArray, List.set_cons_zero, List.set_cons_succ])
        refine wpAnyH_take (i := 2) (oi := { dst := some 39, op := Op.move (Operand.tmp 5), type := 22, pos := "law.go:263", after := #[], guard := none }) (v := ?_) rfl (by kernel_rfl) (by kernel_rfl) (by kernel_rfl) (fun _ _ _ h => h) (Or.inl ⟨by rfl, ?_⟩) (by assumption) ?_
        rotate_left
        · ((intro w hSw; (try dsimp only at hSw); go_simp; (try rw [if_neg (by omega)])); try with_reducible rfl)
        (try simp only [Act.put, List.setIfInBounds_toArray, List.set_cons_zero, List.set_cons_succ])
        refine wpAnyH_take (i := 3) (oi := { dst := some 40, op := Op.move (Operand.tmp 7), type := 3, pos := "law.go:263", after := #[], guard := none }) (v := ?_) rfl (by kernel_rfl) (by kernel_rfl) (by kernel_rfl) (fun _ _ _ h => h) (Or.inl ⟨by rfl, ?_⟩) (by assumption) ?_
        rotate_left
        · ((intro w hSw; (try dsimp only at hSw); go_simp; (try rw [if_neg (by omega)])); try with_reducible rfl)
        (try simp only [Act.put, List.setIfInBounds_toArray, List.set_cons_zero, List.set_cons_succ])
        refine wpAnyH_take (i := 4) (oi := { dst := some 41, op := Op.indexAddr 22 (Operand.tmp 39) (Operand.tmp 40), type := 0, pos := "law.go:263", after := #[{ on := 2, ground := Ground.data }, { on := 3, ground := Ground.data }], guard := none }) (v := ?_) rfl (by kernel_rfl) (by kernel_rfl) (by kernel_rfl) (fun _ _ _ h => h) (Or.inl ⟨by rfl, ?_⟩) (by assumption) ?_
        rotate_left
        · ((intro w hSw; (try dsimp only at hSw); go_simp; (try rw [if_neg (by omega)])); try with_reducible rfl)
        (try simp only [Act.put, List.setIfInBounds_toArray, List.set_cons_zero, List.set_cons_succ])
        refine wpAnyH_take (i := 5) (oi := { dst := some 42, op := Op.indexAddr 30 (Operand.tmp 41) (Operand.const (Value.int IntKind.i64 0)), type := 0, pos := "law.go:263", after := #[{ on := 4, ground := Ground.data }], guard := none }) (v := ?_) rfl (by kernel_rfl) (by kernel_rfl) (by kernel_rfl) (fun _ _ _ h => h) (Or.inl ⟨by rfl, ?_⟩) (by assumption) ?_
        rotate_left
        · ((intro w hSw; (try dsimp only at hSw); go_simp; (try rw [if_neg (by omega)])); try with_reducible rfl)
        (try simp only [Act.put, List.setIfInBounds_toArray, List.set_cons_zero, List.set_cons_succ])
        refine wpAnyH_take (i := 6) (oi := { dst := some 43, op := Op.load 3 (Operand.tmp 42), type := 3, pos := "law.go:263", after := #[{ on := 5, ground := Ground.data }], guard := none }) (v := ?_) rfl (by kernel_rfl) (by kernel_rfl) (by kernel_rfl) (fun _ _ _ h => h) (Or.inl ⟨by rfl, ?_⟩) (by assumption) ?_
        rotate_left
        · ((intro w hSw; (try dsimp only at hSw); go_simp; (try rw [if_neg (by omega)])); try with_reducible rfl)
        (try simp only [Act.put, List.setIfInBounds_toArray, List.set_cons_zero, List.set_cons_succ])
        refine wpAnyH_take (i := 7) (oi := { dst := some 44, op := Op.fieldAddr 56 (Operand.tmp 1) 3, type := 0, pos := "law.go:263", after := #[], guard := none }) (v := ?_) rfl (by kernel_rfl) (by kernel_rfl) (by kernel_rfl) (fun _ _ _ h => h) (Or.inl ⟨by rfl, ?_⟩) (by assumption) ?_
        rotate_left
        · ((intro w hSw; (try dsimp only at hSw); go_simp; (try rw [if_neg (by omega)])); try with_reducible rfl)
        (try simp only [Act.put, List.setIfInBounds_toArray, List.set_cons_zero, List.set_cons_succ])
        refine wpAnyH_take (i := 8) (oi := { dst := some 45, op := Op.load 25 (Operand.tmp 44), type := 25, pos := "law.go:263", after := #[{ on := 7, ground := Ground.data }], guard := none }) (v := ?_) rfl (by kernel_rfl) (by kernel_rfl) (by kernel_rfl) (fun _ _ _ h => h) (Or.inl ⟨by rfl, ?_⟩) (by assumption) ?_
        rotate_left
        · ((intro w hSw; (try dsimp only at hSw); go_simp; (try rw [if_neg (by omega)])); try with_reducible rfl)
        (try simp only [Act.put, List.setIfInBounds_toArray, List.set_cons_zero, List.set_cons_succ])
        refine wpAnyH_take (i := 9) (oi := { dst := some 46, op := Op.move (Operand.tmp 7), type := 3, pos := "law.go:263", after := #[], guard := none }) (v := ?_) rfl (by kernel_rfl) (by kernel_rfl) (by kernel_rfl) (fun _ _ _ h => h) (Or.inl ⟨by rfl, ?_⟩) (by assumption) ?_
        rotate_left
        · ((intro w hSw; (try dsimp only at hSw); go_simp; (try rw [if_neg (by omega)])); try with_reducible rfl)
        (try simp only [Act.put, List.setIfInBounds_toArray, List.set_cons_zero, List.set_cons_succ])
        refine wpAnyH_take (i := 10) (oi := { dst := some 47, op := Op.indexAddr 25 (Operand.tmp 45) (Operand.tmp 46), type := 0, pos := "law.go:263", after := #[{ on := 8, ground := Ground.data }, { on := 9, ground := Ground.data }], guard := none }) (v := ?_) rfl (by kernel_rfl) (by kernel_rfl) (by kernel_rfl) (fun _ _ _ h => h) (Or.inl ⟨by rfl, ?_⟩) (by assumption) ?_
        rotate_left
        · ((intro w hSw; (try dsimp only at hSw); go_simp; (try rw [if_neg (by omega)])); try with_reducible rfl)
        (try simp only [Act.put, List.setIfInBounds_toArray, List.set_cons_zero, List.set_cons_succ])
        refine wpAnyH_take (i := 11) (oi := { dst := some 48, op := Op.load 3 (Operand.tmp 47), type := 3, pos := "law.go:263", after := #[{ on := 10, ground := Ground.data }], guard := none }) (v := ?_) rfl (by kernel_rfl) (by kernel_rfl) (by kernel_rfl) (fun _ _ _ h => h) (Or.inl ⟨by rfl, ?_⟩) (by assumption) ?_
        rotate_left
        · ((intro w hSw; (try dsimp only at hSw); go_simp; (try rw [if_neg (by omega)])); try with_reducible rfl)
        (try simp only [Act.put, List.setIfInBounds_toArray, List.set_cons_zero, List.set_cons_succ])
        refine wpAnyH_take (i := 12) (oi := { dst := some 49, op := Op.binOp BinOp.and 3 (Operand.tmp 48) (Operand.const (Value.int IntKind.i64 63)) 3, type := 3, pos := "law.go:263", after := #[{ on := 11, ground := Ground.data }], guard := none }) (v := ?_) rfl (by kernel_rfl) (by kernel_rfl) (by kernel_rfl) (fun _ _ _ h => h) (Or.inl ⟨by rfl, ?_⟩) (by assumption) ?_
        rotate_left
        · ((intro w hSw; (try dsimp only at hSw); go_simp; (try rw [if_neg (by omega)])); try with_reducible rfl)
        (try simp only [Act.put, List.setIfInBounds_toArray, List.set_cons_zero, List.set_cons_succ])
        refine wpAnyH_take (i := 13) (oi := { dst := some 50, op := Op.binOp BinOp.sub 3 (Operand.tmp 43) (Operand.tmp 49) 3, type := 3, pos := "law.go:263", after := #[{ on := 6, ground := Ground.data }, { on := 12, ground := Ground.data }], guard := none }) (v := ?_) rfl (by kernel_rfl) (by kernel_rfl) (by kernel_rfl) (fun _ _ _ h => h) (Or.inl ⟨by rfl, ?_⟩) (by assumption) ?_
        rotate_left
        · ((intro w hSw; (try dsimp only at hSw); go_simp; (try rw [if_neg (by omega)])); try with_reducible rfl)
        (try simp only [Act.put, List.setIfInBounds_toArray, List.set_cons_zero, List.set_cons_succ])
        refine wpAnyH_take (i := 15) (oi := { dst := some 52, op := Op.move (Operand.tmp 5), type := 22, pos := "law.go:263", after := #[], guard := none }) (v := ?_) rfl (by kernel_rfl) (by kernel_rfl) (by kernel_rfl) (fun _ _ _ h => h) (Or.inl ⟨by rfl, ?_⟩) (by assumption) ?_
        rotate_left
        · ((intro w hSw; (try dsimp only at hSw); go_simp; (try rw [if_neg (by omega)])); try with_reducible rfl)
        (try simp only [Act.put, List.setIfInBounds_toArray, List.set_cons_zero, List.set_cons_succ])
        refine wpAnyH_take (i := 16) (oi := { dst := some 53, op := Op.move (Operand.tmp 7), type := 3, pos := "law.go:263", after := #[], guard := none }) (v := ?_) rfl (by kernel_rfl) (by kernel_rfl) (by kernel_rfl) (fun _ _ _ h => h) (Or.inl ⟨by rfl, ?_⟩) (by assumption) ?_
        rotate_left
        · ((intro w hSw; (try dsimp only at hSw); go_simp; (try rw [if_neg (by omega)])); try with_reducible rfl)
        (try simp only [Act.put, List.setIfInBounds_toArray, List.set_cons_zero, List.set_cons_succ])
        refine wpAnyH_take (i := 17) (oi := { dst := some 54, op := Op.indexAddr 22 (Operand.tmp 52) (Operand.tmp 53), type := 0, pos := "law.go:263", after := #[{ on := 15, ground := Ground.data }, { on := 16, ground := Ground.data }], guard := none }) (v := ?_) rfl (by kernel_rfl) (by kernel_rfl) (by kernel_rfl) (fun _ _ _ h => h) (Or.inl ⟨by rfl, ?_⟩) (by assumption) ?_
        rotate_left
        · ((intro w hSw; (try dsimp only at hSw); go_simp; (try rw [if_neg (by omega)])); try with_reducible rfl)
        (try simp only [Act.put, List.setIfInBounds_toArray, List.set_cons_zero, List.set_cons_succ])
        refine wpAnyH_take (i := 18) (oi := { dst := some 55, op := Op.indexAddr 30 (Operand.tmp 54) (Operand.const (Value.int IntKind.i64 1)), type := 0, pos := "law.go:263", after := #[{ on := 17, ground := Ground.data }], guard := none }) (v := ?_) rfl (by kernel_rfl) (by kernel_rfl) (by kernel_rfl) (fun _ _ _ h => h) (Or.inl ⟨by rfl, ?_⟩) (by assumption) ?_
        rotate_left
        · ((intro w hSw; (try dsimp only at hSw); go_simp; (try rw [if_neg (by omega)])); try with_reducible rfl)
        (try simp only [Act.put, List.setIfInBounds_toArray, List.set_cons_zero, List.set_cons_succ])
        refine wpAnyH_take (i := 19) (oi := { dst := some 56, op := Op.load 3 (Operand.tmp 55), type := 3, pos := "law.go:263", after := #[{ on := 18, ground := Ground.data }], guard := none }) (v := ?_) rfl (by kernel_rfl) (by kernel_rfl) (by kernel_rfl) (fun _ _ _ h => h) (Or.inl ⟨by rfl, ?_⟩) (by assumption) ?_
        rotate_left
        · ((intro w hSw; (try dsimp only at hSw); go_simp; (try rw [if_neg (by omega)])); try with_reducible rfl)
        (try simp only [Act.put, List.setIfInBounds_toArray, List.set_cons_zero, List.set_cons_succ])
        refine wpAnyH_take (i := 20) (oi := { dst := some 57, op := Op.fieldAddr 56 (Operand.tmp 1) 3, type := 0, pos := "law.go:263", after := #[], guard := none }) (v := ?_) rfl (by kernel_rfl) (by kernel_rfl) (by kernel_rfl) (fun _ _ _ h => h) (Or.inl ⟨by rfl, ?_⟩) (by assumption) ?_
        rotate_left
        · ((intro w hSw; (try dsimp only at hSw); go_simp; (try rw [if_neg (by omega)])); try with_reducible rfl)
        (try simp only [Act.put, List.setIfInBounds_toArray, List.set_cons_zero, List.set_cons_succ])
        refine wpAnyH_take (i := 21) (oi := { dst := some 58, op := Op.load 25 (Operand.tmp 57), type := 25, pos := "law.go:263", after := #[{ on := 20, ground := Ground.data }], guard := none }) (v := ?_) rfl (by kernel_rfl) (by kernel_rfl) (by kernel_rfl) (fun _ _ _ h => h) (Or.inl ⟨by rfl, ?_⟩) (by assumption) ?_
        rotate_left
        · ((intro w hSw; (try dsimp only at hSw); go_simp; (try rw [if_neg (by omega)])); try with_reducible rfl)
        (try simp only [Act.put, List.setIfInBounds_toArray, List.set_cons_zero, List.set_cons_succ])
        refine wpAnyH_take (i := 22) (oi := { dst := some 59, op := Op.move (Operand.tmp 7), type := 3, pos := "law.go:263", after := #[], guard := none }) (v := ?_) rfl (by kernel_rfl) (by kernel_rfl) (by kernel_rfl) (fun _ _ _ h => h) (Or.inl ⟨by rfl, ?_⟩) (by assumption) ?_
        rotate_left
        · ((intro w hSw; (try dsimp only at hSw); go_simp; (try rw [if_neg (by omega)])); try with_reducible rfl)
        (try simp only [Act.put, List.setIfInBounds_toArray, List.set_cons_zero, List.set_cons_succ])
        refine wpAnyH_take (i := 23) (oi := { dst := some 60, op := Op.indexAddr 25 (Operand.tmp 58) (Operand.tmp 59), type := 0, pos := "law.go:263", after := #[{ on := 21, ground := Ground.data }, { on := 22, ground := Ground.data }], guard := none }) (v := ?_) rfl (by kernel_rfl) (by kernel_rfl) (by kernel_rfl) (fun _ _ _ h => h) (Or.inl ⟨by rfl, ?_⟩) (by assumption) ?_
        rotate_left
        · ((intro w hSw; (try dsimp only at hSw); go_simp; (try rw [if_neg (by omega)])); try with_reducible rfl)
        (try simp only [Act.put, List.setIfInBounds_toArray, List.set_cons_zero, List.set_cons_succ])
        refine wpAnyH_take (i := 24) (oi := { dst := some 61, op := Op.load 3 (Operand.tmp 60), type := 3, pos := "law.go:263", after := #[{ on := 23, ground := Ground.data }], guard := none }) (v := ?_) rfl (by kernel_rfl) (by kernel_rfl) (by kernel_rfl) (fun _ _ _ h => h) (Or.inl ⟨by rfl, ?_⟩) (by assumption) ?_
        rotate_left
        · ((intro w hSw; (try dsimp only at hSw); go_simp; (try rw [if_neg (by omega)])); try with_reducible rfl)
        (try simp only [Act.put, List.setIfInBounds_toArray, List.set_cons_zero, List.set_cons_succ])
        refine wpAnyH_take (i := 25) (oi := { dst := some 62, op := Op.binOp BinOp.and 3 (Operand.tmp 61) (Operand.const (Value.int IntKind.i64 31)) 3, type := 3, pos := "law.go:263", after := #[{ on := 24, ground := Ground.data }], guard := none }) (v := ?_) rfl (by kernel_rfl) (by kernel_rfl) (by kernel_rfl) (fun _ _ _ h => h) (Or.inl ⟨by rfl, ?_⟩) (by assumption) ?_
        rotate_left
        · ((intro w hSw; (try dsimp only at hSw); go_simp; (try rw [if_neg (by omega)])); try with_reducible rfl)
        (try simp only [Act.put, List.setIfInBounds_toArray, List.set_cons_zero, List.set_cons_succ])
        refine wpAnyH_take (i := 26) (oi := { dst := some 63, op := Op.binOp BinOp.add 3 (Operand.tmp 56) (Operand.tmp 62) 3, type := 3, pos := "law.go:263", after := #[{ on := 19, ground := Ground.data }, { on := 25, ground := Ground.data }], guard := none }) (v := ?_) rfl (by kernel_rfl) (by kernel_rfl) (by kernel_rfl) (fun _ _ _ h => h) (Or.inl ⟨by rfl, ?_⟩) (by assumption) ?_
        rotate_left
        · ((intro w hSw; (try dsimp only at hSw); go_simp; (try rw [if_neg (by omega)])); try with_reducible rfl)
        (try simp only [Act.put, List.setIfInBounds_toArray, List.set_cons_zero, List.set_cons_succ])
        refine wpAnyH_ready (rs := [14, 27]) (by kernel_rfl) (by simp) ?_
        refine AllReadyH.cons (o := { dst := some 51, op := Op.call { callee := Callee.builtin Builtin.max, args := #[Operand.const (Value.int IntKind.i64 (-64)), Operand.tmp 50], argTypes := #[3, 3] }, type := 3, pos := "law.go:263", after := #[{ on := 13, ground := Ground.data }], guard := none }) rfl (fun K hK => ?_) ?_
        · go_simp
          refine hK.out _ _ ?_ (fun hHeld => ?_)
          · first | exact HS9b.out | exact HS9.out
          clear hK K
          (try simp only [Act.put, List.setIfInBounds_toArray, List.set_cons_zero, List.set_cons_succ])
          refine wpAnyH_ready (rs := [27]) (by kernel_rfl) (by simp) ?_
          refine AllReadyH.cons (o := { dst := some 64, op := Op.call { callee := Callee.builtin Builtin.min, args := #[Operand.const (Value.int IntKind.i64 64), Operand.tmp 63], argTypes := #[3, 3] }, type := 3, pos := "law.go:263", after := #[{ on := 26, ground := Ground.data }], guard := none }) rfl (fun K hK => ?_) ?_
          · go_simp
            refine hK.out _ _ ?_ (fun hHeld => ?_)
            · first | exact HS9b.out | exact HS9.out
            clear hK K
            (try simp only [Act.put, List.setIfInBounds_toArray, List.set_cons_zero, List.set_cons_succ])
            refine wpAnyH_take (i := 28) (oi := { dst := some 65, op := Op.build 30 #[(0, Operand.tmp 51), (1, Operand.tmp 64)], type := 30, pos := "law.go:263", after := #[{ on := 14, ground := Ground.data }, { on := 27, ground := Ground.data }], guard := none }) (v := ?_) rfl (by kernel_rfl) (by kernel_rfl) (by kernel_rfl) (fun _ _ _ h => h) (Or.inl ⟨by rfl, ?_⟩) (by assumption) ?_
            rotate_left
            · ((intro w hSw; (try dsimp only at hSw); go_simp; (try rw [if_neg (by omega)])); try with_reducible rfl)
            (try simp only [Act.put, List.setIfInBounds_toArray, List.set_cons_zero, List.set_cons_succ])
            refine wpAnyH_take (i := 29) (oi := { dst := some 66, op := Op.indexAddr 22 (Operand.tmp 37) (Operand.tmp 38), type := 0, pos := "law.go:263", after := #[{ on := 0, ground := Ground.data }, { on := 1, ground := Ground.data }, { on := 0, ground := Ground.phase }, { on := 1, ground := Ground.phase }, { on := 2, ground := Ground.phase }, { on := 3, ground := Ground.phase }, { on := 4, ground := Ground.phase }, { on := 5, ground := Ground.phase }, { on := 6, ground := Ground.phase }, { on := 7, ground := Ground.phase }, { on := 8, ground := Ground.phase }, { on := 9, ground := Ground.phase }, { on := 10, ground := Ground.phase }, { on := 11, ground := Ground.phase }, { on := 12, ground := Ground.phase }, { on := 13, ground := Ground.phase }, { on := 14, ground := Ground.phase }, { on := 15, ground := Ground.phase }, { on := 16, ground := Ground.phase }, { on := 17, ground := Ground.phase }, { on := 18, ground := Ground.phase }, { on := 19, ground := Ground.phase }, { on := 20, ground := Ground.phase }, { on := 21, ground := Ground.phase }, { on := 22, ground := Ground.phase }, { on := 23, ground := Ground.phase }, { on := 24, ground := Ground.phase }, { on := 25, ground := Ground.phase }, { on := 26, ground := Ground.phase }, { on := 27, ground := Ground.phase }, { on := 28, ground := Ground.phase }], guard := none }) (v := ?_) rfl (by kernel_rfl) (by kernel_rfl) (by kernel_rfl) (fun _ _ _ h => h) (Or.inl ⟨by rfl, ?_⟩) (by assumption) ?_
            rotate_left
            · ((intro w hSw; (try dsimp only at hSw); go_simp; (try rw [if_neg (by omega)])); try with_reducible rfl)
            (try simp only [Act.put, List.setIfInBounds_toArray, List.set_cons_zero, List.set_cons_succ])
            refine wpAnyH_ready (rs := [30]) (by kernel_rfl) (by simp) ?_
            refine AllReadyH.cons (o := { dst := none, op := Op.store 30 (Operand.tmp 66) (Operand.tmp 65), type := 0, pos := "law.go:263", after := #[{ on := 29, ground := Ground.data }, { on := 28, ground := Ground.data }, { on := 0, ground := Ground.phase }, { on := 1, ground := Ground.phase }, { on := 2, ground := Ground.phase }, { on := 3, ground := Ground.phase }, { on := 4, ground := Ground.phase }, { on := 5, ground := Ground.phase }, { on := 6, ground := Ground.phase }, { on := 7, ground := Ground.phase }, { on := 8, ground := Ground.phase }, { on := 9, ground := Ground.phase }, { on := 10, ground := Ground.phase }, { on := 11, ground := Ground.phase }, { on := 12, ground := Ground.phase }, { on := 13, ground := Ground.phase }, { on := 14, ground := Ground.phase }, { on := 15, ground := Ground.phase }, { on := 16, ground := Ground.phase }, { on := 17, ground := Ground.phase }, { on := 18, ground := Ground.phase }, { on := 19, ground := Ground.phase }, { on := 20, ground := Ground.phase }, { on := 21, ground := Ground.phase }, { on := 22, ground := Ground.phase }, { on := 23, ground := Ground.phase }, { on := 24, ground := Ground.phase }, { on := 25, ground := Ground.phase }, { on := 26, ground := Ground.phase }, { on := 27, ground := Ground.phase }, { on := 28, ground := Ground.phase }], guard := none }) rfl (fun K hK => ?_) ?_
            · go_simp
              refine hK.out _ _ ?_ (fun hHeld => ?_)
              · first | exact HS9b.out | exact HS9.out
              clear hK K
              (try simp only [Act.put, List.setIfInBounds_toArray, List.set_cons_zero, List.set_cons_succ])
              refine wpAnyH_done (by kernel_rfl) ?_ _
              have HST3 := Lib.hid st3
              have HBR := Lib.hid hbr
              clear st3 hbr st1 st2
              go_wp2_with fail
              exact ⟨⟨k + 1, by first | go_num | simp, hkn, _, HWD.out, HST3.out, HBR.out.drew⟩, by simp [intOf]; omega⟩
            exact AllReadyH.nil
          exact AllReadyH.nil
        refine AllReadyH.cons (o := { dst := some 64, op := Op.call { callee := Callee.builtin Builtin.min, args := #[Operand.const (Value.int IntKind.i64 64), Operand.tmp 63], argTypes := #[3, 3] }, type := 3, pos := "law.go:263", after := #[{ on := 26, ground := Ground.data }], guard := none }) rfl (fun K hK => ?_) ?_
        · go_simp
          refine hK.out _ _ ?_ (fun hHeld => ?_)
          · first | exact HS9b.out | exact HS9.out
          clear hK K
          (try simp only [Act.put, List.setIfInBounds_toArray, List.set_cons_zero, List.set_cons_succ])
          refine wpAnyH_ready (rs := [14]) (by kernel_rfl) (by simp) ?_
          refine AllReadyH.cons (o := { dst := some 51, op := Op.call { callee := Callee.builtin Builtin.max, args := #[Operand.const (Value.int IntKind.i64 (-64)), Operand.tmp 50], argTypes := #[3, 3] }, type := 3, pos := "law.go:263", after := #[{ on := 13, ground := Ground.data }], guard := none }) rfl (fun K hK => ?_) ?_
          · go_simp
            refine hK.out _ _ ?_ (fun hHeld => ?_)
            · first | exact HS9b.out | exact HS9.out
            clear hK K
            (try simp only [Act.put, List.setIfInBounds_toArray, List.set_cons_zero, List.set_cons_succ])
            refine wpAnyH_take (i := 28) (oi := { dst := some 65, op := Op.build 30 #[(0, Operand.tmp 51), (1, Operand.tmp 64)], type := 30, pos := "law.go:263", after := #[{ on := 14, ground := Ground.data }, { on := 27, ground := Ground.data }], guard := none }) (v := ?_) rfl (by kernel_rfl) (by kernel_rfl) (by kernel_rfl) (fun _ _ _ h => h) (Or.inl ⟨by rfl, ?_⟩) (by assumption) ?_
            rotate_left
            · ((intro w hSw; (try dsimp only at hSw); go_simp; (try rw [if_neg (by omega)])); try with_reducible rfl)
            (try simp only [Act.put, List.setIfInBounds_toArray, List.set_cons_zero, List.set_cons_succ])
            refine wpAnyH_take (i := 29) (oi := { dst := some 66, op := Op.indexAddr 22 (Operand.tmp 37) (Operand.tmp 38), type := 0, pos := "law.go:263", after := #[{ on := 0, ground := Ground.data }, { on := 1, ground := Ground.data }, { on := 0, ground := Ground.phase }, { on := 1, ground := Ground.phase }, { on := 2, ground := Ground.phase }, { on := 3, ground := Ground.phase }, { on := 4, ground := Ground.phase }, { on := 5, ground := Ground.phase }, { on := 6, ground := Ground.phase }, { on := 7, ground := Ground.phase }, { on := 8, ground := Ground.phase }, { on := 9, ground := Ground.phase }, { on := 10, ground := Ground.phase }, { on := 11, ground := Ground.phase }, { on := 12, ground := Ground.phase }, { on := 13, ground := Ground.phase }, { on := 14, ground := Ground.phase }, { on := 15, ground := Ground.phase }, { on := 16, ground := Ground.phase }, { on := 17, ground := Ground.phase }, { on := 18, ground := Ground.phase }, { on := 19, ground := Ground.phase }, { on := 20, ground := Ground.phase }, { on := 21, ground := Ground.phase }, { on := 22, ground := Ground.phase }, { on := 23, ground := Ground.phase }, { on := 24, ground := Ground.phase }, { on := 25, ground := Ground.phase }, { on := 26, ground := Ground.phase }, { on := 27, ground := Ground.phase }, { on := 28, ground := Ground.phase }], guard := none }) (v := ?_) rfl (by kernel_rfl) (by kernel_rfl) (by kernel_rfl) (fun _ _ _ h => h) (Or.inl ⟨by rfl, ?_⟩) (by assumption) ?_
            rotate_left
            · ((intro w hSw; (try dsimp only at hSw); go_simp; (try rw [if_neg (by omega)])); try with_reducible rfl)
            (try simp only [Act.put, List.setIfInBounds_toArray, List.set_cons_zero, List.set_cons_succ])
            refine wpAnyH_ready (rs := [30]) (by kernel_rfl) (by simp) ?_
            refine AllReadyH.cons (o := { dst := none, op := Op.store 30 (Operand.tmp 66) (Operand.tmp 65), type := 0, pos := "law.go:263", after := #[{ on := 29, ground := Ground.data }, { on := 28, ground := Ground.data }, { on := 0, ground := Ground.phase }, { on := 1, ground := Ground.phase }, { on := 2, ground := Ground.phase }, { on := 3, ground := Ground.phase }, { on := 4, ground := Ground.phase }, { on := 5, ground := Ground.phase }, { on := 6, ground := Ground.phase }, { on := 7, ground := Ground.phase }, { on := 8, ground := Ground.phase }, { on := 9, ground := Ground.phase }, { on := 10, ground := Ground.phase }, { on := 11, ground := Ground.phase }, { on := 12, ground := Ground.phase }, { on := 13, ground := Ground.phase }, { on := 14, ground := Ground.phase }, { on := 15, ground := Ground.phase }, { on := 16, ground := Ground.phase }, { on := 17, ground := Ground.phase }, { on := 18, ground := Ground.phase }, { on := 19, ground := Ground.phase }, { on := 20, ground := Ground.phase }, { on := 21, ground := Ground.phase }, { on := 22, ground := Ground.phase }, { on := 23, ground := Ground.phase }, { on := 24, ground := Ground.phase }, { on := 25, ground := Ground.phase }, { on := 26, ground := Ground.phase }, { on := 27, ground := Ground.phase }, { on := 28, ground := Ground.phase }], guard := none }) rfl (fun K hK => ?_) ?_
            · go_simp
              refine hK.out _ _ ?_ (fun hHeld => ?_)
              · first | exact HS9b.out | exact HS9.out
              clear hK K
              (try simp only [Act.put, List.setIfInBounds_toArray, List.set_cons_zero, List.set_cons_succ])
              refine wpAnyH_done (by kernel_rfl) ?_ _
              have HST3 := Lib.hid st3
              have HBR := Lib.hid hbr
              clear st3 hbr st1 st2
              go_wp2_with fail
              exact ⟨⟨k + 1, by first | go_num | simp, hkn, _, HWD.out, HST3.out, HBR.out.drew⟩, by simp [intOf]; omega⟩
            exact AllReadyH.nil
          exact AllReadyH.nil
        exact AllReadyH.nil
      · have hkwi : ¬ ((k : Int) < (nw : Int)) := by omega
        clear hrow hwd hb hb1o
        go_wp2_with fail
        go_roundw
        case rel => exact ⟨k + 1, M, by go_num, hkn, HWo.out, HOo.out, HBo.out⟩
        case measure => simp [intOf]; omega
    · obtain rfl : n = k := by omega
      have HPM : Hid (∀ V, Below wo.heap.size wo V → PrAt V (.slice sa n sc) M) := Lib.hid fun V hV => by
        have hl : M.length = n := by rw [hwd.1]; exact HRLEN.out
        have h3 : SrcN 2 V (.slice sa n sc) M.length (AX.prc M) := by rw [hl]; exact (own_srcN hrow).keep hV
        exact h3.pr
      have HMLEN : Hid (M.length = n) := Lib.hid (by rw [hwd.1]; exact HRLEN.out)
      clear hrow hwd hb hb1o
      go_wp2_with fail
      refine (regions_cap _ ar nr cr aa na ca ag ng cg aw nw cw x n _ (HLL.out _ (bnext HB3.out HBo.out)) HLM.out HX.out hx0 hx1).mono ?_
      rintro e w10 ⟨ur, vs, rfl, hrg, hb10⟩
      have hURG := hrg.1
      obtain ⟨oa, oc, rfl⟩ := own_shape hURG
      have HRC0 := Lib.hid hrg.cap
      have HRM : Hid (∀ r ∈ regs L0 n, ∃ l, r = AX.mkReg l n) := Lib.hid fun r hr => regs_mem hr
      have hrl4 := regs_len L0 n
      generalize regs L0 n = RR at HRC0 HRM hrl4 ⊢
      obtain ⟨rl, hrl⟩ : ∃ rl, RR.length = rl := ⟨_, rfl⟩
      have HRL := Lib.hid hrl
      rw [hrl] at HRC0 hrl4 ⊢
      have HBO10 := Lib.hid hb10
      have HB10 := Lib.hid (bnext HBo.out hb10)
      clear hURG hrg hb10 hrl s0 s1 s2 s3 s4
      go_wp2_with fail
      go_loopw [70] (fun v70 wr => ∃ j : Nat, v70 = .int .i64 (j : Int) ∧ j ≤ rl ∧ Below w10.heap.size w10 wr) (fun v _ => rl - (intOf v).toNat)
      case atStart => exact ⟨0, rfl, Nat.zero_le _, Below.refl _ _⟩
      case round =>
        obtain ⟨j, rfl, hj, hb⟩ := hrel
        obtain ⟨wq, hwq⟩ : ∃ wq, wq = wr := ⟨_, rfl⟩
        subst hwq
        have HBq := Lib.hid hb
        by_cases hjr : j < rl
        · have hjj : (j : Int) < (rl : Int) := by omega
          have hj0 : (0 : Int) ≤ (j : Int) := by omega
          obtain ⟨r, hr⟩ : ∃ r, RR[j]? = some r := ⟨RR[j]'(by rw [HRL.out]; exact hjr), List.getElem?_eq_getElem _⟩
          obtain ⟨lr, hlr⟩ := HRM.out r (List.mem_of_getElem? hr)
          have HRT : Hid (AX.right r (n : Int) = true) := Lib.hid (by rw [hlr]; exact AX.mkReg_right lr hn3)
          have hrlen : r.length = n := by rw [hlr]; exact AX.mkReg_len lr n
          obtain ⟨a', c', e1, hcw⟩ := HRC0.out
          rw [HRL.out] at e1
          injection e1 with e1 e2 e3
          subst e1 e3
          rcases hcw with h | ⟨g, o, rfl, hg, hcl⟩
          · rw [h] at hr
            simp at hr
          obtain ⟨ra, rc, cx, htn, hcap⟩ := hcl j r hr
          rw [hrlen] at cx htn hcap
          replace cx := (hb.cell (p := ⟨g, o + j, none⟩) hg).trans cx
          have hglt : g < wq.heap.size := Nat.lt_of_lt_of_le hg hb.size
          have HTN0 := Lib.hid (htn.keep hb)
          have HRLN := Lib.hid hrlen
          clear hcl hr hlr htn hb hrlen
          go_upto_region 13 with fail
          obtain ⟨D, hD⟩ : ∃ D, wq.heap.size = D := ⟨_, rfl⟩
          obtain ⟨W12, hW12, hdx, hb12, -⟩ := one_block wq (.cells #[.slice ra n rc] 42) D hD
          try rw [hW12]
          try rw [hD]
          have HBXD : Hid (∀ V, Below W12.heap.size W12 V → V.cell? ⟨D, 0, none⟩ = some (.slice ra n rc)) := Lib.hid fun V hV => (hV.cell (p := ⟨D, 0, none⟩) (Array.getElem?_eq_some_iff.1 hdx).1).trans (cell_of hdx rfl)
          have HTD : Hid (∀ V, Below W12.heap.size W12 V → TnAt V (.slice ra n rc) r) := Lib.hid fun V hV => HTN0.out.keep (bnext hb12 hV)
          have HB12 := Lib.hid (bnext HBq.out hb12)
          have HB312 := Lib.hid (bnext HB10.out HB12.out)
          clear hD hW12 hdx hb12 cx
          obtain ⟨w13, hmk, hown13, hb13, hlt13⟩ := make_ints W12 n W12.heap.size (Nat.le_refl _) (by omega)
          have HO13 := Lib.hid hown13
          have HB13' := Lib.hid hb13
          clear hown13 hb13 hlt13
          go_wp2_with fail
          clear hmk
          go_loopw [11, 12] (fun v11 v12 wr => ∃ (k : Nat) (A : List Int) (b : Bool), v12 = .int .i64 (k : Int) ∧ v11 = .bool b ∧ k ≤ n ∧ Hid (A.length = k ∧ AX.Found r P0 A k b) ∧ wr.ownsRow W12.heap.size 3 1 (.slice (some ⟨W12.heap.size, 0, none⟩) n n) n ((A ++ List.replicate (n - k) 0).map (Value.int .i64)) ∧ Below W12.heap.size W12 wr) (fun _ v _ => n - (intOf v).toNat)
          case atStart => exact ⟨0, [], true, rfl, rfl, Nat.zero_le _, Lib.hid ⟨rfl, found_zero r P0⟩, by simpa using HO13.out, HB13'.out⟩
          case round =>
            obtain ⟨k, A, b, rfl, rfl, hk, hfd, hrow, hb⟩ := hrel
            obtain ⟨wp, hwp⟩ : ∃ wp, wp = wr := ⟨_, rfl⟩
            subst hwp
            have HBp := Lib.hid hb
            have HOp := Lib.hid hrow
            clear hrow
            by_cases hkn : k < n
            · have hkk : (k : Int) < (n : Int) := by omega
              have hk0 : (0 : Int) ≤ (k : Int) := by omega
              obtain ⟨p, hp⟩ : ∃ p, P0[k]? = some p := ⟨P0[k]'(by rw [HRLEN.out]; exact hkn), List.getElem?_eq_getElem _⟩
              obtain ⟨t, ht⟩ : ∃ t, r[k]? = some t := ⟨r[k]'(by rw [HRLN.out]; exact hkn), List.getElem?_eq_getElem _⟩
              have hpr := (AX.rng_iff _).1 (((AX.ranges_iff _ _).1 HRR.out).2 p (List.mem_of_getElem? hp))
              have htt := ((AX.right_iff _ _).1 HRT.out).2 t (List.mem_of_getElem? ht)
              obtain ⟨a', c', e1, hcw⟩ := HPL.out w3 (Below.refl _ _)
              rw [HRLEN.out] at e1
              injection e1 with e1 e2 e3
              subst e1 e3
              rcases hcw with h | ⟨gl, ol, rfl, hgl, hcl⟩
              · rw [h] at hp
                simp at hp
              obtain ⟨z0, z1⟩ := hcl k p hp
              have HCL : Hid (∀ V, Below W12.heap.size W12 V → V.cell? ⟨gl, ol + k * 2, none⟩ = some (.int .i64 p.1) ∧ V.cell? ⟨gl, ol + k * 2 + 1, none⟩ = some (.int .i64 p.2)) := Lib.hid fun V hV => ⟨((bnext HB312.out hV).cell (p := ⟨gl, ol + k * 2, none⟩) hgl).trans z0, ((bnext HB312.out hV).cell (p := ⟨gl, ol + k * 2 + 1, none⟩) hgl).trans z1⟩
              obtain ⟨gt, ot, rfl, hgt, htn1⟩ := tn_one (HTD.out W12 (Below.refl _ _)) ht
              have HT1 : Hid (∀ V, Below W12.heap.size W12 V → ∀ m, TnAt V (.slice (some ⟨gt, ot + k * 3, none⟩) 1 m) [t]) := Lib.hid fun V hV m => (htn1 m).keep hV
              obtain ⟨c0, c1⟩ := HCL.out wp hb
              have HP := Lib.hid hp
              have HT := Lib.hid ht
              have HTT := Lib.hid htt
              clear hcl hp ht htt z0 z1 htn1 hb
              go_wp2_with fail
              go_loopw [13, 14, 15] (fun v13 v14 v15 wr => ∃ (y bst : Int) (f : Bool), v15 = .int .i64 y ∧ v13 = .int .i64 bst ∧ v14 = .bool f ∧ p.1 ≤ y ∧ y ≤ p.2 + 1 ∧ p.1 ≤ bst ∧ bst ≤ p.2 ∧ Hid (FB t p y bst f) ∧ Below wp.heap.size wp wr) (fun _ _ v _ => (p.2 + 1 - intOf v).toNat)
              case atStart => exact ⟨p.1, p.1, false, rfl, rfl, rfl, Int.le_refl _, by omega, Int.le_refl _, hpr.2.2, Lib.hid ⟨fun h => by simp at h, fun _ u h1 h2 => by omega⟩, Below.refl _ _⟩
              case round =>
                obtain ⟨y, bst, f, rfl, rfl, rfl, hy1, hy2, hs1, hs2, hff, hbi⟩ := hrel
                obtain ⟨wi, hwi⟩ : ∃ wi, wi = wr := ⟨_, rfl⟩
                subst hwi
                have HBi := Lib.hid (bnext HBp.out hbi)
                have HBpi := Lib.hid hbi
                obtain ⟨c0, c1⟩ := HCL.out wi HBi.out
                have cd := HBXD.out wi HBi.out
                clear hbi
                by_cases hyp : y ≤ p.2
                · have hyc : AX.coord y = true := by rw [AX.coord_iff]; omega
                  obtain ⟨u1, u2, hu⟩ : ∃ a b, AX.strength t y = (a, b) := ⟨_, _, rfl⟩
                  have HSC : Hid (AX.scalar [t] [y] = (u1, u2)) := Lib.hid (by rw [AX.scalar_one HTT.out hyc, hu])
                  have HU : Hid ((AX.strength t y).1 = u1) := Lib.hid (by rw [hu])
                  have hkc : k + 1 ≤ rc := by omega
                  have hk1i : (k : Int) + 1 ≤ (rc : Int) := by omega
                  clear hu hyc
                  go_wp2_with fail
                  refine (scalar_c' HSC.out _ _ _ (by simp) (by simp) ((HT1.out _ HBi.out _).keep (balloc (Below.refl _ _) _)) (inat_new wi [y] _ 1 1 rfl)).mono ?_
                  rintro e w22 ⟨rfl, hb22⟩
                  have HB22 := Lib.hid (bnext HBpi.out (bnext (balloc (Below.refl _ wi) _) hb22))
                  clear hb22 c0 c1 cd
                  by_cases hu0 : 0 < u1
                  · have HF2 : Hid (FB t p (y + 1) y true) := Lib.hid ⟨fun _ => by rw [HU.out]; exact hu0, fun h => by simp at h⟩
                    go_wp2_with fail
                    (try (refine put_eq (v' := .int .i64 u1) rfl ?_; go_wp2_with fail))
                    go_roundw
                    case rel => exact ⟨y + 1, y, true, by go_num, rfl, rfl, by omega, by omega, hy1, hyp, HF2, HB22.out⟩
                    case measure => simp [intOf] <;> omega
                  · have HF2 : Hid (FB t p (y + 1) bst f) := Lib.hid ⟨hff.out.1, fun h u h1 h2 => by
                      by_cases huy : u = y
                      · rw [huy, HU.out]; exact hu0
                      · exact hff.out.2 h u h1 (by omega)⟩
                    go_wp2_with fail
                    (try (refine put_eq (v' := .int .i64 u1) rfl ?_; go_wp2_with fail))
                    go_roundw
                    case rel => exact ⟨y + 1, bst, f, by go_num, rfl, rfl, by omega, by omega, hs1, hs2, HF2, HB22.out⟩
                    case measure => simp [intOf] <;> omega
                · have hye : y = p.2 + 1 := by omega
                  have HST := Lib.hid (found_step hfd.out.1 hfd.out.2 HP.out HT.out ⟨hs1, hs2⟩ hff.out.1 (fun h u h1 h2 => hff.out.2 h u h1 (by omega)))
                  have hrow := own_below HOp.out HBpi.out
                  have hrep : List.replicate (n - k) (0 : Int) = 0 :: List.replicate (n - (k + 1)) 0 := by rw [← List.replicate_succ]; congr 1; omega
                  rw [hrep] at hrow
                  have HAL := Lib.hid hfd.out.1
                  generalize hR : List.replicate (n - (k + 1)) (0 : Int) = R at hrow
                  have HRp := Lib.hid hR
                  have hidx : ((A ++ 0 :: R).map (Value.int .i64))[k]? = some (.int .i64 0) := by rw [← HAL.out]; simp
                  have hcell := (hrow.cellAt k (by omega)).trans hidx
                  have hfr := hrow.frozenAt k
                  have hst := hrow.stored k (.int .i64 bst)
                  have hsm := set_mid A R 0 bst
                  rw [HAL.out] at hsm
                  rw [hsm] at hst
                  have HSTR := Lib.hid hst.1
                  have HBW := Lib.hid (bset HBi.out (p := ⟨W12.heap.size, k, none⟩) (Nat.le_refl _) (.int .i64 bst))
                  clear hst hsm hrow hrep hye hR hidx
                  cases b with
                  | true =>
                    go_wp2_with fail
                    go_roundw
                    case rel => exact ⟨k + 1, A ++ [bst], f, by go_num, rfl, hkn, Lib.hid ⟨by rw [List.length_append, HAL.out]; rfl, HST.out⟩, by rw [HRp.out]; exact HSTR.out, HBW.out⟩
                    case measure => simp [intOf]; omega
                  | false =>
                    go_wp2_with fail
                    go_roundw
                    case rel => exact ⟨k + 1, A ++ [bst], false, by go_num, rfl, hkn, Lib.hid ⟨by rw [List.length_append, HAL.out]; rfl, HST.out⟩, by rw [HRp.out]; exact HSTR.out, HBW.out⟩
                    case measure => simp [intOf]; omega
            · obtain rfl : n = k := by omega
              obtain ⟨hAl, hF⟩ := hfd.out
              obtain ⟨hto, hwi, hsc⟩ := AX.found_end HRT.out HRR.out hAl hF
              have HTO := Lib.hid hto
              have HWI := Lib.hid hwi
              have HWT : Hid (b = true → AX.touches r M = true) := Lib.hid fun hb1 => AX.wider_touches HRT.out HRR.out HWo.out (by rw [hto, hb1])
              obtain ⟨u1, u2, hu⟩ : ∃ a b, AX.scalar r A = (a, b) := ⟨_, _, rfl⟩
              have HSC := Lib.hid hu
              rw [hu] at hsc
              have hdec : decide (0 < u1) = b := hsc
              have hrow := HOp.out
              rw [Nat.sub_self, List.replicate_zero, List.append_nil] at hrow
              have HAT : Hid (∀ V, Below wp.heap.size wp V → InAt V (.slice (some ⟨W12.heap.size, 0, none⟩) n n) A) := Lib.hid fun V hV => (InAt.of (row_own hrow (by simp; exact hAl.symm))).keep hV
              have HAL := Lib.hid hAl
              have cd := HBXD.out wp hb
              clear hAl hF hto hwi hu hsc hrow hb hfd
              go_wp2_with fail
              refine (touches_c HTO.out _ _ _ (by rw [HRLN.out]; omega) (by rw [HRLEN.out]; omega) (HTD.out _ HBp.out) (HPL.out _ (bnext HB312.out HBp.out))).mono ?_
              rintro e w30 ⟨rfl, hb30⟩
              have HB30 := Lib.hid (bnext HBp.out hb30)
              have HB30p := Lib.hid hb30
              have cd := HBXD.out w30 HB30.out
              clear hb30
              cases b with
              | true =>
                have hu0 : 0 < u1 := by simpa using hdec
                go_wp2_with fail
                refine (scalar_c' HSC.out _ _ _ (by rw [HRLN.out]; omega) (by rw [HAL.out]; omega) (HTD.out _ HB30.out) (HAT.out _ HB30p.out)).mono ?_
                rintro e w31 ⟨rfl, hb31⟩
                have HB31 := Lib.hid (bnext HB30.out hb31)
                have HB31p := Lib.hid (bnext HB30p.out hb31)
                have cd := HBXD.out w31 HB31.out
                clear hb31
                go_wp2_with fail
                (try (refine put_eq (v' := .int .i64 u1) rfl ?_; go_wp2_with fail))
                refine (within_c HWI.out _ _ _ (by rw [HAL.out]; omega) (by rw [HRLEN.out]; omega) (HAT.out _ HB31p.out) (HPL.out _ (bnext HB312.out HB31.out))).mono ?_
                rintro e w32 ⟨rfl, hb32⟩
                have HB32 := Lib.hid (bnext HB31.out hb32)
                have cd := HBXD.out w32 HB32.out
                clear hb32
                go_wp2_with fail
                refine (touches_c (HWT.out (by trivial)) _ _ _ (by rw [HRLN.out]; omega) (by rw [HMLEN.out]; omega) (HTD.out _ HB32.out) (HPM.out _ (bnext HBO10.out (bnext HB12.out HB32.out)))).mono ?_
                rintro e w33 ⟨rfl, hb33⟩
                have HB33 := Lib.hid (bnext HB12.out (bnext HB32.out hb33))
                clear hb33
                go_wp2_with fail
                go_roundw
                case rel => exact ⟨j + 1, by go_num, hjr, HB33.out⟩
                case measure => simp [intOf]; omega
              | false =>
                have hu0 : ¬ 0 < u1 := by simpa using hdec
                go_wp2_with fail
                refine (scalar_c' HSC.out _ _ _ (by rw [HRLN.out]; omega) (by rw [HAL.out]; omega) (HTD.out _ HB30.out) (HAT.out _ HB30p.out)).mono ?_
                rintro e w31 ⟨rfl, hb31⟩
                have HB31 := Lib.hid (bnext HB30.out hb31)
                have HB31p := Lib.hid (bnext HB30p.out hb31)
                have cd := HBXD.out w31 HB31.out
                clear hb31
                go_wp2_with fail
                (try (refine put_eq (v' := .int .i64 u1) rfl ?_; go_wp2_with fail))
                refine (within_c HWI.out _ _ _ (by rw [HAL.out]; omega) (by rw [HRLEN.out]; omega) (HAT.out _ HB31p.out) (HPL.out _ (bnext HB312.out HB31.out))).mono ?_
                rintro e w32 ⟨rfl, hb32⟩
                have HB32 := Lib.hid (bnext HB12.out (bnext HB31.out hb32))
                clear hb32
                go_wp2_with fail
                go_roundw
                case rel => exact ⟨j + 1, by go_num, hjr, HB32.out⟩
                case measure => simp [intOf]; omega
        · obtain rfl : rl = j := by omega
          clear hb
          go_wp2
          go_ret
          exact ⟨by rfl, bnext HB3.out (bnext HB10.out HBq.out)⟩

set_option maxRecDepth 100000 in
theorem lifted (os : Os) (started : os.Started) (H : Type) (enc : TypeId × Value → H) :
    ReturnsInHanded {} Try.checked os 9 .any (Rows.axesMeetsSpec.pre6 enc Try.prog Try.f9 Rows.axesMeetsRow.domain false) (Rows.axesMeetsSpec.post enc Try.prog Try.f9 false true false false) := by
  refine returnsInHanded_of_change (C := Try.checked) own started (by kernel_rfl) Try.func9
    (ChangeSpec.witness6 (enc := enc) (C := Try.checked) false ⟨#[], #[.agg #[.slice none 0 0, .slice none 0 0, .slice none 0 0, .slice none 0 0, .int .u8 0]], []⟩ 8 (by kernel_rfl) (by kernel_rfl) (by kernel_rfl) (by kernel_rfl)) ?_
  intro W base args ds gs before hval0 hW hcnd _
  have hval : ∀ (j : Nat) t v, Try.f9.params[j]? = some t → args[j]? = some v → Value.okWide Try.prog W .any base t v := hval0
  have hW' := hW
  obtain ⟨p, q, hA0, hV, rfl, hfz, hnd⟩ := hW
  have hA : DataW.TrodAll enc Try.prog W 0 (fun _ => true) true Try.f9.params.toList args.toList ds p := hA0
  rw [Try.params9] at hA hval
  obtain ⟨v0, vs0, d0, ds0, p0, q0, hargs, rfl, rfl, h0, r0⟩ := trodAll_cons hA
  obtain ⟨rfl, rfl, rfl⟩ := trodAll_nil r0
  obtain rfl : args = #[v0] := by cases args; simp_all
  obtain ⟨rfl, rfl⟩ := trodVars_none hV
  have k0 := h0
  have lt0 : ∀ x ∈ p0, x.block < W.heap.size := by obtain ⟨m, hm⟩ := k0; exact DataW.trod_lt m _ _ _ hm
  obtain ⟨L0, a0, g0, b0, x0, H0⟩ := open_case (hval 0 56 v0 rfl rfl) h0
  clear hA0 hval0
  refine (walk v0 L0 a0 g0 b0 x0  W H0).mono fun e W' ⟨he, bel⟩ => ?_
  subst he
  exact ⟨_, rfl, _, _, _, [], _, [], hW', trodAll_mk1 (shut_bool Try.underlying4 _), (trodAll_cons_mk (Below.trod laidOut (by kernel_rfl) (of_decide_eq_true (by kernel_rfl)) k0 bel lt0) trodAll_mk0), rfl, bel.frame _, fun h => by cases h⟩

theorem over : Rows.axesMeetsRow.holds Try.pinned (OpenSpec.ofChange Rows.axesMeetsSpec) :=
  OpenClaim.holds_of_wide 9 Try.f9 rfl rfl rfl rfl rfl rfl rfl ⟨rfl, rfl, rfl, rfl, rfl⟩ rfl rfl rfl rfl rfl (by kernel_rfl) Try.func9 (by kernel_rfl)
    (of_decide_eq_true (by kernel_rfl)) (by unfold Func.isWrapper; first | (rw [if_pos (by decide +kernel)]; kernel_rfl) | (rw [if_neg (by decide +kernel)]; exact ⟨rfl, rfl⟩))
    (fun os started H enc _ => lifted os started H enc)

end Go.Proofs.Ytbhkbjnmpaebdaa.axesMeets
namespace Go.Proofs.Ytbhkbjnmpaebdaa
theorem axesMeets_proved : Rows.AxesMeetsSaid := axesMeets.over
#print axioms axesMeets_proved
end Go.Proofs.Ytbhkbjnmpaebdaa
