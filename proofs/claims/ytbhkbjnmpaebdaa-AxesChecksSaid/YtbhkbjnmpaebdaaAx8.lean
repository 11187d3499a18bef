/- Sum of the program. No conditions. -/
import Derived.Test.YtbhkbjnmpaebdaaAxSc
import Derived.Deep.RegionHeld
namespace Go.Proofs.Ytbhkbjnmpaebdaa.AX
set_option linter.unusedVariables false
def partOf (R : List (List Tn)) (at' : List Int) (g : Int × Int) : Int × Bool := F.FP.partS g.2 (scalar (R.getD g.1.toNat []) at').1 (scalar (R.getD g.1.toNat []) at').2
def growOk (R : List (List Tn)) (n : Int) (g : Int × Int) : Bool := decide (0 ≤ g.1 ∧ g.1 < (R.length : Int)) && right (R.getD g.1.toNat []) n
def acc (R : List (List Tn)) (at' : List Int) (s : Int × Bool) (l : List (Int × Int)) : Int × Bool := l.foldl (fun s g => (s.1 + (partOf R at' g).1, s.2 && (partOf R at' g).2)) s
def sum (base : Int) (l : List (Int × Int)) (R : List (List Tn)) (at' : List Int) : Int × Bool := if l.length ≤ 8 ∧ coords at' = true ∧ l.all (growOk R (at'.length : Int)) = true ∧ (acc R at' (F.FP.partS base 1 1) l).2 = true then ((acc R at' (F.FP.partS base 1 1) l).1, true) else (0, false)
theorem acc_take {R : List (List Tn)} {at' : List Int} {s : Int × Bool} {l : List (Int × Int)} {i : Nat} {g : Int × Int} (hg : l[i]? = some g) : acc R at' s (l.take (i + 1)) = ((acc R at' s (l.take i)).1 + (partOf R at' g).1, (acc R at' s (l.take i)).2 && (partOf R at' g).2) := by
  unfold acc
  rw [List.take_add_one, hg, List.foldl_append]
  rfl
theorem div_bd (n d M : Int) (hd : 1 ≤ d) (h0 : -M ≤ n) (h1 : n ≤ M) (hM : 0 ≤ M) : -M ≤ n / d ∧ n / d ≤ M := by
  rcases Int.lt_or_le n 0 with h | h
  · have e1 : n ≤ n / d := by
      rw [Int.le_ediv_iff_mul_le (by omega)]
      have := Int.mul_le_mul_of_nonpos_left (a := n) (b := d) (c := 1) (by omega) hd
      omega
    have e2 : n / d < 0 := Int.ediv_neg_of_neg_of_pos h (by omega)
    omega
  · have e1 := Int.ediv_nonneg h (show 0 ≤ d by omega)
    have e2 := Int.ediv_le_self d h
    omega
theorem part_bd (a n d : Int) : -17592186044417 ≤ (F.FP.partS a n d).1 ∧ (F.FP.partS a n d).1 ≤ 17592186044417 := by
  unfold F.FP.partS
  split
  · rename_i h
    obtain ⟨ha, hr⟩ := h
    obtain ⟨r1, r2, r3, r4, -⟩ := hr
    unfold F.FP.sm at ha
    have hm := F.FP.mul_bd (64 * a) n 67108864 262144 (by omega) (by omega)
    have hd := div_bd (64 * a * n) d 17592186044416 r1 (by omega) (by omega) (by omega)
    simp only
    unfold F.FP.rnd
    split <;> omega
  · simp
end Go.Proofs.Ytbhkbjnmpaebdaa.AX
namespace Go.Proofs.Ytbhkbjnmpaebdaa
set_option maxRecDepth 100000
set_option linter.unusedVariables false
open Go.RowKit Go.Deep
/-- A row of regions. -/
def RgAt (W : World) (v : Value) (R : List (List AX.Tn)) : Prop := ∃ a c, v = .slice a R.length c ∧ (R = [] ∨ ∃ g o, a = some ⟨g, o, none⟩ ∧ g < W.heap.size ∧ ∀ i r, R[i]? = some r → ∃ ra rc, W.cell? ⟨g, o + i, none⟩ = some (.slice ra r.length rc) ∧ TnAt W (.slice ra r.length rc) r)
theorem RgAt.keep {W W' : World} {v : Value} {R : List (List AX.Tn)} (h : RgAt W v R) (hb : Below W.heap.size W W') : RgAt W' v R := by
  obtain ⟨a, c, e, h⟩ := h
  refine ⟨a, c, e, ?_⟩
  rcases h with h | ⟨g, o, e2, hg, hc⟩
  · exact .inl h
  · refine .inr ⟨g, o, e2, Nat.lt_of_lt_of_le hg hb.size, fun i r hr => ?_⟩
    obtain ⟨ra, rc, h1, h2⟩ := hc i r hr
    exact ⟨ra, rc, (hb.cell (p := ⟨g, o + i, none⟩) hg).trans h1, h2.keep hb⟩
theorem part_c {a n d : Int} {r : Int × Bool} (h : F.FP.partS a n d = r) (w : World) :
    Calls Try.prog 63 #[.int .i64 a, .agg #[.int .i64 n, .int .i64 d]] w fun e w' => e = .returned (.tuple #[.int .i64 r.1, .bool r.2]) ∧ Below w.heap.size w w' := by
  have := F.part_any a n d w
  rwa [h] at this
theorem scalar_c {l : List AX.Tn} {at' : List Int} {r : Int × Int} (h : AX.scalar l at' = r) (v va : Value) (w : World) (hl : l.length ≤ 1000000000000) (hal : at'.length ≤ 1000000000000) (hv : TnAt w v l) (ha : InAt w va at') :
    Calls Try.prog 25 #[.agg #[v], va] w fun e w' => e = .returned (.agg #[.int .i64 r.1, .int .i64 r.2]) ∧ Below w.heap.size w w' := by
  have := scalar_any l at' v va w hl hal hv ha
  rwa [h] at this
set_option maxHeartbeats 8000000 in
theorem sum_any (base : Int) (l : List (Int × Int)) (R : List (List AX.Tn)) (at' : List Int) (v vr va : Value) (w : World) (hl : l.length ≤ 1000000000000) (hR : R.length ≤ 1000000000000) (hRR : ∀ r ∈ R, r.length ≤ 1000000000000) (hal : at'.length ≤ 1000000000000) (hv : PrAt w v l) (hr : RgAt w vr R) (ha : InAt w va at') :
    Calls Try.prog 29 #[.int .i64 base, v, vr, va] w fun e w' => e = .returned (.tuple #[.int .i64 (AX.sum base l R at').1, .bool (AX.sum base l R at').2]) ∧ Below w.heap.size w w' := by
  have HV : Hid (∀ V, Below w.heap.size w V → PrAt V v l) := Lib.hid fun V hV => hv.keep hV
  have HG : Hid (∀ V, Below w.heap.size w V → RgAt V vr R) := Lib.hid fun V hV => hr.keep hV
  have HI : Hid (∀ V, Below w.heap.size w V → InAt V va at') := Lib.hid fun V hV => ha.keep hV
  obtain ⟨a1, c1, rfl, -⟩ := hv
  obtain ⟨a2, c2, rfl, -⟩ := hr
  obtain ⟨a3, c3, rfl, -⟩ := ha
  obtain ⟨m, hm⟩ : ∃ m, l.length = m := ⟨_, rfl⟩
  obtain ⟨n, hn⟩ : ∃ n, R.length = n := ⟨_, rfl⟩
  obtain ⟨k, hk⟩ : ∃ k, at'.length = k := ⟨_, rfl⟩
  have HM := Lib.hid hm
  have HN := Lib.hid hn
  have HK := Lib.hid hk
  obtain ⟨N, hNN⟩ : ∃ N, AX.sum base l R at' = N := ⟨_, rfl⟩
  rw [hNN]
  have HNO : Hid ((8 < m ∨ AX.coords at' = false ∨ (∃ i g, l[i]? = some g ∧ AX.growOk R (k : Int) g = false) ∨ (AX.acc R at' (F.FP.partS base 1 1) l).2 = false) → N = (0, false)) := Lib.hid (by
    intro h
    rw [← hNN]
    unfold AX.sum
    rw [if_neg]
    rintro ⟨h1, h2, h3, h4⟩
    rcases h with h | h | h | h
    · omega
    · rw [h] at h2; cases h2
    · obtain ⟨i, g, hi, hg⟩ := h
      rw [List.all_eq_true] at h3
      have := h3 g (List.mem_of_getElem? hi)
      rw [hk, hg] at this
      cases this
    · rw [h] at h4; cases h4)
  have HYES : Hid (m ≤ 8 → AX.coords at' = true → (∀ j g, l[j]? = some g → AX.growOk R (k : Int) g = true) → ∀ s, AX.acc R at' (F.FP.partS base 1 1) l = (s, true) → N = (s, true)) := Lib.hid (by
    intro h1 h2 h3 s h4
    rw [← hNN]
    unfold AX.sum
    rw [h4, if_pos]
    refine ⟨by omega, h2, ?_, rfl⟩
    rw [List.all_eq_true, hk]
    intro g hg
    obtain ⟨j, hj⟩ := List.getElem?_of_mem hg
    exact h3 j g hj)
  obtain ⟨N1, N2⟩ := N
  simp only at HNO HYES ⊢
  rw [hm] at hl HV ⊢
  rw [hn] at hR HG ⊢
  rw [hk] at hal HI ⊢
  obtain ⟨rc, hrc⟩ : ∃ b, AX.coords at' = b := ⟨_, rfl⟩
  have CC : Hid (∀ V, Below w.heap.size w V → Calls Try.prog 56 #[.slice a3 k c3] V fun e w' => e = .returned (.bool rc) ∧ w' = V) := Lib.hid fun V hV => coords_c hrc _ _ (by rw [HK.out]; exact hal) (HI.out V hV)
  rw [hrc] at HNO HYES
  have HRC := Lib.hid hrc
  clear hm hn hk hNN hrc
  go_enter Try.func29, Try.ntmps29
  by_cases k1 : 8 < m
  · have e1 : (8 : Int) < (m : Int) := by omega
    have hz := HNO.out (.inl k1)
    obtain ⟨rfl, rfl⟩ : N1 = 0 ∧ N2 = false := by simpa using hz
    clear hz
    go_wp2
    go_ret2
    exact ⟨by first | rfl | trivial, Below.refl _ _⟩
  · have e1 : ¬ (8 : Int) < (m : Int) := by omega
    go_wp2_with fail
    refine (CC.out _ (Below.refl _ _)).mono ?_
    rintro e w1 ⟨rfl, he⟩
    have he' := he.symm
    subst he'
    clear he
    cases rc with
    | false =>
      have hz := HNO.out (.inr (.inl rfl))
      obtain ⟨rfl, rfl⟩ : N1 = 0 ∧ N2 = false := by simpa using hz
      clear hz
      go_wp2
      go_ret2
      exact ⟨by first | rfl | trivial, Below.refl _ _⟩
    | true =>
      obtain ⟨⟨b1, b2⟩, hb12⟩ : ∃ r, F.FP.partS base 1 1 = r := ⟨_, rfl⟩
      have hbd := AX.part_bd base 1 1
      rw [hb12] at hbd HNO HYES
      simp only at hbd
      have CP0 := Lib.hid (fun V => part_c hb12 V)
      clear hb12
      go_wp2_with (first | (go_at_call 57; refine (fr_c (a := 1) (b := 1) (r := (1, 1)) rfl _ (by omega) (by omega) (by omega) (by omega) (by omega)).mono ?_; rintro e w2 ⟨rfl, hb2⟩) | (go_at_call 63; refine (CP0.out _).mono ?_; rintro e w3 ⟨rfl, hb3⟩))
      have hbw3 : Below w.heap.size w w3 := bnext hb2 hb3
      go_loopw [10, 11, 32] (fun x y z wr => ∃ (i : Nat) (s1 : Int) (s2 : Bool), z = .int .i64 (i : Int) ∧ i ≤ m ∧ x = .int .i64 s1 ∧ y = .bool s2 ∧ Hid (AX.acc R at' (b1, b2) (l.take i) = (s1, s2)) ∧ Hid (∀ j g, j < i → l[j]? = some g → AX.growOk R (k : Int) g = true) ∧ -(17592186044417 * ((i : Int) + 1)) ≤ s1 ∧ s1 ≤ 17592186044417 * ((i : Int) + 1) ∧ Below w.heap.size w wr) (fun _ _ z _ => m - (intOf z).toNat)
      case atStart => exact ⟨0, b1, b2, rfl, Nat.zero_le _, rfl, rfl, Lib.hid (by rw [List.take_zero]; rfl), Lib.hid (fun j g hj => absurd hj (Nat.not_lt_zero _)), by omega, by omega, hbw3⟩
      case round =>
        obtain ⟨i, s1, s2, rfl, him, rfl, rfl, HACC, HYS, hs1, hs2, hbr⟩ := hrel
        by_cases hin : i < m
        · have hii : (i : Int) < (m : Int) := by omega
          have hi0 : (0 : Int) ≤ (i : Int) := by omega
          obtain ⟨x, hx⟩ : ∃ x, l[i]? = some x := ⟨l[i]'(by rw [HM.out]; exact hin), List.getElem?_eq_getElem _⟩
          obtain ⟨a', c', e', hc⟩ := HV.out wr hbr
          rw [HM.out] at e'
          injection e' with e1' e2' e3'
          subst e1' e3'
          rcases hc with h | ⟨g1, o1, rfl, hg1, hcl⟩
          · rw [h] at hx
            simp at hx
          obtain ⟨d0, d1⟩ := hcl i x hx
          obtain ⟨gr, gb⟩ := x
          simp only at d0 d1
          have HX := Lib.hid hx
          have HBR := Lib.hid hbr
          clear hcl hx hbr hbd hb2 hb3 hbw3
          go_upto_region 7 with fail
          obtain ⟨P, hP⟩ : ∃ P, wr.heap.size = P := ⟨_, rfl⟩
          obtain ⟨W5, hW5⟩ : ∃ W5, wr.alloc (.cells #[.int .i64 gr, .int .i64 gb] 60) = W5 := ⟨_, rfl⟩
          have hbw5 : Below w.heap.size w W5 := by rw [← hW5]; exact balloc HBR.out _
          have hn5 : W5.heap[P]? = some (.cells #[.int .i64 gr, .int .i64 gb] 60 (0, 0)) := by rw [← hW5, ← hP]; exact heap_alloc_new wr _
          rw [hW5, hP]
          have p0 : W5.cell? ⟨P, 0, none⟩ = some (.int .i64 gr) := by simp [World.cell?, hn5]
          have p1 : W5.cell? ⟨P, 1, none⟩ = some (.int .i64 gb) := by simp [World.cell?, hn5]
          have HB5 := Lib.hid hbw5
          have HN5 := Lib.hid hn5
          clear hW5 hP hbw5 hn5 d0 d1
          by_cases hneg : gr < 0
          · have hz := HNO.out (.inr (.inr (.inl ⟨i, _, HX.out, by unfold AX.growOk; rw [Bool.and_eq_false_iff]; left; rw [decide_eq_false_iff_not]; simp only; omega⟩)))
            obtain ⟨rfl, rfl⟩ : N1 = 0 ∧ N2 = false := by simpa using hz
            clear hz
            go_wp2
            go_ret2
            exact ⟨by first | rfl | trivial, HB5.out⟩
          · by_cases hbig : (n : Int) ≤ gr
            · have hz := HNO.out (.inr (.inr (.inl ⟨i, _, HX.out, by unfold AX.growOk; rw [Bool.and_eq_false_iff]; left; rw [decide_eq_false_iff_not, HN.out]; simp only; omega⟩)))
              obtain ⟨rfl, rfl⟩ : N1 = 0 ∧ N2 = false := by simpa using hz
              clear hz
              go_wp2
              go_ret2
              exact ⟨by first | rfl | trivial, HB5.out⟩
            · obtain ⟨q, rfl⟩ := Int.eq_ofNat_of_zero_le (show 0 ≤ gr by omega)
              have hqn : q < n := by omega
              have hqi : (q : Int) < (n : Int) := by omega
              have hq0 : (0 : Int) ≤ (q : Int) := by omega
              obtain ⟨r, hr⟩ : ∃ r, R[q]? = some r := ⟨R[q]'(by rw [HN.out]; exact hqn), List.getElem?_eq_getElem _⟩
              have hgd : R.getD ((q : Int)).toNat [] = r := by rw [Int.toNat_natCast, List.getD_eq_getElem?_getD, hr]; rfl
              obtain ⟨a', c', e', hc⟩ := HG.out W5 HB5.out
              rw [HN.out] at e'
              injection e' with e1' e2' e3'
              subst e1' e3'
              rcases hc with h | ⟨g2, o2, rfl, hg2, hcl⟩
              · rw [h] at hr
                simp at hr
              obtain ⟨ra, rc, hrow, htn⟩ := hcl q r hr
              have hrl : r.length ≤ 1000000000000 := hRR r (List.mem_of_getElem? hr)
              have HTN : Hid (∀ V, Below W5.heap.size W5 V → TnAt V (.slice ra r.length rc) r) := Lib.hid fun V hV => htn.keep hV
              obtain ⟨rn, hrn⟩ : ∃ rn, r.length = rn := ⟨_, rfl⟩
              have HRN := Lib.hid hrn
              rw [hrn] at hrow HTN hrl
              obtain ⟨rb, hrb⟩ : ∃ rb, AX.right r (k : Int) = rb := ⟨_, rfl⟩
              have CRt : Hid (∀ V, Below W5.heap.size W5 V → Calls Try.prog 23 #[.agg #[.slice ra rn rc], .int .i64 (k : Int)] V fun e w' => e = .returned (.bool rb) ∧ Below V.heap.size V w') := Lib.hid fun V hV => right_c hrb _ _ (by rw [HRN.out]; exact hrl) (HTN.out V hV)
              have HRB := Lib.hid hrb
              have HGD := Lib.hid hgd
              have hd1 : decide (0 ≤ (q : Int) ∧ (q : Int) < (R.length : Int)) = true := by rw [decide_eq_true_iff, HN.out]; omega
              have HD1 := Lib.hid hd1
              clear hcl hr hgd htn hrn hrb hd1
              go_wp2_with fail
              refine (CRt.out _ (Below.refl _ _)).mono ?_
              rintro e w5 ⟨rfl, hb5⟩
              have HBW5 := Lib.hid (bnext HB5.out hb5)
              cases rb with
              | false =>
                have hz := HNO.out (.inr (.inr (.inl ⟨i, _, HX.out, by unfold AX.growOk; rw [Bool.and_eq_false_iff]; right; simp only; rw [HGD.out]; exact HRB.out⟩)))
                obtain ⟨rfl, rfl⟩ : N1 = 0 ∧ N2 = false := by simpa using hz
                clear hz
                go_wp2
                go_ret2
                exact ⟨by first | rfl | trivial, HBW5.out⟩
              | true =>
                obtain ⟨⟨u1, u2⟩, hu⟩ : ∃ u, AX.scalar r at' = u := ⟨_, rfl⟩
                obtain ⟨⟨t1, t2⟩, ht⟩ : ∃ t, F.FP.partS gb u1 u2 = t := ⟨_, rfl⟩
                have hbd := AX.part_bd gb u1 u2
                rw [ht] at hbd
                obtain ⟨hbd1, hbd2⟩ := hbd
                simp only at hbd1 hbd2
                have hpo : AX.partOf R at' ((q : Int), gb) = (t1, t2) := by
                  unfold AX.partOf
                  simp only
                  rw [HGD.out, hu]
                  exact ht
                have HT : Hid (AX.acc R at' (b1, b2) (l.take (i + 1)) = (s1 + t1, s2 && t2)) := Lib.hid (by rw [AX.acc_take HX.out, HACC.out, hpo])
                have HALL : Hid (∀ j g, j < i + 1 → l[j]? = some g → AX.growOk R (k : Int) g = true) := Lib.hid (fun j g hj hg => by
                  by_cases e : j = i
                  · subst e
                    rw [HX.out] at hg
                    rw [← Option.some.inj hg]
                    unfold AX.growOk
                    simp only
                    rw [HD1.out, HGD.out, HRB.out]
                    rfl
                  · exact HYS.out j g (by omega) hg)
                have CS : Hid (∀ V, Below w5.heap.size w5 V → Calls Try.prog 25 #[.agg #[.slice ra rn rc], .slice a3 k c3] V fun e w' => e = .returned (.agg #[.int .i64 u1, .int .i64 u2]) ∧ Below V.heap.size V w') := Lib.hid fun V hV => scalar_c hu _ _ _ (by rw [HRN.out]; exact hrl) (by rw [HK.out]; exact hal) (HTN.out V (bnext hb5 hV)) (HI.out V (bnext HBW5.out hV))
                have CP : Hid (∀ V, Calls Try.prog 63 #[.int .i64 gb, .agg #[.int .i64 u1, .int .i64 u2]] V fun e w' => e = .returned (.tuple #[.int .i64 t1, .bool t2]) ∧ Below V.heap.size V w') := Lib.hid fun V => part_c ht V
                have p0 : w5.cell? ⟨P, 0, none⟩ = some (.int .i64 (q : Int)) := (hb5.cell (World.block_lt_of_cell? W5 _ p0)).trans p0
                have p1 : w5.cell? ⟨P, 1, none⟩ = some (.int .i64 gb) := (hb5.cell (World.block_lt_of_cell? W5 _ p1)).trans p1
                have p2 : w5.cell? ⟨g2, o2 + q, none⟩ = some (.slice ra rn rc) := (hb5.cell (World.block_lt_of_cell? W5 _ hrow)).trans hrow
                have HKS : Hid (∀ V, Below w5.heap.size w5 V → ((fun w' => w'.cell? ⟨P, 0, none⟩ = some (.int .i64 (q : Int)) ∧ w'.cell? ⟨P, 1, none⟩ = some (.int .i64 gb) ∧ w'.cell? ⟨g2, o2 + q, none⟩ = some (.slice ra rn rc)) V)) := Lib.hid fun V hV => ⟨(hV.cell (World.block_lt_of_cell? w5 _ p0)).trans p0, (hV.cell (World.block_lt_of_cell? w5 _ p1)).trans p1, (hV.cell (World.block_lt_of_cell? w5 _ p2)).trans p2⟩
                have hw1 : IntKind.i64.wrap (s1 + t1) = s1 + t1 := by rw [IntKind.wrap_i64]; omega
                clear hu ht hpo hb5 hrow hneg hbig
                go_wp2_with fail
                refine wp_region_held_drew (S := fun w' => w'.cell? ⟨P, 0, none⟩ = some (.int .i64 (q : Int)) ∧ w'.cell? ⟨P, 1, none⟩ = some (.int .i64 gb) ∧ w'.cell? ⟨g2, o2 + q, none⟩ = some (.slice ra rn rc)) (by kernel_rfl) ?_ (fun hHeld => ?_)
                · exact HKS.out _ (by (repeat' (first | exact Below.refl _ _ | (with_reducible assumption) | (refine bnext ?_ (by with_reducible assumption)) | (refine balloc ?_ _) | (refine below_drewN ?_ _) | (refine Below.drew ?_))))
                refine wpAnyH_take (i := 0) (oi := { dst := some 58, op := Op.fieldAddr 60 (Operand.tmp 13) 1, type := 0, pos := "axes.go:152", after := #[], guard := none }) (v := ?_) rfl (by kernel_rfl) (by kernel_rfl) (by kernel_rfl) (fun _ _ _ h => h) (Or.inl ⟨by rfl, ?_⟩) (by assumption) ?_
                rotate_left
                · ((intro w hSw; (try dsimp only at hSw); go_simp; (try rw [if_neg (by omega)])); try with_reducible rfl)
                (try simp only [Act.put, List.setIfInBounds_toArray, List.set_cons_zero, List.set_cons_succ])
                refine wpAnyH_take (i := 1) (oi := { dst := some 59, op := Op.load 3 (Operand.tmp 58), type := 3, pos := "axes.go:152", after := #[{ on := 0, ground := Ground.data }], guard := none }) (v := ?_) rfl (by kernel_rfl) (by kernel_rfl) (by kernel_rfl) (fun _ _ _ h => h) (Or.inl ⟨by rfl, ?_⟩) (by assumption) ?_
                rotate_left
                · ((intro w hSw; (try dsimp only at hSw); go_simp; (try rw [if_neg (by omega)])); try with_reducible rfl)
                (try simp only [Act.put, List.setIfInBounds_toArray, List.set_cons_zero, List.set_cons_succ])
                refine wpAnyH_take (i := 2) (oi := { dst := some 60, op := Op.move (Operand.tmp 2), type := 47, pos := "axes.go:152", after := #[], guard := none }) (v := ?_) rfl (by kernel_rfl) (by kernel_rfl) (by kernel_rfl) (fun _ _ _ h => h) (Or.inl ⟨by rfl, ?_⟩) (by assumption) ?_
                rotate_left
                · ((intro w hSw; (try dsimp only at hSw); go_simp; (try rw [if_neg (by omega)])); try with_reducible rfl)
                (try simp only [Act.put, List.setIfInBounds_toArray, List.set_cons_zero, List.set_cons_succ])
                refine wpAnyH_take (i := 3) (oi := { dst := some 61, op := Op.fieldAddr 60 (Operand.tmp 13) 0, type := 0, pos := "axes.go:152", after := #[], guard := none }) (v := ?_) rfl (by kernel_rfl) (by kernel_rfl) (by kernel_rfl) (fun _ _ _ h => h) (Or.inl ⟨by rfl, ?_⟩) (by assumption) ?_
                rotate_left
                · ((intro w hSw; (try dsimp only at hSw); go_simp; (try rw [if_neg (by omega)])); try with_reducible rfl)
                (try simp only [Act.put, List.setIfInBounds_toArray, List.set_cons_zero, List.set_cons_succ])
                refine wpAnyH_take (i := 4) (oi := { dst := some 62, op := Op.load 3 (Operand.tmp 61), type := 3, pos := "axes.go:152", after := #[{ on := 3, ground := Ground.data }], guard := none }) (v := ?_) rfl (by kernel_rfl) (by kernel_rfl) (by kernel_rfl) (fun _ _ _ h => h) (Or.inl ⟨by rfl, ?_⟩) (by assumption) ?_
                rotate_left
                · ((intro w hSw; (try dsimp only at hSw); go_simp; (try rw [if_neg (by omega)])); try with_reducible rfl)
                (try simp only [Act.put, List.setIfInBounds_toArray, List.set_cons_zero, List.set_cons_succ])
                refine wpAnyH_take (i := 5) (oi := { dst := some 63, op := Op.indexAddr 47 (Operand.tmp 60) (Operand.tmp 62), type := 0, pos := "axes.go:152", after := #[{ on := 2, ground := Ground.data }, { on := 4, ground := Ground.data }], guard := none }) (v := ?_) rfl (by kernel_rfl) (by kernel_rfl) (by kernel_rfl) (fun _ _ _ h => h) (Or.inl ⟨by rfl, ?_⟩) (by assumption) ?_
                rotate_left
                · ((intro w hSw; (try dsimp only at hSw); go_simp; (try rw [if_neg (by omega)])); try with_reducible rfl)
                (try simp only [Act.put, List.setIfInBounds_toArray, List.set_cons_zero, List.set_cons_succ])
                refine wpAnyH_take (i := 6) (oi := { dst := some 64, op := Op.load 42 (Operand.tmp 63), type := 42, pos := "axes.go:152", after := #[{ on := 5, ground := Ground.data }], guard := none }) (v := ?_) rfl (by kernel_rfl) (by kernel_rfl) (by kernel_rfl) (fun _ _ _ h => h) (Or.inl ⟨by rfl, ?_⟩) (by assumption) ?_
                rotate_left
                · ((intro w hSw; (try dsimp only at hSw); go_simp; (try rw [if_neg (by omega)])); try with_reducible rfl)
                (try simp only [Act.put, List.setIfInBounds_toArray, List.set_cons_zero, List.set_cons_succ])
                refine wpAnyH_take (i := 7) (oi := { dst := some 65, op := Op.move (Operand.tmp 3), type := 25, pos := "axes.go:152", after := #[], guard := none }) (v := ?_) rfl (by kernel_rfl) (by kernel_rfl) (by kernel_rfl) (fun _ _ _ h => h) (Or.inl ⟨by rfl, ?_⟩) (by assumption) ?_
                rotate_left
                · ((intro w hSw; (try dsimp only at hSw); go_simp; (try rw [if_neg (by omega)])); try with_reducible rfl)
                (try simp only [Act.put, List.setIfInBounds_toArray, List.set_cons_zero, List.set_cons_succ])
                refine wpAnyH_ready (rs := [8]) (by kernel_rfl) (by simp) ?_
                refine AllReadyH.cons (o := { dst := some 66, op := Op.call { callee := Callee.value (Operand.func 25), args := #[Operand.tmp 64, Operand.tmp 65], argTypes := #[42, 25] }, type := 50, pos := "axes.go:152", after := #[{ on := 6, ground := Ground.data }, { on := 7, ground := Ground.data }], guard := none }) rfl (fun K hK => ?_) ?_
                · (go_simp; go_at_call 25; refine (CS.out _ (by (repeat' (first | exact Below.refl _ _ | (with_reducible assumption) | (refine bnext ?_ (by with_reducible assumption)) | (refine balloc ?_ _) | (refine below_drewN ?_ _) | (refine Below.drew ?_))))).mono ?_; rintro e w6 ⟨rfl, hb6⟩; dsimp only)
                  refine hK.out _ _ ?_ (fun hHeld => ?_)
                  · exact HKS.out _ (by (repeat' (first | exact Below.refl _ _ | (with_reducible assumption) | (refine bnext ?_ (by with_reducible assumption)) | (refine balloc ?_ _) | (refine below_drewN ?_ _) | (refine Below.drew ?_))))
                  clear hK K
                  (try simp only [Act.put, List.setIfInBounds_toArray, List.set_cons_zero, List.set_cons_succ])
                  refine wpAnyH_ready (rs := [9]) (by kernel_rfl) (by simp) ?_
                  refine AllReadyH.cons (o := { dst := some 67, op := Op.call { callee := Callee.value (Operand.func 63), args := #[Operand.tmp 59, Operand.tmp 66], argTypes := #[3, 50] }, type := 36, pos := "axes.go:152", after := #[{ on := 1, ground := Ground.data }, { on := 8, ground := Ground.data }, { on := 8, ground := Ground.chain }], guard := none }) rfl (fun K hK => ?_) ?_
                  · (go_simp; go_at_call 63; refine (CP.out _).mono ?_; rintro e w7 ⟨rfl, hb7⟩; dsimp only)
                    refine hK.out _ _ ?_ (fun hHeld => ?_)
                    · exact HKS.out _ (by (repeat' (first | exact Below.refl _ _ | (with_reducible assumption) | (refine bnext ?_ (by with_reducible assumption)) | (refine balloc ?_ _) | (refine below_drewN ?_ _) | (refine Below.drew ?_))))
                    clear hK K
                    (try simp only [Act.put, List.setIfInBounds_toArray, List.set_cons_zero, List.set_cons_succ])
                    refine wpAnyH_take (i := 10) (oi := { dst := some 57, op := Op.move (Operand.tmp 67), type := 36, pos := "axes.go:152", after := #[{ on := 9, ground := Ground.data }], guard := none }) (v := ?_) rfl (by kernel_rfl) (by kernel_rfl) (by kernel_rfl) (fun _ _ _ h => h) (Or.inl ⟨by rfl, ?_⟩) (by assumption) ?_
                    rotate_left
                    · ((intro w hSw; (try dsimp only at hSw); go_simp; (try rw [if_neg (by omega)])); try with_reducible rfl)
                    (try simp only [Act.put, List.setIfInBounds_toArray, List.set_cons_zero, List.set_cons_succ])
                    refine wpAnyH_take (i := 11) (oi := { dst := some 68, op := Op.extract (Operand.tmp 57) 0, type := 3, pos := "axes.go:152", after := #[{ on := 10, ground := Ground.data }], guard := none }) (v := ?_) rfl (by kernel_rfl) (by kernel_rfl) (by kernel_rfl) (fun _ _ _ h => h) (Or.inl ⟨by rfl, ?_⟩) (by assumption) ?_
                    rotate_left
                    · ((intro w hSw; (try dsimp only at hSw); go_simp; (try rw [if_neg (by omega)])); try with_reducible rfl)
                    (try simp only [Act.put, List.setIfInBounds_toArray, List.set_cons_zero, List.set_cons_succ])
                    refine wpAnyH_take (i := 12) (oi := { dst := some 69, op := Op.extract (Operand.tmp 57) 1, type := 4, pos := "axes.go:152", after := #[{ on := 10, ground := Ground.data }, { on := 13, ground := Ground.gcOnly Departure.lateStores }], guard := none }) (v := ?_) rfl (by kernel_rfl) (by kernel_rfl) (by kernel_rfl) (fun _ _ _ h => h) (Or.inl ⟨by rfl, ?_⟩) (by assumption) ?_
                    rotate_left
                    · ((intro w hSw; (try dsimp only at hSw); go_simp; (try rw [if_neg (by omega)])); try with_reducible rfl)
                    (try simp only [Act.put, List.setIfInBounds_toArray, List.set_cons_zero, List.set_cons_succ])
                    refine wpAnyH_take (i := 13) (oi := { dst := some 14, op := Op.assign (Operand.tmp 68), type := 3, pos := "axes.go:152", after := #[{ on := 11, ground := Ground.data }, { on := 9, ground := Ground.chain }, { on := 0, ground := Ground.phase }, { on := 1, ground := Ground.phase }, { on := 2, ground := Ground.phase }, { on := 3, ground := Ground.phase }, { on := 4, ground := Ground.phase }, { on := 5, ground := Ground.phase }, { on := 6, ground := Ground.phase }, { on := 7, ground := Ground.phase }, { on := 8, ground := Ground.phase }, { on := 9, ground := Ground.phase }, { on := 10, ground := Ground.phase }, { on := 11, ground := Ground.phase }, { on := 12, ground := Ground.textOnly Departure.lateStores }], guard := none }) (v := ?_) rfl (by kernel_rfl) (by kernel_rfl) (by kernel_rfl) (fun _ _ _ h => h) (Or.inl ⟨by rfl, ?_⟩) (by assumption) ?_
                    rotate_left
                    · ((intro w hSw; (try dsimp only at hSw); go_simp; (try rw [if_neg (by omega)])); try with_reducible rfl)
                    (try simp only [Act.put, List.setIfInBounds_toArray, List.set_cons_zero, List.set_cons_succ])
                    refine wpAnyH_take (i := 14) (oi := { dst := some 15, op := Op.assign (Operand.tmp 69), type := 4, pos := "axes.go:152", after := #[{ on := 12, ground := Ground.data }, { on := 13, ground := Ground.chain }, { on := 0, ground := Ground.phase }, { on := 1, ground := Ground.phase }, { on := 2, ground := Ground.phase }, { on := 3, ground := Ground.phase }, { on := 4, ground := Ground.phase }, { on := 5, ground := Ground.phase }, { on := 6, ground := Ground.phase }, { on := 7, ground := Ground.phase }, { on := 8, ground := Ground.phase }, { on := 9, ground := Ground.phase }, { on := 10, ground := Ground.phase }, { on := 11, ground := Ground.phase }, { on := 12, ground := Ground.phase }, { on := 13, ground := Ground.phase }], guard := none }) (v := ?_) rfl (by kernel_rfl) (by kernel_rfl) (by kernel_rfl) (fun _ _ _ h => h) (Or.inl ⟨by rfl, ?_⟩) (by assumption) ?_
                    rotate_left
                    · ((intro w hSw; (try dsimp only at hSw); go_simp; (try rw [if_neg (by omega)])); try with_reducible rfl)
                    (try simp only [Act.put, List.setIfInBounds_toArray, List.set_cons_zero, List.set_cons_succ])
                    refine wpAnyH_done (by kernel_rfl) ?_ _
                    have hbf : Below w5.heap.size w5 w7 := by
                      refine bnext (bnext ?_ hb6) hb7
                      (repeat' (first | exact Below.refl _ _ | (with_reducible assumption) | (refine bnext ?_ (by with_reducible assumption)) | (refine balloc ?_ _) | (refine below_drewN ?_ _) | (refine Below.drew ?_)))
                    have HBF := Lib.hid (bnext HBW5.out hbf)
                    clear hbf hb6 hb7
                    cases s2 with
                    | false =>
                      go_wp2
                      go_roundw
                      case rel => exact ⟨i + 1, s1 + t1, false, by simp, by omega, rfl, rfl, Lib.hid (HT.out.trans rfl), HALL, by omega, by omega, HBF.out⟩
                      case measure => simp [intOf]; omega
                    | true =>
                      go_wp2
                      go_roundw
                      case rel => exact ⟨i + 1, s1 + t1, t2, by simp, by omega, rfl, rfl, Lib.hid (HT.out.trans rfl), HALL, by omega, by omega, HBF.out⟩
                      case measure => simp [intOf]; omega
                  exact AllReadyH.nil
                exact AllReadyH.nil
        · obtain rfl : i = m := by omega
          have htk : l.take i = l := by rw [← HM.out, List.take_length]
          have hacc := HACC.out
          rw [htk] at hacc
          cases s2 with
          | false =>
            have hz := HNO.out (.inr (.inr (.inr (by rw [hacc]))))
            obtain ⟨rfl, rfl⟩ : N1 = 0 ∧ N2 = false := by simpa using hz
            clear hz hacc htk
            go_wp2
            go_ret2
            exact ⟨by first | rfl | trivial, hbr⟩
          | true =>
            have hz := HYES.out (by omega) (by first | rfl | trivial) (fun j g hg => HYS.out j g (by rw [← HM.out]; exact (List.getElem?_eq_some_iff.1 hg).1) hg) s1 hacc
            obtain ⟨rfl, rfl⟩ : N1 = s1 ∧ N2 = true := by simpa using hz
            clear hz hacc htk
            go_wp2
            go_ret2
            exact ⟨by first | rfl | trivial, hbr⟩
end Go.Proofs.Ytbhkbjnmpaebdaa
