/- The reference: Sum. No conditions. -/
import Derived.Test.YtbhkbjnmpaebdaaAx8
import Derived.Test.YtbhkbjnmpaebdaaAx13
namespace Go.Proofs.Ytbhkbjnmpaebdaa.AX
theorem acc_true {R : List (List Tn)} {at' : List Int} : ∀ {l : List (Int × Int)} {s : Int × Bool}, (acc R at' s l).2 = true → s.2 = true ∧ ∀ g ∈ l, (partOf R at' g).2 = true
  | [], s, h => ⟨h, by simp⟩
  | g :: l, s, h => by
    have h1 := acc_true (l := l) (s := (s.1 + (partOf R at' g).1, s.2 && (partOf R at' g).2)) h
    obtain ⟨h2, h3⟩ := h1
    simp only [Bool.and_eq_true] at h2
    refine ⟨h2.1, fun x hx => ?_⟩
    rcases List.mem_cons.1 hx with rfl | hx
    · exact h2.2
    · exact h3 x hx
theorem part_one {b : Int} (h : F.FP.sm b) : F.FP.partS b 1 1 = (64 * b, true) := by
  have hr : F.FP.rgt 1 1 := by constructor <;> first | decide | omega | (unfold F.FP.gc; decide)
  unfold F.FP.partS
  rw [if_pos ⟨h, hr⟩]
  unfold F.FP.rnd
  rw [Int.mul_one, Int.emod_one, Int.ediv_one]
  rfl
theorem part_big {b : Int} (h : ¬ F.FP.sm b) : F.FP.partS b 1 1 = (0, false) := by
  unfold F.FP.partS
  rw [if_neg (fun k => h k.1)]
end Go.Proofs.Ytbhkbjnmpaebdaa.AX
namespace Go.Proofs.Ytbhkbjnmpaebdaa
set_option maxRecDepth 100000
set_option linter.unusedVariables false
open Go.RowKit Go.Deep
theorem rpart_c {a n d : Int} {r : Int × Bool} (h : F.FP.partS a n d = r) (w : World) :
    Calls Try.prog 65 #[.int .i64 a, .agg #[.int .i64 n, .int .i64 d]] w fun e w' => e = .returned (.tuple #[.int .i64 r.1, .bool r.2]) ∧ Below w.heap.size w w' := by
  have := F.rpart_any a n d w
  rwa [h] at this
theorem rscalar_c {l : List AX.Tn} {at' : List Int} {r : Int × Int} (h : AX.scalar l at' = r) (v va : Value) (w : World) (hl : l.length ≤ 1000000000000) (hal : at'.length ≤ 1000000000000) (hv : TnAt w v l) (ha : InAt w va at') :
    Calls Try.prog 26 #[.agg #[v], va] w fun e w' => e = .returned (.agg #[.int .i64 r.1, .int .i64 r.2]) ∧ Below w.heap.size w w' := by
  have := rscalar_any l at' v va w hl hal hv ha
  rwa [h] at this
theorem rsmall_c {n : Int} {b : Bool} (h : decide (F.FP.sm n) = b) (w : World) : Calls Try.prog 64 #[.int .i64 n] w fun e w' => e = .returned (.bool b) ∧ Below w.heap.size w w' := by
  cases b with
  | true => exact F.rsmall_yes n w (of_decide_eq_true h)
  | false => exact F.rsmall_no n w (of_decide_eq_false h)
set_option maxHeartbeats 8000000 in
theorem rsum_any (base : Int) (l : List (Int × Int)) (R : List (List AX.Tn)) (at' : List Int) (v vr va : Value) (w : World) (hl : l.length ≤ 1000000000000) (hR : R.length ≤ 1000000000000) (hRR : ∀ r ∈ R, r.length ≤ 1000000000000) (hal : at'.length ≤ 1000000000000) (hv : PrAt w v l) (hr : RgAt w vr R) (ha : InAt w va at') :
    Calls Try.prog 30 #[.int .i64 base, v, vr, va] w fun e w' => e = .returned (.tuple #[.int .i64 (AX.sum base l R at').1, .bool (AX.sum base l R at').2]) ∧ Below w.heap.size w w' := by
  have HV : Hid (∀ V, Below w.heap.size w V → PrAt V v l) := Lib.hid fun V hV => hv.keep hV
  have HG : Hid (∀ V, Below w.heap.size w V → RgAt V vr R) := Lib.hid fun V hV => hr.keep hV
  have HI : Hid (∀ V, Below w.heap.size w V → InAt V va at') := Lib.hid fun V hV => ha.keep hV
  obtain ⟨a1, c1, rfl, -⟩ := hv
  obtain ⟨a2, c2, rfl, -⟩ := hr
  obtain ⟨a3, c3, rfl, -⟩ := ha
  obtain ⟨m, hm⟩ : ∃ m, l.length = m := ⟨_, rfl⟩
  obtain ⟨n, hn⟩ : ∃ n, R.length = n := ⟨_, rfl⟩
  obtain ⟨k, hk⟩ : ∃ k, at'.length = k := ⟨_, rfl⟩
  have HM := Lib.hid hm
  have HN := Lib.hid hn
  have HK := Lib.hid hk
  obtain ⟨N, hNN⟩ : ∃ N, AX.sum base l R at' = N := ⟨_, rfl⟩
  rw [hNN]
  have HNO : Hid ((8 < m ∨ AX.coords at' = false ∨ (∃ i g, l[i]? = some g ∧ AX.growOk R (k : Int) g = false) ∨ (AX.acc R at' (F.FP.partS base 1 1) l).2 = false) → N = (0, false)) := Lib.hid (by
    intro h
    rw [← hNN]
    unfold AX.sum
    rw [if_neg]
    rintro ⟨h1, h2, h3, h4⟩
    rcases h with h | h | h | h
    · omega
    · rw [h] at h2; cases h2
    · obtain ⟨i, g, hi, hg⟩ := h
      rw [List.all_eq_true] at h3
      have := h3 g (List.mem_of_getElem? hi)
      rw [hk, hg] at this
      cases this
    · rw [h] at h4; cases h4)
  have HYES : Hid (m ≤ 8 → AX.coords at' = true → (∀ j g, l[j]? = some g → AX.growOk R (k : Int) g = true) → ∀ s, AX.acc R at' (F.FP.partS base 1 1) l = (s, true) → N = (s, true)) := Lib.hid (by
    intro h1 h2 h3 s h4
    rw [← hNN]
    unfold AX.sum
    rw [h4, if_pos]
    refine ⟨by omega, h2, ?_, rfl⟩
    rw [List.all_eq_true, hk]
    intro g hg
    obtain ⟨j, hj⟩ := List.getElem?_of_mem hg
    exact h3 j g hj)
  obtain ⟨N1, N2⟩ := N
  simp only at HNO HYES ⊢
  rw [hm] at hl HV ⊢
  rw [hn] at hR HG ⊢
  rw [hk] at hal HI ⊢
  obtain ⟨rc, hrc⟩ : ∃ b, AX.coords at' = b := ⟨_, rfl⟩
  have CC : Hid (∀ V, Below w.heap.size w V → Calls Try.prog 60 #[.slice a3 k c3] V fun e w' => e = .returned (.bool rc) ∧ w' = V) := Lib.hid fun V hV => rcoords_c hrc _ _ (by rw [HK.out]; exact hal) (HI.out V hV)
  rw [hrc] at HNO HYES
  have HRC := Lib.hid hrc
  clear hm hn hk hNN hrc
  obtain ⟨bs, hbs⟩ : ∃ b, decide (F.FP.sm base) = b := ⟨_, rfl⟩
  have CSM := Lib.hid (fun V => rsmall_c hbs V)
  go_enter Try.func30, Try.ntmps30
  go_wp2_with fail
  refine (CSM.out _).mono ?_
  rintro e w0 ⟨rfl, kb⟩
  have HB0 := Lib.hid kb
  go_wp2_with fail
  refine (CC.out _ HB0.out).mono ?_
  rintro e w1 ⟨rfl, he⟩
  have he' := he.symm
  subst he'
  have HB1 := HB0
  clear he kb
  cases bs with
  | false =>
    have hz := HNO.out (.inr (.inr (.inr (by rw [AX.part_big (of_decide_eq_false hbs)]; exact Bool.eq_false_iff.2 (fun h => by have := (AX.acc_true h).1; cases this)))))
    clear hbs
    obtain ⟨rfl, rfl⟩ : N1 = 0 ∧ N2 = false := by simpa using hz
    clear hz
    go_wp2
    go_ret2
    exact ⟨by first | rfl | trivial, HB1.out⟩
  | true =>
    have hsm : F.FP.sm base := of_decide_eq_true hbs
    rw [AX.part_one hsm] at HNO HYES
    unfold F.FP.sm at hsm
    obtain ⟨hsm1, hsm2⟩ := hsm
    clear hbs
    cases rc with
    | false =>
      have hz := HNO.out (.inr (.inl rfl))
      obtain ⟨rfl, rfl⟩ : N1 = 0 ∧ N2 = false := by simpa using hz
      clear hz
      go_wp2
      go_ret2
      exact ⟨by first | rfl | trivial, HB1.out⟩
    | true =>
      by_cases k1 : 8 < m
      · have e1 : (8 : Int) < (m : Int) := by omega
        have hz := HNO.out (.inl k1)
        obtain ⟨rfl, rfl⟩ : N1 = 0 ∧ N2 = false := by simpa using hz
        clear hz
        go_wp2
        go_ret2
        exact ⟨by first | rfl | trivial, HB1.out⟩
      · have e1 : ¬ (8 : Int) < (m : Int) := by omega
        have hwb : IntKind.i64.wrap (64 * base) = 64 * base := by rw [IntKind.wrap_i64]; omega
        obtain ⟨b1, hb1⟩ : ∃ b1, 64 * base = b1 := ⟨_, rfl⟩
        have hbd : -17592186044417 ≤ b1 ∧ b1 ≤ 17592186044417 := by omega
        obtain ⟨hbd1, hbd2⟩ := hbd
        rw [hb1] at hwb HNO HYES
        go_wp2_with fail
        go_loopw [12, 13] (fun x z wr => ∃ (i : Nat) (s1 : Int), z = .int .i64 (i : Int) ∧ i ≤ m ∧ x = .int .i64 s1 ∧ Hid (AX.acc R at' (b1, true) (l.take i) = (s1, true)) ∧ Hid (∀ j g, j < i → l[j]? = some g → AX.growOk R (k : Int) g = true) ∧ -(17592186044417 * ((i : Int) + 1)) ≤ s1 ∧ s1 ≤ 17592186044417 * ((i : Int) + 1) ∧ Below w.heap.size w wr) (fun _ z _ => m - (intOf z).toNat)
        case atStart => exact ⟨0, b1, rfl, Nat.zero_le _, rfl, Lib.hid (by rw [List.take_zero]; rfl), Lib.hid (fun j g hj => absurd hj (Nat.not_lt_zero _)), by omega, by omega, HB1.out⟩
        case round =>
          obtain ⟨i, s1, rfl, him, rfl, HACC, HYS, hs1, hs2, hbr⟩ := hrel
          clear hb1 hwb
          by_cases hin : i < m
          · have hii : (i : Int) < (m : Int) := by omega
            have hi0 : (0 : Int) ≤ (i : Int) := by omega
            obtain ⟨x, hx⟩ : ∃ x, l[i]? = some x := ⟨l[i]'(by rw [HM.out]; exact hin), List.getElem?_eq_getElem _⟩
            obtain ⟨a', c', e', hc⟩ := HV.out wr hbr
            rw [HM.out] at e'
            injection e' with e1' e2' e3'
            subst e1' e3'
            rcases hc with h | ⟨g1, o1, rfl, hg1, hcl⟩
            · rw [h] at hx
              simp at hx
            obtain ⟨d0, d1⟩ := hcl i x hx
            obtain ⟨gr, gb⟩ := x
            simp only at d0 d1
            have HX := Lib.hid hx
            have HBR := Lib.hid hbr
            clear hcl hx hbr e2'
            by_cases hneg : gr < 0
            · have hz := HNO.out (.inr (.inr (.inl ⟨i, _, HX.out, by unfold AX.growOk; rw [Bool.and_eq_false_iff]; left; rw [decide_eq_false_iff_not]; simp only; omega⟩)))
              obtain ⟨rfl, rfl⟩ : N1 = 0 ∧ N2 = false := by simpa using hz
              clear hz
              go_wp2
              go_ret2
              exact ⟨by first | rfl | trivial, HBR.out⟩
            · by_cases hbig : (n : Int) ≤ gr
              · have hz := HNO.out (.inr (.inr (.inl ⟨i, _, HX.out, by unfold AX.growOk; rw [Bool.and_eq_false_iff]; left; rw [decide_eq_false_iff_not, HN.out]; simp only; omega⟩)))
                obtain ⟨rfl, rfl⟩ : N1 = 0 ∧ N2 = false := by simpa using hz
                clear hz
                go_wp2
                go_ret2
                exact ⟨by first | rfl | trivial, HBR.out⟩
              · obtain ⟨q, rfl⟩ := Int.eq_ofNat_of_zero_le (show 0 ≤ gr by omega)
                have hqn : q < n := by omega
                have hqi : (q : Int) < (n : Int) := by omega
                have hq0 : (0 : Int) ≤ (q : Int) := by omega
                obtain ⟨r, hr⟩ : ∃ r, R[q]? = some r := ⟨R[q]'(by rw [HN.out]; exact hqn), List.getElem?_eq_getElem _⟩
                have hgd : R.getD ((q : Int)).toNat [] = r := by rw [Int.toNat_natCast, List.getD_eq_getElem?_getD, hr]; rfl
                obtain ⟨a', c', e', hc⟩ := HG.out wr HBR.out
                rw [HN.out] at e'
                injection e' with e1' e2' e3'
                subst e1' e3'
                rcases hc with h | ⟨g2, o2, rfl, hg2, hcl⟩
                · rw [h] at hr
                  simp at hr
                obtain ⟨ra, rc, hrow, htn⟩ := hcl q r hr
                have hrl : r.length ≤ 1000000000000 := hRR r (List.mem_of_getElem? hr)
                have HTN : Hid (∀ V, Below wr.heap.size wr V → TnAt V (.slice ra r.length rc) r) := Lib.hid fun V hV => htn.keep hV
                obtain ⟨rn, hrn⟩ : ∃ rn, r.length = rn := ⟨_, rfl⟩
                have HRN := Lib.hid hrn
                rw [hrn] at hrow HTN hrl
                obtain ⟨rb, hrb⟩ : ∃ rb, AX.right r (k : Int) = rb := ⟨_, rfl⟩
                have CRt : Hid (∀ V, Below wr.heap.size wr V → Calls Try.prog 24 #[.agg #[.slice ra rn rc], .int .i64 (k : Int)] V fun e w' => e = .returned (.bool rb) ∧ Below V.heap.size V w') := Lib.hid fun V hV => rright_c hrb _ _ (by rw [HRN.out]; exact hrl) (HTN.out V hV)
                have HRB := Lib.hid hrb
                have HGD := Lib.hid hgd
                have hd1 : decide (0 ≤ (q : Int) ∧ (q : Int) < (R.length : Int)) = true := by rw [decide_eq_true_iff, HN.out]; omega
                have HD1 := Lib.hid hd1
                clear hcl hr hgd htn hrn hrb hd1 e2'
                go_wp2_with fail
                obtain ⟨P, hP⟩ : ∃ P, wr.heap.size = P := ⟨_, rfl⟩
                obtain ⟨W5, hW5⟩ : ∃ W5, wr.alloc (.cells #[.slice ra rn rc] 42) = W5 := ⟨_, rfl⟩
                have hb3 : Below wr.heap.size wr W5 := by rw [← hW5]; exact balloc (Below.refl _ _) _
                have hn5 : W5.heap[P]? = some (.cells #[.slice ra rn rc] 42 (0, 0)) := by rw [← hW5, ← hP]; exact heap_alloc_new wr _
                rw [hW5, hP]
                have p2 : W5.cell? ⟨P, 0, none⟩ = some (.slice ra rn rc) := by simp [World.cell?, hn5]
                have p0 : W5.cell? ⟨g1, o1 + i * 2, none⟩ = some (.int .i64 (q : Int)) := (hb3.cell (World.block_lt_of_cell? wr _ d0)).trans d0
                have p1 : W5.cell? ⟨g1, o1 + i * 2 + 1, none⟩ = some (.int .i64 gb) := (hb3.cell (World.block_lt_of_cell? wr _ d1)).trans d1
                refine (CRt.out _ hb3).mono ?_
                rintro e w5 ⟨rfl, hb5⟩
                have hb35 := bnext hb3 hb5
                have HBW5 := Lib.hid (bnext HBR.out hb35)
                obtain ⟨⟨u1, u2⟩, hu⟩ : ∃ u, AX.scalar r at' = u := ⟨_, rfl⟩
                obtain ⟨⟨t1, t2⟩, ht⟩ : ∃ t, F.FP.partS gb u1 u2 = t := ⟨_, rfl⟩
                have hbd := AX.part_bd gb u1 u2
                rw [ht] at hbd
                obtain ⟨hbd1, hbd2⟩ := hbd
                simp only at hbd1 hbd2
                have hpo : AX.partOf R at' ((q : Int), gb) = (t1, t2) := by
                  unfold AX.partOf
                  simp only
                  rw [HGD.out, hu]
                  exact ht
                have HPO := Lib.hid hpo
                have HT : Hid (AX.acc R at' (b1, true) (l.take (i + 1)) = (s1 + t1, t2)) := Lib.hid (by rw [AX.acc_take HX.out, HACC.out, hpo, Bool.true_and])
                have CS : Hid (∀ V, Below w5.heap.size w5 V → Calls Try.prog 26 #[.agg #[.slice ra rn rc], .slice a3 k c3] V fun e w' => e = .returned (.agg #[.int .i64 u1, .int .i64 u2]) ∧ Below V.heap.size V w') := Lib.hid fun V hV => rscalar_c hu _ _ _ (by rw [HRN.out]; exact hrl) (by rw [HK.out]; exact hal) (HTN.out V (bnext hb35 hV)) (HI.out V (bnext HBW5.out hV))
                have CP : Hid (∀ V, Calls Try.prog 65 #[.int .i64 gb, .agg #[.int .i64 u1, .int .i64 u2]] V fun e w' => e = .returned (.tuple #[.int .i64 t1, .bool t2]) ∧ Below V.heap.size V w') := Lib.hid fun V => rpart_c ht V
                replace p0 := (hb5.cell (World.block_lt_of_cell? W5 _ p0)).trans p0
                replace p1 := (hb5.cell (World.block_lt_of_cell? W5 _ p1)).trans p1
                replace p2 := (hb5.cell (World.block_lt_of_cell? W5 _ p2)).trans p2
                have HKS : Hid (∀ V, Below w5.heap.size w5 V → ((fun w' => w'.cell? ⟨g1, o1 + i * 2, none⟩ = some (.int .i64 (q : Int)) ∧ w'.cell? ⟨g1, o1 + i * 2 + 1, none⟩ = some (.int .i64 gb) ∧ w'.cell? ⟨P, 0, none⟩ = some (.slice ra rn rc)) V)) := Lib.hid fun V hV => ⟨(hV.cell (World.block_lt_of_cell? w5 _ p0)).trans p0, (hV.cell (World.block_lt_of_cell? w5 _ p1)).trans p1, (hV.cell (World.block_lt_of_cell? w5 _ p2)).trans p2⟩
                have hw1 : IntKind.i64.wrap (s1 + t1) = s1 + t1 := by rw [IntKind.wrap_i64]; omega
                clear hu ht hpo hb5 hb3 hb35 hrow hneg hbig hP hW5 hn5 d0 d1
                go_wp2_with fail
                refine wp_region_held_drew (S := fun w' => w'.cell? ⟨g1, o1 + i * 2, none⟩ = some (.int .i64 (q : Int)) ∧ w'.cell? ⟨g1, o1 + i * 2 + 1, none⟩ = some (.int .i64 gb) ∧ w'.cell? ⟨P, 0, none⟩ = some (.slice ra rn rc)) (by kernel_rfl) ?_ (fun hHeld => ?_)
                · exact HKS.out _ (by (repeat' (first | exact Below.refl _ _ | (with_reducible assumption) | (refine bnext ?_ (by with_reducible assumption)) | (refine balloc ?_ _) | (refine below_drewN ?_ _) | (refine Below.drew ?_))))
                refine wpAnyH_take (i := 0) (oi := { dst := some 70, op := Op.move (Operand.tmp 1), type := 53, pos := "ref.go:148", after := #[], guard := none }) (v := ?_) rfl (by kernel_rfl) (by kernel_rfl) (by kernel_rfl) (fun _ _ _ h => h) (Or.inl ⟨by rfl, ?_⟩) (by assumption) ?_
                rotate_left
                · ((intro w hSw; (try dsimp only at hSw); go_simp; (try rw [if_neg (by omega)])); try with_reducible rfl)
                (try simp only [Act.put, List.setIfInBounds_toArray, List.set_cons_zero, List.set_cons_succ])
                refine wpAnyH_take (i := 1) (oi := { dst := some 71, op := Op.move (Operand.tmp 13), type := 3, pos := "ref.go:148", after := #[], guard := none }) (v := ?_) rfl (by kernel_rfl) (by kernel_rfl) (by kernel_rfl) (fun _ _ _ h => h) (Or.inl ⟨by rfl, ?_⟩) (by assumption) ?_
                rotate_left
                · ((intro w hSw; (try dsimp only at hSw); go_simp; (try rw [if_neg (by omega)])); try with_reducible rfl)
                (try simp only [Act.put, List.setIfInBounds_toArray, List.set_cons_zero, List.set_cons_succ])
                refine wpAnyH_take (i := 2) (oi := { dst := some 72, op := Op.indexAddr 53 (Operand.tmp 70) (Operand.tmp 71), type := 0, pos := "ref.go:148", after := #[{ on := 0, ground := Ground.data }, { on := 1, ground := Ground.data }], guard := none }) (v := ?_) rfl (by kernel_rfl) (by kernel_rfl) (by kernel_rfl) (fun _ _ _ h => h) (Or.inl ⟨by rfl, ?_⟩) (by assumption) ?_
                rotate_left
                · ((intro w hSw; (try dsimp only at hSw); go_simp; (try rw [if_neg (by omega)])); try with_reducible rfl)
                (try simp only [Act.put, List.setIfInBounds_toArray, List.set_cons_zero, List.set_cons_succ])
                refine wpAnyH_take (i := 3) (oi := { dst := some 73, op := Op.fieldAddr 60 (Operand.tmp 72) 1, type := 0, pos := "ref.go:148", after := #[{ on := 2, ground := Ground.data }], guard := none }) (v := ?_) rfl (by kernel_rfl) (by kernel_rfl) (by kernel_rfl) (fun _ _ _ h => h) (Or.inl ⟨by rfl, ?_⟩) (by assumption) ?_
                rotate_left
                · ((intro w hSw; (try dsimp only at hSw); go_simp; (try rw [if_neg (by omega)])); try with_reducible rfl)
                (try simp only [Act.put, List.setIfInBounds_toArray, List.set_cons_zero, List.set_cons_succ])
                refine wpAnyH_take (i := 4) (oi := { dst := some 74, op := Op.load 3 (Operand.tmp 73), type := 3, pos := "ref.go:148", after := #[{ on := 3, ground := Ground.data }], guard := none }) (v := ?_) rfl (by kernel_rfl) (by kernel_rfl) (by kernel_rfl) (fun _ _ _ h => h) (Or.inl ⟨by rfl, ?_⟩) (by assumption) ?_
                rotate_left
                · ((intro w hSw; (try dsimp only at hSw); go_simp; (try rw [if_neg (by omega)])); try with_reducible rfl)
                (try simp only [Act.put, List.setIfInBounds_toArray, List.set_cons_zero, List.set_cons_succ])
                refine wpAnyH_take (i := 5) (oi := { dst := some 75, op := Op.load 42 (Operand.tmp 14), type := 42, pos := "ref.go:148", after := #[], guard := none }) (v := ?_) rfl (by kernel_rfl) (by kernel_rfl) (by kernel_rfl) (fun _ _ _ h => h) (Or.inl ⟨by rfl, ?_⟩) (by assumption) ?_
                rotate_left
                · ((intro w hSw; (try dsimp only at hSw); go_simp; (try rw [if_neg (by omega)])); try with_reducible rfl)
                (try simp only [Act.put, List.setIfInBounds_toArray, List.set_cons_zero, List.set_cons_succ])
                refine wpAnyH_take (i := 6) (oi := { dst := some 76, op := Op.move (Operand.tmp 3), type := 25, pos := "ref.go:148", after := #[], guard := none }) (v := ?_) rfl (by kernel_rfl) (by kernel_rfl) (by kernel_rfl) (fun _ _ _ h => h) (Or.inl ⟨by rfl, ?_⟩) (by assumption) ?_
                rotate_left
                · ((intro w hSw; (try dsimp only at hSw); go_simp; (try rw [if_neg (by omega)])); try with_reducible rfl)
                (try simp only [Act.put, List.setIfInBounds_toArray, List.set_cons_zero, List.set_cons_succ])
                refine wpAnyH_ready (rs := [7]) (by kernel_rfl) (by simp) ?_
                refine AllReadyH.cons (o := { dst := some 77, op := Op.call { callee := Callee.value (Operand.func 26), args := #[Operand.tmp 75, Operand.tmp 76], argTypes := #[42, 25] }, type := 50, pos := "ref.go:148", after := #[{ on := 5, ground := Ground.data }, { on := 6, ground := Ground.data }], guard := none }) rfl (fun K hK => ?_) ?_
                · (go_simp; go_at_call 26; refine (CS.out _ (by (repeat' (first | exact Below.refl _ _ | (with_reducible assumption) | (refine bnext ?_ (by with_reducible assumption)) | (refine balloc ?_ _) | (refine below_drewN ?_ _) | (refine Below.drew ?_))))).mono ?_; rintro e w6 ⟨rfl, hb6⟩; dsimp only)
                  refine hK.out _ _ ?_ (fun hHeld => ?_)
                  · exact HKS.out _ (by (repeat' (first | exact Below.refl _ _ | (with_reducible assumption) | (refine bnext ?_ (by with_reducible assumption)) | (refine balloc ?_ _) | (refine below_drewN ?_ _) | (refine Below.drew ?_))))
                  clear hK K
                  (try simp only [Act.put, List.setIfInBounds_toArray, List.set_cons_zero, List.set_cons_succ])
                  refine wpAnyH_ready (rs := [8]) (by kernel_rfl) (by simp) ?_
                  refine AllReadyH.cons (o := { dst := some 78, op := Op.call { callee := Callee.value (Operand.func 65), args := #[Operand.tmp 74, Operand.tmp 77], argTypes := #[3, 50] }, type := 36, pos := "ref.go:148", after := #[{ on := 4, ground := Ground.data }, { on := 7, ground := Ground.data }, { on := 7, ground := Ground.chain }], guard := none }) rfl (fun K hK => ?_) ?_
                  · (go_simp; go_at_call 65; refine (CP.out _).mono ?_; rintro e w7 ⟨rfl, hb7⟩; dsimp only)
                    refine hK.out _ _ ?_ (fun hHeld => ?_)
                    · exact HKS.out _ (by (repeat' (first | exact Below.refl _ _ | (with_reducible assumption) | (refine bnext ?_ (by with_reducible assumption)) | (refine balloc ?_ _) | (refine below_drewN ?_ _) | (refine Below.drew ?_))))
                    clear hK K
                    (try simp only [Act.put, List.setIfInBounds_toArray, List.set_cons_zero, List.set_cons_succ])
                    refine wpAnyH_take (i := 9) (oi := { dst := some 69, op := Op.move (Operand.tmp 78), type := 36, pos := "ref.go:148", after := #[{ on := 8, ground := Ground.data }], guard := none }) (v := ?_) rfl (by kernel_rfl) (by kernel_rfl) (by kernel_rfl) (fun _ _ _ h => h) (Or.inl ⟨by rfl, ?_⟩) (by assumption) ?_
                    rotate_left
                    · ((intro w hSw; (try dsimp only at hSw); go_simp; (try rw [if_neg (by omega)])); try with_reducible rfl)
                    (try simp only [Act.put, List.setIfInBounds_toArray, List.set_cons_zero, List.set_cons_succ])
                    refine wpAnyH_take (i := 10) (oi := { dst := some 79, op := Op.extract (Operand.tmp 69) 0, type := 3, pos := "ref.go:148", after := #[{ on := 9, ground := Ground.data }], guard := none }) (v := ?_) rfl (by kernel_rfl) (by kernel_rfl) (by kernel_rfl) (fun _ _ _ h => h) (Or.inl ⟨by rfl, ?_⟩) (by assumption) ?_
                    rotate_left
                    · ((intro w hSw; (try dsimp only at hSw); go_simp; (try rw [if_neg (by omega)])); try with_reducible rfl)
                    (try simp only [Act.put, List.setIfInBounds_toArray, List.set_cons_zero, List.set_cons_succ])
                    refine wpAnyH_take (i := 11) (oi := { dst := some 80, op := Op.extract (Operand.tmp 69) 1, type := 4, pos := "ref.go:148", after := #[{ on := 9, ground := Ground.data }, { on := 12, ground := Ground.gcOnly Departure.lateStores }], guard := none }) (v := ?_) rfl (by kernel_rfl) (by kernel_rfl) (by kernel_rfl) (fun _ _ _ h => h) (Or.inl ⟨by rfl, ?_⟩) (by assumption) ?_
                    rotate_left
                    · ((intro w hSw; (try dsimp only at hSw); go_simp; (try rw [if_neg (by omega)])); try with_reducible rfl)
                    (try simp only [Act.put, List.setIfInBounds_toArray, List.set_cons_zero, List.set_cons_succ])
                    refine wpAnyH_take (i := 12) (oi := { dst := some 16, op := Op.assign (Operand.tmp 79), type := 3, pos := "ref.go:148", after := #[{ on := 10, ground := Ground.data }, { on := 8, ground := Ground.chain }, { on := 0, ground := Ground.phase }, { on := 1, ground := Ground.phase }, { on := 2, ground := Ground.phase }, { on := 3, ground := Ground.phase }, { on := 4, ground := Ground.phase }, { on := 5, ground := Ground.phase }, { on := 6, ground := Ground.phase }, { on := 7, ground := Ground.phase }, { on := 8, ground := Ground.phase }, { on := 9, ground := Ground.phase }, { on := 10, ground := Ground.phase }, { on := 11, ground := Ground.textOnly Departure.lateStores }], guard := none }) (v := ?_) rfl (by kernel_rfl) (by kernel_rfl) (by kernel_rfl) (fun _ _ _ h => h) (Or.inl ⟨by rfl, ?_⟩) (by assumption) ?_
                    rotate_left
                    · ((intro w hSw; (try dsimp only at hSw); go_simp; (try rw [if_neg (by omega)])); try with_reducible rfl)
                    (try simp only [Act.put, List.setIfInBounds_toArray, List.set_cons_zero, List.set_cons_succ])
                    refine wpAnyH_take (i := 13) (oi := { dst := some 17, op := Op.assign (Operand.tmp 80), type := 4, pos := "ref.go:148", after := #[{ on := 11, ground := Ground.data }, { on := 12, ground := Ground.chain }, { on := 0, ground := Ground.phase }, { on := 1, ground := Ground.phase }, { on := 2, ground := Ground.phase }, { on := 3, ground := Ground.phase }, { on := 4, ground := Ground.phase }, { on := 5, ground := Ground.phase }, { on := 6, ground := Ground.phase }, { on := 7, ground := Ground.phase }, { on := 8, ground := Ground.phase }, { on := 9, ground := Ground.phase }, { on := 10, ground := Ground.phase }, { on := 11, ground := Ground.phase }, { on := 12, ground := Ground.phase }], guard := none }) (v := ?_) rfl (by kernel_rfl) (by kernel_rfl) (by kernel_rfl) (fun _ _ _ h => h) (Or.inl ⟨by rfl, ?_⟩) (by assumption) ?_
                    rotate_left
                    · ((intro w hSw; (try dsimp only at hSw); go_simp; (try rw [if_neg (by omega)])); try with_reducible rfl)
                    (try simp only [Act.put, List.setIfInBounds_toArray, List.set_cons_zero, List.set_cons_succ])
                    refine wpAnyH_done (by kernel_rfl) ?_ _
                    have hbf : Below w5.heap.size w5 w7 := by
                      refine bnext (bnext ?_ hb6) hb7
                      (repeat' (first | exact Below.refl _ _ | (with_reducible assumption) | (refine bnext ?_ (by with_reducible assumption)) | (refine balloc ?_ _) | (refine below_drewN ?_ _) | (refine Below.drew ?_)))
                    have HBF := Lib.hid (bnext HBW5.out hbf)
                    clear hbf hb6 hb7
                    cases rb with
                    | false =>
                      have hz := HNO.out (.inr (.inr (.inl ⟨i, _, HX.out, by unfold AX.growOk; rw [Bool.and_eq_false_iff]; right; simp only; rw [HGD.out]; exact HRB.out⟩)))
                      obtain ⟨rfl, rfl⟩ : N1 = 0 ∧ N2 = false := by simpa using hz
                      clear hz
                      go_wp2
                      go_ret2
                      exact ⟨by first | rfl | trivial, HBF.out⟩
                    | true =>
                      cases t2 with
                      | false =>
                        have hz := HNO.out (.inr (.inr (.inr (Bool.eq_false_iff.2 (fun h => by have := (AX.acc_true h).2 _ (List.mem_of_getElem? HX.out); rw [HPO.out] at this; cases this)))))
                        obtain ⟨rfl, rfl⟩ : N1 = 0 ∧ N2 = false := by simpa using hz
                        clear hz
                        go_wp2
                        go_ret2
                        exact ⟨by first | rfl | trivial, HBF.out⟩
                      | true =>
                        have HALL : Hid (∀ j g, j < i + 1 → l[j]? = some g → AX.growOk R (k : Int) g = true) := Lib.hid (fun j g hj hg => by
                          by_cases e : j = i
                          · subst e
                            rw [HX.out] at hg
                            rw [← Option.some.inj hg]
                            unfold AX.growOk
                            simp only
                            rw [HD1.out, HGD.out, HRB.out]
                            rfl
                          · exact HYS.out j g (by omega) hg)
                        go_wp2
                        go_roundw
                        case rel => exact ⟨i + 1, s1 + t1, by simp, by omega, rfl, Lib.hid (HT.out.trans rfl), HALL, by omega, by omega, HBF.out⟩
                        case measure => simp [intOf]; omega
                  exact AllReadyH.nil
                exact AllReadyH.nil
          · obtain rfl : i = m := by omega
            have htk : l.take i = l := by rw [← HM.out, List.take_length]
            have hacc := HACC.out
            rw [htk] at hacc
            have hz := HYES.out (by omega) (by first | rfl | trivial) (fun j g hg => HYS.out j g (by rw [← HM.out]; exact (List.getElem?_eq_some_iff.1 hg).1) hg) s1 hacc
            obtain ⟨rfl, rfl⟩ : N1 = s1 ∧ N2 = true := by simpa using hz
            clear hz hacc htk
            go_wp2
            go_ret2
            exact ⟨by first | rfl | trivial, hbr⟩
end Go.Proofs.Ytbhkbjnmpaebdaa
