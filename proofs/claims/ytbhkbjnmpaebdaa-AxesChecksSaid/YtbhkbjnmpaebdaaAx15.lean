/- The reference: Check. No conditions. -/
import Derived.Test.YtbhkbjnmpaebdaaAx5
import Derived.Test.YtbhkbjnmpaebdaaAx9
import Derived.Test.YtbhkbjnmpaebdaaAx12
import Derived.Deep.Cut
namespace Go.Proofs.Ytbhkbjnmpaebdaa
set_option maxRecDepth 100000
set_option linter.unusedVariables false
open Go.RowKit Go.Deep
set_option maxHeartbeats 16000000 in
theorem rcheck_any (x : AX.Ax) (v : Value) (w : World) (hl : x.map.length ≤ 1000000000000) (hs : x.name.size ≤ 1000000000000) (hv : PrAt w v x.map) :
    Calls Try.prog 15 #[AxV v x] w fun e w' => e = .returned (.int .i64 (AX.check x)) ∧ Below w.heap.size w w' := by
  obtain ⟨r, hr⟩ : ∃ r, AX.isName x.name = r := ⟨_, rfl⟩
  have HNM : Hid (∀ V, Calls Try.prog 46 #[.string x.name] V fun e w' => e = .returned (.bool r) ∧ w' = V) := Lib.hid fun V => by
    have := rName_any x.name V hs
    rwa [hr] at this
  have KN : Hid (r = false → AX.check x = 36) := Lib.hid fun h => AX.check_name (by rw [hr]; exact h)
  have K10' : Hid (r = true → (x.lo < -10000 ∨ x.de < x.lo ∨ x.hi < x.de ∨ 10000 < x.hi ∨ AX.isMap x = false) → AX.check x = 10) := Lib.hid fun h h2 => AX.check_axis (by rw [hr]; exact h) h2
  have K0' : Hid (r = true → ¬ (x.lo < -10000 ∨ x.de < x.lo ∨ x.hi < x.de ∨ 10000 < x.hi ∨ AX.isMap x = false) → AX.check x = 0) := Lib.hid fun h h2 => AX.check_ok (by rw [hr]; exact h) h2
  clear hr hs
  obtain ⟨A, hA⟩ : ∃ A, AX.check x = A := ⟨_, rfl⟩
  rw [hA] at KN K10' K0' ⊢
  clear hA
  obtain ⟨nm, lo, de, hi, l⟩ := x
  simp only at hl hv HNM K10' K0'
  obtain ⟨a, c, rfl, hc⟩ := hv
  obtain ⟨m, hm⟩ : ∃ m, l.length = m := ⟨_, rfl⟩
  have HM := Lib.hid hm
  rw [hm] at hl ⊢
  show Calls Try.prog 15 #[.agg #[.string nm, .int .i64 lo, .int .i64 de, .int .i64 hi, .slice a m c]] w _
  have HE : Hid (¬ (1 ≤ m ∧ m ≤ 6 ∧ (l.getD 0 (0, 0)).1 = lo ∧ (l.getD (m - 1) (0, 0)).1 = hi) → AX.isMap ⟨nm, lo, de, hi, l⟩ = false) := Lib.hid fun h => AX.ends_no (by
    rw [Bool.eq_false_iff]
    intro h2
    have := (AX.ends_iff _).1 h2
    simp only at this
    rw [hm] at this
    exact h this)
  go_enter Try.func15, Try.ntmps15
  go_wp2_with fail
  obtain ⟨B, hB⟩ : ∃ B, w.heap.size = B := ⟨_, rfl⟩
  obtain ⟨W0, hW0⟩ : ∃ W0, w.alloc (.cells #[.string nm, .int .i64 lo, .int .i64 de, .int .i64 hi, .slice a m c] 24) = W0 := ⟨_, rfl⟩
  have hbx : W0.heap[B]? = some (.cells #[.string nm, .int .i64 lo, .int .i64 de, .int .i64 hi, .slice a m c] 24 (0, 0)) := by rw [← hW0, ← hB]; exact heap_alloc_new w _
  have hb0 : Below w.heap.size w W0 := by rw [← hW0]; exact balloc (Below.refl _ _) _
  (try rw [hW0])
  (try rw [hB])
  have c1 : W0.cell? ⟨B, 1, none⟩ = some (.int .i64 lo) := by simp [World.cell?, hbx]
  have c2 : W0.cell? ⟨B, 2, none⟩ = some (.int .i64 de) := by simp [World.cell?, hbx]
  have c3 : W0.cell? ⟨B, 3, none⟩ = some (.int .i64 hi) := by simp [World.cell?, hbx]
  have c4 : W0.cell? ⟨B, 4, none⟩ = some (.slice a m c) := by simp [World.cell?, hbx]
  have HB0 := Lib.hid hb0
  have HB := Lib.hid hB
  clear hm hW0 hB hb0
  refine (HNM.out _).mono ?_
  rintro e w1 ⟨rfl, he⟩
  have he' := he.symm
  subst he'
  clear he
  cases r with
  | false =>
    have HV := Lib.hid (KN.out rfl)
    go_wp2
    go_ret
    exact ⟨by rw [HV.out]; rfl, HB0.out⟩
  | true =>
   have K10 : Hid ((lo < -10000 ∨ de < lo ∨ hi < de ∨ 10000 < hi ∨ AX.isMap ⟨nm, lo, de, hi, l⟩ = false) → A = 10) := Lib.hid (K10'.out rfl)
   have K0 : Hid (¬ (lo < -10000 ∨ de < lo ∨ hi < de ∨ 10000 < hi ∨ AX.isMap ⟨nm, lo, de, hi, l⟩ = false) → A = 0) := Lib.hid (K0'.out rfl)
   by_cases j1 : lo < -10000
   · have dj1 : decide (lo < -10000) = true := decide_eq_true j1
     have HV := Lib.hid (K10.out (.inl j1))
     go_wp2_with fail
     go_quiet (fail)
     go_wp2
     go_ret
     exact ⟨by rw [HV.out]; rfl, below_drewN HB0.out _⟩
   have dj1 : decide (lo < -10000) = false := decide_eq_false j1
   by_cases j2 : de < lo
   · have dj2 : decide (de < lo) = true := decide_eq_true j2
     have HV := Lib.hid (K10.out (.inr (.inl j2)))
     go_wp2_with fail
     go_quiet (fail)
     go_wp2
     go_ret
     exact ⟨by rw [HV.out]; rfl, below_drewN HB0.out _⟩
   have dj2 : decide (de < lo) = false := decide_eq_false j2
   by_cases j3 : hi < de
   · have dj3 : decide (hi < de) = true := decide_eq_true j3
     have HV := Lib.hid (K10.out (.inr (.inr (.inl j3))))
     go_wp2_with fail
     go_quiet (fail)
     go_wp2
     go_ret
     exact ⟨by rw [HV.out]; rfl, below_drewN HB0.out _⟩
   have dj3 : decide (hi < de) = false := decide_eq_false j3
   by_cases j4 : 10000 < hi
   · have dj4 : decide (10000 < hi) = true := decide_eq_true j4
     have HV := Lib.hid (K10.out (.inr (.inr (.inr (.inl j4)))))
     go_wp2_with fail
     go_quiet (fail)
     go_wp2
     go_ret
     exact ⟨by rw [HV.out]; rfl, below_drewN HB0.out _⟩
   have dj4 : decide (10000 < hi) = false := decide_eq_false j4
   by_cases k1 : m < 1
   · have e1 : (m : Int) < 1 := by omega
     have de1 : decide ((m : Int) < 1) = true := decide_eq_true e1
     have HV := Lib.hid (K10.out (.inr (.inr (.inr (.inr (HE.out (by omega)))))))
     go_wp2_with fail
     go_quiet (fail)
     go_wp2
     go_ret
     exact ⟨by rw [HV.out]; rfl, below_drewN HB0.out _⟩
   · have e1 : ¬ (m : Int) < 1 := by omega
     have de1 : decide ((m : Int) < 1) = false := decide_eq_false e1
     by_cases k2 : 6 < m
     · have e2 : (6 : Int) < (m : Int) := by omega
       have de2 : decide ((6 : Int) < (m : Int)) = true := decide_eq_true e2
       have HV := Lib.hid (K10.out (.inr (.inr (.inr (.inr (HE.out (by omega)))))))
       go_wp2_with fail
       go_quiet (fail)
       go_wp2
       go_ret
       exact ⟨by rw [HV.out]; rfl, below_drewN HB0.out _⟩
     · have e2 : ¬ (6 : Int) < (m : Int) := by omega
       have de2 : decide ((6 : Int) < (m : Int)) = false := decide_eq_false e2
       rcases hc with h | ⟨g, o, rfl, hg, hcl⟩
       · exfalso
         have := HM.out
         rw [h] at this
         simp at this
         omega
       obtain ⟨q, hq⟩ : ∃ q, m - 1 = q := ⟨_, rfl⟩
       obtain ⟨p, hp⟩ : ∃ p, l[0]? = some p := ⟨l[0]'(by rw [HM.out]; omega), List.getElem?_eq_getElem _⟩
       obtain ⟨z, hz⟩ : ∃ z, l[q]? = some z := ⟨l[q]'(by rw [HM.out]; omega), List.getElem?_eq_getElem _⟩
       have hgp : l.getD 0 (0, 0) = p := by rw [List.getD_eq_getElem?_getD, hp]; rfl
       have hgz : l.getD q (0, 0) = z := by rw [List.getD_eq_getElem?_getD, hz]; rfl
       rw [hgp, hq, hgz] at HE
       obtain ⟨p0, -⟩ := hcl 0 p hp
       obtain ⟨z0, -⟩ := hcl q z hz
       rw [Nat.zero_mul, Nat.add_zero] at p0
       replace p0 := (HB0.out.cell (p := ⟨g, o, none⟩) hg).trans p0
       replace z0 := (HB0.out.cell (p := ⟨g, o + q * 2, none⟩) hg).trans z0
       have hm1 : (m : Int) - 1 = (q : Int) := by omega
       have hw1 : IntKind.i64.wrap ((q : Int)) = (q : Int) := by rw [IntKind.wrap_i64]; omega
       have hqm : (q : Int) < (m : Int) := by omega
       have hq0 : (0 : Int) ≤ (q : Int) := by omega
       have hm0 : (0 : Int) < (m : Int) := by omega
       obtain ⟨p1, p2⟩ := p
       obtain ⟨z1, z2⟩ := z
       simp only at HE p0 z0
       have HCL := Lib.hid hcl
       have HQ := Lib.hid hq
       have HGP := Lib.hid hgp
       have HGZ := Lib.hid hgz
       clear hcl hp hz hgp hgz hq
       by_cases k3 : p1 = lo
       · have e3 : (p1 != lo) = false := by simpa using k3
         by_cases k4 : z1 = hi
         · have e4 : (z1 != hi) = false := by simpa using k4
           have hen : AX.endsOk ⟨nm, lo, de, hi, l⟩ = true := (AX.ends_iff _).2 (by simp only; rw [HM.out, HQ.out]; refine ⟨by omega, by omega, ?_, ?_⟩; exact HGP.out ▸ k3; exact HGZ.out ▸ k4)
           have HEN := Lib.hid hen
           clear hen k3 k4
           go_wp2_with fail
           go_quiet (fail)
           go_wp2_with fail
           have HBW : Hid (Below w.heap.size w W0) := Lib.hid HB0.out
           go_loopw [5, 6] (fun v3 v wr => ∃ i : Nat, v = .int .i64 (i : Int) ∧ i ≤ m ∧ v3 = .bool (AX.mid (l.take i) de) ∧ Hid (∀ j, j < i → AX.ptOk l j = true) ∧ Below W0.heap.size W0 wr) (fun _ v _ => m - (intOf v).toNat)
           case atStart => exact ⟨0, rfl, Nat.zero_le _, by rw [show AX.mid (l.take 0) de = false by simp [AX.mid]], Lib.hid (fun j hj => absurd hj (Nat.not_lt_zero _)), below_drewN (Below.refl _ _) _⟩
           case round =>
             obtain ⟨i, rfl, him, rfl, HYES, hbr⟩ := hrel
             obtain ⟨b, hbb⟩ : ∃ b, AX.mid (l.take i) de = b := ⟨_, rfl⟩
             rw [hbb]
             have HBB := Lib.hid hbb
             have HBR := Lib.hid hbr
             clear hbb c1 c2 c3 c4 p0 z0 e3 e4 hm1 hw1 hqm hq0
             by_cases hin : i < m
             · have hii : (i : Int) < (m : Int) := by omega
               have hi0 : (0 : Int) ≤ (i : Int) := by omega
               obtain ⟨x, hx⟩ : ∃ x, l[i]? = some x := ⟨l[i]'(by rw [HM.out]; exact hin), List.getElem?_eq_getElem _⟩
               obtain ⟨x1, x2⟩ := x
               have hgx : l.getD i (0, 0) = (x1, x2) := by rw [List.getD_eq_getElem?_getD, hx]; rfl
               have hgW : g < W0.heap.size := Nat.lt_of_lt_of_le hg HB0.out.size
               obtain ⟨d0, d1⟩ := HCL.out i _ hx
               simp only at d0 d1
               replace d0 := (hbr.cell (p := ⟨g, o + i * 2, none⟩) hgW).trans ((HB0.out.cell (p := ⟨g, o + i * 2, none⟩) hg).trans d0)
               replace d1 := (hbr.cell (p := ⟨g, o + i * 2 + 1, none⟩) hgW).trans ((HB0.out.cell (p := ⟨g, o + i * 2 + 1, none⟩) hg).trans d1)
               have HX := Lib.hid hx
               have HGX := Lib.hid hgx
               have HBXR := Lib.hid ((hbr.block B (Array.getElem?_eq_some_iff.1 hbx).1).trans hbx)
               clear hx hgx hbr
               have c4r : wr.cell? ⟨B, 4, none⟩ = some (.slice (some ⟨g, o, none⟩) m c) := by simp [World.cell?, HBXR.out]
               go_upto_region 12 with fail
               clear c4r
               obtain ⟨P, hP⟩ : ∃ P, wr.heap.size = P := ⟨_, rfl⟩
               obtain ⟨W2, hW2⟩ : ∃ W2, wr.alloc (.cells #[.int .i64 x1, .int .i64 x2] 30) = W2 := ⟨_, rfl⟩
               have hb3 : Below wr.heap.size wr W2 := by rw [← hW2]; exact balloc (Below.refl _ _) _
               have hb2 : Below W0.heap.size W0 W2 := bnext HBR.out hb3
               have hn : W2.heap[P]? = some (.cells #[.int .i64 x1, .int .i64 x2] 30 (0, 0)) := by rw [← hW2, ← hP]; exact heap_alloc_new wr _
               have hbx2 := (hb3.block B (Array.getElem?_eq_some_iff.1 HBXR.out).1).trans HBXR.out
               rw [hW2, hP]
               have n0 : W2.cell? ⟨P, 0, none⟩ = some (.int .i64 x1) := by simp [World.cell?, hn]
               have n1 : W2.cell? ⟨P, 1, none⟩ = some (.int .i64 x2) := by simp [World.cell?, hn]
               have c2 : W2.cell? ⟨B, 2, none⟩ = some (.int .i64 de) := by simp [World.cell?, hbx2]
               have c4 : W2.cell? ⟨B, 4, none⟩ = some (.slice (some ⟨g, o, none⟩) m c) := by simp [World.cell?, hbx2]
               have HB2 := Lib.hid hb2
               obtain ⟨r, hr⟩ : ∃ r, AX.coord x2 = r := ⟨_, rfl⟩
               have HR := Lib.hid hr
               clear hP hW2 hb3 hb2 hn hbx2 d0 d1 hr
               cases r with
               | false =>
                 have HPT : AX.ptOk l i = false := by unfold AX.ptOk; rw [HGX.out]; simp only; rw [HR.out]; rfl
                 have hv : A = 10 := K10.out (.inr (.inr (.inr (.inr (AX.pt_no (j := i) (by rw [HM.out]; exact hin) HPT)))))
                 have HV := Lib.hid hv
                 clear hv HPT
                 go_wp2_with fail
                 refine (rcoord_c HR.out _).mono ?_
                 rintro e w9 ⟨rfl, he9⟩
                 have he9' := he9.symm
                 subst he9'
                 clear he9
                 go_wp2_with fail
                 go_quiet (fail)
                 go_wp2
                 go_ret
                 exact ⟨by rw [HV.out]; rfl, below_drewN (bnext HBW.out HB2.out) _⟩
               | true =>
                 by_cases k5 : 0 < i
                 · have e5 : (0 : Int) < (i : Int) := by omega
                   obtain ⟨j, hj⟩ : ∃ j, i - 1 = j := ⟨_, rfl⟩
                   have hij : (i : Int) - 1 = (j : Int) := by omega
                   have hwj : IntKind.i64.wrap (j : Int) = (j : Int) := by rw [IntKind.wrap_i64]; omega
                   have hjm : (j : Int) < (m : Int) := by omega
                   have hj0 : (0 : Int) ≤ (j : Int) := by omega
                   obtain ⟨y, hy⟩ : ∃ y, l[j]? = some y := ⟨l[j]'(by rw [HM.out]; omega), List.getElem?_eq_getElem _⟩
                   obtain ⟨y1, y2⟩ := y
                   have hgy : l.getD j (0, 0) = (y1, y2) := by rw [List.getD_eq_getElem?_getD, hy]; rfl
                   obtain ⟨d0, d1⟩ := HCL.out j _ hy
                   simp only at d0 d1
                   have hg2 := Nat.lt_of_lt_of_le hgW (Nat.le_refl _)
                   replace d0 := (HB2.out.cell (p := ⟨g, o + j * 2, none⟩) hgW).trans ((HB0.out.cell (p := ⟨g, o + j * 2, none⟩) hg).trans d0)
                   replace d1 := (HB2.out.cell (p := ⟨g, o + j * 2 + 1, none⟩) hgW).trans ((HB0.out.cell (p := ⟨g, o + j * 2 + 1, none⟩) hg).trans d1)
                   have HGY := Lib.hid hgy
                   have HJ := Lib.hid hj
                   have hine : decide (i = 0) = false := by simp; omega
                   have HINE := Lib.hid hine
                   clear hgy hy hj hine
                   by_cases k6 : x1 ≤ y1
                   · have hd : decide (y1 < x1 ∧ y2 ≤ x2) = false := by simp; omega
                     have HD := Lib.hid hd
                     clear hd
                     have HPT : AX.ptOk l i = false := by unfold AX.ptOk; rw [HGX.out]; simp only; rw [HR.out, HJ.out, HGY.out, HINE.out]; simp only; rw [HD.out]; rfl
                     have hv : A = 10 := K10.out (.inr (.inr (.inr (.inr (AX.pt_no (j := i) (by rw [HM.out]; exact hin) HPT)))))
                     have HV := Lib.hid hv
                     clear hv HPT
                     go_wp2_with fail
                     refine (rcoord_c HR.out _).mono ?_
                     rintro e w9 ⟨rfl, he9⟩
                     have he9' := he9.symm
                     subst he9'
                     clear he9
                     go_wp2_with fail
                     go_quiet (fail)
                     go_wp2
                     go_ret
                     exact ⟨by rw [HV.out]; rfl, below_drewN (bnext HBW.out HB2.out) _⟩
                   · by_cases k7 : x2 < y2
                     · have hd : decide (y1 < x1 ∧ y2 ≤ x2) = false := by simp; omega
                       have HD := Lib.hid hd
                       clear hd
                       have HPT : AX.ptOk l i = false := by unfold AX.ptOk; rw [HGX.out]; simp only; rw [HR.out, HJ.out, HGY.out, HINE.out]; simp only; rw [HD.out]; rfl
                       have hv : A = 10 := K10.out (.inr (.inr (.inr (.inr (AX.pt_no (j := i) (by rw [HM.out]; exact hin) HPT)))))
                       have HV := Lib.hid hv
                       clear hv HPT
                       go_wp2_with fail
                       refine (rcoord_c HR.out _).mono ?_
                       rintro e w9 ⟨rfl, he9⟩
                       have he9' := he9.symm
                       subst he9'
                       clear he9
                       go_wp2_with fail
                       go_quiet (fail)
                       go_wp2
                       go_ret
                       exact ⟨by rw [HV.out]; rfl, below_drewN (bnext HBW.out HB2.out) _⟩
                     · have hd : decide (y1 < x1 ∧ y2 ≤ x2) = true := by simp; omega
                       have HD := Lib.hid hd
                       clear hd
                       have HPT : AX.ptOk l i = true := by unfold AX.ptOk; rw [HGX.out]; simp only; rw [HR.out, HJ.out, HGY.out, HINE.out]; simp only; rw [HD.out]; rfl
                       have HALL : Hid (∀ j, j < i + 1 → AX.ptOk l j = true) := Lib.hid (fun j hj => by
                         by_cases e : j = i
                         · rw [e]; exact HPT
                         · exact HYES.out j (by omega))
                       clear HPT
                       go_wp2_with fail
                       refine (rcoord_c HR.out _).mono ?_
                       rintro e w9 ⟨rfl, he9⟩
                       have he9' := he9.symm
                       subst he9'
                       clear he9
                       go_wp2_with fail
                       go_quiet (fail)
                       cases b with
                       | true =>
                         have HMT : Hid (AX.mid (l.take (i + 1)) de = true) := Lib.hid (by rw [AX.mid_take HX.out, HBB.out]; rfl)
                         go_wp2
                         go_roundw
                         case rel => exact ⟨i + 1, by simp, by omega, by rw [HMT.out], HALL, below_drewN HB2.out _⟩
                         case measure => simp [intOf]; omega
                       | false =>
                         have heq := fun V => eq_two V x1 x2 de 0
                         obtain ⟨eb, heb⟩ : ∃ eb, (x1 == de && x2 == 0) = eb := ⟨_, rfl⟩
                         rw [heb] at heq
                         have HMT : Hid (AX.mid (l.take (i + 1)) de = eb) := Lib.hid (by rw [AX.mid_take HX.out, HBB.out, ← heb]; rfl)
                         clear heb
                         go_wp2
                         go_roundw
                         case rel => exact ⟨i + 1, by simp, by omega, by rw [HMT.out], HALL, below_drewN HB2.out _⟩
                         case measure => simp [intOf]; omega
                 · have e5 : ¬ (0 : Int) < (i : Int) := by omega
                   have hine : decide (i = 0) = true := by simp; omega
                   have HINE := Lib.hid hine
                   clear hine
                   have HPT : AX.ptOk l i = true := by unfold AX.ptOk; rw [HGX.out]; simp only; rw [HR.out, HINE.out]; rfl
                   have HALL : Hid (∀ j, j < i + 1 → AX.ptOk l j = true) := Lib.hid (fun j hj => by
                     by_cases e : j = i
                     · rw [e]; exact HPT
                     · exact HYES.out j (by omega))
                   clear HPT
                   go_wp2_with fail
                   refine (rcoord_c HR.out _).mono ?_
                   rintro e w9 ⟨rfl, he9⟩
                   have he9' := he9.symm
                   subst he9'
                   clear he9
                   go_wp2_with fail
                   go_quiet (fail)
                   cases b with
                   | true =>
                     have HMT : Hid (AX.mid (l.take (i + 1)) de = true) := Lib.hid (by rw [AX.mid_take HX.out, HBB.out]; rfl)
                     go_wp2
                     go_roundw
                     case rel => exact ⟨i + 1, by simp, by omega, by rw [HMT.out], HALL, below_drewN HB2.out _⟩
                     case measure => simp [intOf]; omega
                   | false =>
                     have heq := fun V => eq_two V x1 x2 de 0
                     obtain ⟨eb, heb⟩ : ∃ eb, (x1 == de && x2 == 0) = eb := ⟨_, rfl⟩
                     rw [heb] at heq
                     have HMT : Hid (AX.mid (l.take (i + 1)) de = eb) := Lib.hid (by rw [AX.mid_take HX.out, HBB.out, ← heb]; rfl)
                     clear heb
                     go_wp2
                     go_roundw
                     case rel => exact ⟨i + 1, by simp, by omega, by rw [HMT.out], HALL, below_drewN HB2.out _⟩
                     case measure => simp [intOf]; omega
             · obtain rfl : i = m := by omega
               have hmp : AX.isMap ⟨nm, lo, de, hi, l⟩ = b := by
                 rw [AX.map_yes HEN.out (fun j hj => HYES.out j (by rw [← HM.out]; exact hj))]
                 simp only
                 rw [← HBB.out, ← HM.out, List.take_length]
               have hv : A = if b = false then 10 else 0 := by
                 cases b with
                 | false => exact K10.out (.inr (.inr (.inr (.inr hmp))))
                 | true => exact K0.out (by rw [hmp]; simp; omega)
               have HV := Lib.hid hv
               clear hv hmp
               cases b with
               | false =>
                 go_wp2
                 go_ret
                 exact ⟨by rw [HV.out]; rfl, bnext HBW.out HBR.out⟩
               | true =>
                 go_wp2
                 go_ret
                 exact ⟨by rw [HV.out]; rfl, bnext HBW.out HBR.out⟩
         · have e4 : (z1 != hi) = true := by simpa using k4
           have HV := Lib.hid (K10.out (.inr (.inr (.inr (.inr (HE.out (by omega)))))))
           go_wp2_with fail
           go_quiet (fail)
           go_wp2
           go_ret
           exact ⟨by rw [HV.out]; rfl, below_drewN HB0.out _⟩
       · have e3 : (p1 != lo) = true := by simpa using k3
         have HV := Lib.hid (K10.out (.inr (.inr (.inr (.inr (HE.out (by omega)))))))
         go_wp2_with fail
         go_quiet (fail)
         go_wp2
         go_ret
         exact ⟨by rw [HV.out]; rfl, below_drewN HB0.out _⟩
theorem rcheck_c {x : AX.Ax} {r : Int} (h : AX.check x = r) (v : Value) (w : World) (hl : x.map.length ≤ 1000000000000) (hs : x.name.size ≤ 1000000000000) (hv : PrAt w v x.map) :
    Calls Try.prog 15 #[AxV v x] w fun e w' => e = .returned (.int .i64 r) ∧ Below w.heap.size w w' := by
  have := rcheck_any x v w hl hs hv
  rwa [h] at this
end Go.Proofs.Ytbhkbjnmpaebdaa
