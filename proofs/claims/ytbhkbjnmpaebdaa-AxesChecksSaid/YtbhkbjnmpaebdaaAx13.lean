/- The reference: Scalar. No conditions. -/
import Derived.Test.YtbhkbjnmpaebdaaAx10
import Derived.Test.YtbhkbjnmpaebdaaAxSc
import Derived.Deep.RegionHeld
namespace Go.Proofs.Ytbhkbjnmpaebdaa
set_option maxRecDepth 100000
set_option linter.unusedVariables false
open Go.RowKit Go.Deep
theorem rright_c {l : List AX.Tn} {k : Int} {r : Bool} (h : AX.right l k = r) (v : Value) (w : World) (hl : l.length ≤ 1000000000000) (hv : TnAt w v l) :
    Calls Try.prog 24 #[.agg #[v], .int .i64 k] w fun e w' => e = .returned (.bool r) ∧ Below w.heap.size w w' := by
  have := rright_any l v k w hl hv
  rwa [h] at this
theorem rcoords_c {l : List Int} {r : Bool} (h : AX.coords l = r) (v : Value) (w : World) (hl : l.length ≤ 1000000000000) (hv : InAt w v l) :
    Calls Try.prog 60 #[v] w fun e w' => e = .returned (.bool r) ∧ w' = w := by
  have := rcoords_any l v w hl hv.row
  rwa [h] at this
theorem rtimes_c {p s : Int × Int} {r : (Int × Int) × Bool} (h : F.FP.timesS p.1 p.2 s.1 s.2 = r) (w : World) :
    Calls Try.prog 61 #[.agg #[.int .i64 p.1, .int .i64 p.2], .agg #[.int .i64 s.1, .int .i64 s.2]] w fun e w' => e = .returned (.tuple #[.agg #[.int .i64 r.1.1, .int .i64 r.1.2], .bool r.2]) ∧ Below w.heap.size w w' := by
  have := F.rtimes_any p.1 p.2 s.1 s.2 w
  rwa [h] at this
theorem prod_take {xs : List (AX.Tn × Int)} {i : Nat} {x : AX.Tn × Int} (hx : xs[i]? = some x) : AX.prod (xs.take (i + 1)) = (F.FP.timesS (AX.prod (xs.take i)).1 (AX.prod (xs.take i)).2 (AX.strength x.1 x.2).1 (AX.strength x.1 x.2).2).1 := by
  rw [List.take_add_one, hx]
  exact AX.prod_snoc _ _
set_option maxHeartbeats 8000000 in
theorem rscalar_any (l : List AX.Tn) (at' : List Int) (v va : Value) (w : World) (hl : l.length ≤ 1000000000000) (hal : at'.length ≤ 1000000000000) (hv : TnAt w v l) (ha : InAt w va at') :
    Calls Try.prog 26 #[.agg #[v], va] w fun e w' => e = .returned (.agg #[.int .i64 (AX.scalar l at').1, .int .i64 (AX.scalar l at').2]) ∧ Below w.heap.size w w' := by
  have HV : Hid (∀ V, Below w.heap.size w V → TnAt V v l) := Lib.hid fun V hV => hv.keep hV
  have HA : Hid (∀ V, Below w.heap.size w V → InAt V va at') := Lib.hid fun V hV => ha.keep hV
  obtain ⟨a, c, rfl, -⟩ := hv
  obtain ⟨aa, ac, rfl, -⟩ := ha
  obtain ⟨m, hm⟩ : ∃ m, l.length = m := ⟨_, rfl⟩
  obtain ⟨k, hk⟩ : ∃ k, at'.length = k := ⟨_, rfl⟩
  have HM := Lib.hid hm
  have HK := Lib.hid hk
  rw [hm] at hl HV ⊢
  rw [hk] at hal HA ⊢
  obtain ⟨⟨A1, A2⟩, hA⟩ : ∃ A, AX.scalar l at' = A := ⟨_, rfl⟩
  rw [hA]
  have HAN := Lib.hid hA
  obtain ⟨r1, hr1⟩ : ∃ r, AX.right l (k : Int) = r := ⟨_, rfl⟩
  obtain ⟨r2, hr2⟩ : ∃ r, AX.coords at' = r := ⟨_, rfl⟩
  have CR : Hid (∀ V, Below w.heap.size w V → Calls Try.prog 24 #[.agg #[.slice a m c], .int .i64 (k : Int)] V fun e w' => e = .returned (.bool r1) ∧ Below V.heap.size V w') := Lib.hid fun V hV => rright_c hr1 _ _ (by rw [HM.out]; exact hl) (HV.out V hV)
  have CC : Hid (∀ V, Below w.heap.size w V → Calls Try.prog 60 #[.slice aa k ac] V fun e w' => e = .returned (.bool r2) ∧ w' = V) := Lib.hid fun V hV => rcoords_c hr2 _ _ (by rw [HK.out]; exact hal) (HA.out V hV)
  have HR1 := Lib.hid hr1
  have HR2 := Lib.hid hr2
  clear hm hk hr1 hr2 hA
  go_enter Try.func26, Try.ntmps26
  go_wp2_with fail
  obtain ⟨W0, hW0⟩ : ∃ W0, (w.alloc (.cells #[.slice a m c] 42)).alloc (.cells #[.int .i64 0, .int .i64 0] 50) = W0 := ⟨_, rfl⟩
  obtain ⟨B, hB⟩ : ∃ B, w.heap.size = B := ⟨_, rfl⟩
  have hs1 : ScB W0 (B + 1) (0, 0) := by rw [← hW0, ← hB]; have := heap_alloc_new (w.alloc (.cells #[.slice a m c] 42)) (.cells #[.int .i64 0, .int .i64 0] 50); rw [World.size_alloc] at this; exact this
  have hv0 : W0.heap[B]? = some (.cells #[.slice a m c] 42 (0, 0)) := by rw [← hW0, ← hB]; exact (Below.heap_alloc _ _ _ (by simp)).trans (heap_alloc_new w _)
  have hb0 : Below w.heap.size w W0 := by rw [← hW0]; exact balloc (balloc (Below.refl _ _) _) _
  rw [hW0, hB]
  have HB := Lib.hid hB
  clear hW0 hB
  refine (CR.out _ hb0).mono ?_
  rintro e w1 ⟨rfl, k1⟩
  have hs1' := hs1.keep k1
  have hv1 := (k1.block B (Array.getElem?_eq_some_iff.1 hv0).1).trans hv0
  have hbw1 := bnext hb0 k1
  go_wp2_with fail
  refine (CC.out _ hbw1).mono ?_
  rintro e w2 ⟨rfl, rfl⟩
  have HBW1 := Lib.hid hbw1
  by_cases hyn : r1 = true ∧ r2 = true
  · obtain ⟨rfl, rfl⟩ := hyn
    go_wp2_with fail
    obtain ⟨C, hC⟩ : ∃ C, w2.heap.size = C := ⟨_, rfl⟩
    obtain ⟨W4, hW4⟩ : ∃ W4, w2.alloc (.cells #[.int .i64 1, .int .i64 1] 50) = W4 := ⟨_, rfl⟩
    have hs4 : ScB W4 C (1, 1) := by rw [← hW4, ← hC]; exact heap_alloc_new w2 _
    have hb4 : Below C w2 W4 := by rw [← hW4, ← hC]; exact balloc (Below.refl _ _) _
    have HC := Lib.hid hC
    have hBC : B + 1 < C := by have := hs1'.lt; omega
    rw [hW4, hC]
    have hkm : m = k := by
      have := ((AX.right_iff _ _).1 HR1.out).1.2.2
      rw [HM.out] at this
      omega
    have HMK := Lib.hid hkm
    have HZL : Hid ((l.zip at').length = k) := Lib.hid (by rw [List.length_zip, HK.out, HM.out, hkm, Nat.min_self])
    clear hkm hC hW4
    go_loopw [8] (fun v wr => ∃ i : Nat, v = .int .i64 (i : Int) ∧ i ≤ k ∧ ScB wr C (AX.prod ((l.zip at').take i)) ∧ Below C w2 wr) (fun v _ => k - (intOf v).toNat)
    case atStart => exact ⟨0, rfl, Nat.zero_le _, hs4, hb4⟩
    case round =>
      obtain ⟨i, rfl, hi, hsc, hbU⟩ := hrel
      have HBU := Lib.hid hbU
      have hbW : Below w.heap.size w wr := bnext HBW1.out (by rw [HC.out]; exact hbU)
      by_cases hin : i < k
      · have hii : (i : Int) < (k : Int) := by omega
        have hi0 : (0 : Int) ≤ (i : Int) := by omega
        have him : (i : Int) < (m : Int) := by have := HMK.out; omega
        obtain ⟨x, hx⟩ : ∃ x, (l.zip at')[i]? = some x := ⟨(l.zip at')[i]'(by rw [HZL.out]; exact hin), List.getElem?_eq_getElem _⟩
        have hx2 := List.getElem?_zip_eq_some.1 hx
        obtain ⟨⟨xf, xp, xq⟩, xn⟩ := x
        have htn : AX.tent (xf, xp, xq) = true := ((AX.right_iff _ _).1 HR1.out).2 _ (List.mem_of_getElem? hx2.1)
        have hco : AX.coord xn = true := ((AX.coords_iff _).1 HR2.out).1 _ (List.mem_of_getElem? hx2.2)
        have hpr := prod_take hx
        obtain ⟨⟨p1, p2⟩, hp⟩ : ∃ p, AX.prod ((l.zip at').take i) = p := ⟨_, rfl⟩
        obtain ⟨⟨s1, s2⟩, hs⟩ : ∃ p, AX.strength (xf, xp, xq) xn = p := ⟨_, rfl⟩
        simp only at hpr
        rw [hp, hs] at hpr
        rw [hp] at hsc
        obtain ⟨⟨⟨r1, r2⟩, rb⟩, hr1⟩ : ∃ r, F.FP.timesS p1 p2 s1 s2 = r := ⟨_, rfl⟩
        simp only at hpr
        rw [hr1] at hpr
        have CS : Hid (∀ V, Calls Try.prog 62 #[.agg #[.int .i64 xf, .int .i64 xp, .int .i64 xq], .int .i64 xn] V fun e w' => e = .returned (.agg #[.int .i64 s1, .int .i64 s2]) ∧ Below V.heap.size V w') := Lib.hid fun V => rstr_c hs V htn hco
        have CT : Hid (∀ V, Calls Try.prog 61 #[.agg #[.int .i64 p1, .int .i64 p2], .agg #[.int .i64 s1, .int .i64 s2]] V fun e w' => e = .returned (.tuple #[.agg #[.int .i64 r1, .int .i64 r2], .bool rb]) ∧ Below V.heap.size V w') := Lib.hid fun V => rtimes_c (p := (p1, p2)) (s := (s1, s2)) hr1 V
        have HPR := Lib.hid hpr
        obtain ⟨aw, cw, e1, hc⟩ := HV.out w2 HBW1.out
        obtain ⟨aw', cw', e1', hc'⟩ := HA.out w2 HBW1.out
        rw [HM.out] at e1
        rw [HK.out] at e1'
        injection e1 with e1 e2 e3
        injection e1' with e1' e2' e3'
        subst e1 e3 e1' e3'
        rcases hc with h | ⟨g, o, rfl, hg, hcl⟩
        · rw [h] at hx2
          simp at hx2
        rcases hc' with h | ⟨g', o', rfl, hg', hcl'⟩
        · rw [h] at hx2
          simp at hx2
        have hxb := hcl' i _ hx2.2
        obtain ⟨xa0, xa1, xa2⟩ := hcl i _ hx2.1
        simp only at hxb xa0 xa1 xa2
        have hgC : g < C := by rw [← HC.out]; exact hg
        have hgC' : g' < C := by rw [← HC.out]; exact hg'
        have v0 : w2.cell? ⟨B, 0, none⟩ = some (.slice (some ⟨g, o, none⟩) m c) := by simp [World.cell?, hv1]
        have HSS : Hid (∀ V, Below C w2 V → (fun w' => w'.cell? ⟨B, 0, none⟩ = some (.slice (some ⟨g, o, none⟩) m c) ∧ w'.cell? ⟨g, o + i * 3, none⟩ = some (.int .i64 xf) ∧ w'.cell? ⟨g, o + i * 3 + 1, none⟩ = some (.int .i64 xp) ∧ w'.cell? ⟨g, o + i * 3 + 2, none⟩ = some (.int .i64 xq) ∧ w'.cell? ⟨g', o' + i, none⟩ = some (.int .i64 xn)) V) := Lib.hid fun V hV => ⟨(hV.cell (p := ⟨B, 0, none⟩) (by show B < C; omega)).trans v0, (hV.cell (p := ⟨g, o + i * 3, none⟩) hgC).trans xa0, (hV.cell (p := ⟨g, o + i * 3 + 1, none⟩) hgC).trans xa1, (hV.cell (p := ⟨g, o + i * 3 + 2, none⟩) hgC).trans xa2, (hV.cell (p := ⟨g', o' + i, none⟩) hgC').trans hxb⟩
        have hup : Hid (∀ V, Below wr.heap.size wr V → Below C w2 V) := Lib.hid fun V hV => by
          have := bnext (w := w2) (by rw [HC.out]; exact HBU.out) hV
          rwa [HC.out] at this
        have HKS : Hid (∀ V, Below wr.heap.size wr V → (fun w' => w'.cell? ⟨B, 0, none⟩ = some (.slice (some ⟨g, o, none⟩) m c) ∧ w'.cell? ⟨g, o + i * 3, none⟩ = some (.int .i64 xf) ∧ w'.cell? ⟨g, o + i * 3 + 1, none⟩ = some (.int .i64 xp) ∧ w'.cell? ⟨g, o + i * 3 + 2, none⟩ = some (.int .i64 xq) ∧ w'.cell? ⟨g', o' + i, none⟩ = some (.int .i64 xn)) V) := Lib.hid fun V hV => HSS.out V (hup.out V hV)
        have HKT : Hid (∀ (V : World) (y1 y2 : Value), Below wr.heap.size wr V → (fun w' => w'.cell? ⟨B, 0, none⟩ = some (.slice (some ⟨g, o, none⟩) m c) ∧ w'.cell? ⟨g, o + i * 3, none⟩ = some (.int .i64 xf) ∧ w'.cell? ⟨g, o + i * 3 + 1, none⟩ = some (.int .i64 xp) ∧ w'.cell? ⟨g, o + i * 3 + 2, none⟩ = some (.int .i64 xq) ∧ w'.cell? ⟨g', o' + i, none⟩ = some (.int .i64 xn)) ((V.setCell ⟨C, 0, none⟩ y1).setCell ⟨C, 1, none⟩ y2)) := Lib.hid fun V y1 y2 hV => HSS.out _ (by
          have := bset (bset (bnext (w := w2) (by rw [HC.out]; exact HBU.out) hV) (p := ⟨C, 0, none⟩) (by rw [HC.out]; exact Nat.le_refl _) y1) (p := ⟨C, 1, none⟩) (by rw [HC.out]; exact Nat.le_refl _) y2
          rwa [HC.out] at this)
        have hsx := HKS.out wr (Below.refl _ _)
        obtain ⟨c0, c1⟩ := hsc.cells
        clear hp hs hr1 hpr hx hx2 htn hco hbU hbW hcl hcl' hxb xa0 xa1 xa2 v0 e2 e2' hgC hgC' hg hg'
        go_wp2_with fail
        refine wp_region_held_drew (S := fun w' => w'.cell? ⟨B, 0, none⟩ = some (.slice (some ⟨g, o, none⟩) m c) ∧ w'.cell? ⟨g, o + i * 3, none⟩ = some (.int .i64 xf) ∧ w'.cell? ⟨g, o + i * 3 + 1, none⟩ = some (.int .i64 xp) ∧ w'.cell? ⟨g, o + i * 3 + 2, none⟩ = some (.int .i64 xq) ∧ w'.cell? ⟨g', o' + i, none⟩ = some (.int .i64 xn)) (by kernel_rfl) ?_ (fun hHeld => ?_)
        · first | (refine HKS.out _ ?_; (repeat' (first | exact Below.refl _ _ | (with_reducible assumption) | (refine bnext ?_ (by with_reducible assumption)) | (refine balloc ?_ _) | (refine below_drewN ?_ _) | (refine Below.drew ?_))); done) | exact HKT.out _ _ _ hb57
        refine wpAnyH_take (i := 1) (oi := { dst := some 31, op := Op.fieldAddr 42 (Operand.tmp 2) 0, type := 0, pos := "ref.go:129", after := #[], guard := none }) (v := ?_) rfl (by kernel_rfl) (by kernel_rfl) (by kernel_rfl) (fun _ _ _ h => h) (Or.inl ⟨by rfl, ?_⟩) (by assumption) ?_
        rotate_left
        · ((intro w hSw; (try dsimp only at hSw); go_simp; (try rw [if_neg (by omega)])); try with_reducible rfl)
        (try simp only [Act.put, List.setIfInBounds_toArray, List.set_cons_zero, List.set_cons_succ])
        refine wpAnyH_take (i := 2) (oi := { dst := some 32, op := Op.load 40 (Operand.tmp 31), type := 40, pos := "ref.go:129", after := #[{ on := 1, ground := Ground.data }], guard := none }) (v := ?_) rfl (by kernel_rfl) (by kernel_rfl) (by kernel_rfl) (fun _ _ _ h => h) (Or.inl ⟨by rfl, ?_⟩) (by assumption) ?_
        rotate_left
        · ((intro w hSw; (try dsimp only at hSw); go_simp; (try rw [if_neg (by omega)])); try with_reducible rfl)
        (try simp only [Act.put, List.setIfInBounds_toArray, List.set_cons_zero, List.set_cons_succ])
        refine wpAnyH_take (i := 3) (oi := { dst := some 33, op := Op.move (Operand.tmp 8), type := 3, pos := "ref.go:129", after := #[], guard := none }) (v := ?_) rfl (by kernel_rfl) (by kernel_rfl) (by kernel_rfl) (fun _ _ _ h => h) (Or.inl ⟨by rfl, ?_⟩) (by assumption) ?_
        rotate_left
        · ((intro w hSw; (try dsimp only at hSw); go_simp; (try rw [if_neg (by omega)])); try with_reducible rfl)
        (try simp only [Act.put, List.setIfInBounds_toArray, List.set_cons_zero, List.set_cons_succ])
        refine wpAnyH_take (i := 4) (oi := { dst := some 34, op := Op.indexAddr 40 (Operand.tmp 32) (Operand.tmp 33), type := 0, pos := "ref.go:129", after := #[{ on := 2, ground := Ground.data }, { on := 3, ground := Ground.data }], guard := none }) (v := ?_) rfl (by kernel_rfl) (by kernel_rfl) (by kernel_rfl) (fun _ _ _ h => h) (Or.inl ⟨by rfl, ?_⟩) (by assumption) ?_
        rotate_left
        · ((intro w hSw; (try dsimp only at hSw); go_simp; (try rw [if_neg (by omega)])); try with_reducible rfl)
        (try simp only [Act.put, List.setIfInBounds_toArray, List.set_cons_zero, List.set_cons_succ])
        refine wpAnyH_take (i := 5) (oi := { dst := some 35, op := Op.load 71 (Operand.tmp 34), type := 71, pos := "ref.go:129", after := #[{ on := 4, ground := Ground.data }], guard := none }) (v := ?_) rfl (by kernel_rfl) (by kernel_rfl) (by kernel_rfl) (fun _ _ _ h => h) (Or.inl ⟨by rfl, ?_⟩) (by assumption) ?_
        rotate_left
        · ((intro w hSw; (try dsimp only at hSw); go_simp; (try rw [if_neg (by omega)])); try with_reducible rfl)
        (try simp only [Act.put, List.setIfInBounds_toArray, List.set_cons_zero, List.set_cons_succ])
        refine wpAnyH_take (i := 6) (oi := { dst := some 36, op := Op.move (Operand.tmp 1), type := 25, pos := "ref.go:129", after := #[], guard := none }) (v := ?_) rfl (by kernel_rfl) (by kernel_rfl) (by kernel_rfl) (fun _ _ _ h => h) (Or.inl ⟨by rfl, ?_⟩) (by assumption) ?_
        rotate_left
        · ((intro w hSw; (try dsimp only at hSw); go_simp; (try rw [if_neg (by omega)])); try with_reducible rfl)
        (try simp only [Act.put, List.setIfInBounds_toArray, List.set_cons_zero, List.set_cons_succ])
        refine wpAnyH_take (i := 7) (oi := { dst := some 37, op := Op.move (Operand.tmp 8), type := 3, pos := "ref.go:129", after := #[], guard := none }) (v := ?_) rfl (by kernel_rfl) (by kernel_rfl) (by kernel_rfl) (fun _ _ _ h => h) (Or.inl ⟨by rfl, ?_⟩) (by assumption) ?_
        rotate_left
        · ((intro w hSw; (try dsimp only at hSw); go_simp; (try rw [if_neg (by omega)])); try with_reducible rfl)
        (try simp only [Act.put, List.setIfInBounds_toArray, List.set_cons_zero, List.set_cons_succ])
        refine wpAnyH_take (i := 8) (oi := { dst := some 38, op := Op.indexAddr 25 (Operand.tmp 36) (Operand.tmp 37), type := 0, pos := "ref.go:129", after := #[{ on := 6, ground := Ground.data }, { on := 7, ground := Ground.data }], guard := none }) (v := ?_) rfl (by kernel_rfl) (by kernel_rfl) (by kernel_rfl) (fun _ _ _ h => h) (Or.inl ⟨by rfl, ?_⟩) (by assumption) ?_
        rotate_left
        · ((intro w hSw; (try dsimp only at hSw); go_simp; (try rw [if_neg (by omega)])); try with_reducible rfl)
        (try simp only [Act.put, List.setIfInBounds_toArray, List.set_cons_zero, List.set_cons_succ])
        refine wpAnyH_take (i := 9) (oi := { dst := some 39, op := Op.load 3 (Operand.tmp 38), type := 3, pos := "ref.go:129", after := #[{ on := 8, ground := Ground.data }], guard := none }) (v := ?_) rfl (by kernel_rfl) (by kernel_rfl) (by kernel_rfl) (fun _ _ _ h => h) (Or.inl ⟨by rfl, ?_⟩) (by assumption) ?_
        rotate_left
        · ((intro w hSw; (try dsimp only at hSw); go_simp; (try rw [if_neg (by omega)])); try with_reducible rfl)
        (try simp only [Act.put, List.setIfInBounds_toArray, List.set_cons_zero, List.set_cons_succ])
        refine wpAnyH_ready (rs := [0, 10]) (by kernel_rfl) (by simp) ?_
        refine AllReadyH.cons (o := { dst := some 30, op := Op.load 50 (Operand.tmp 7), type := 50, pos := "ref.go:129", after := #[], guard := none }) rfl (fun K hK => ?_) ?_
        · go_simp
          refine hK.out _ _ ?_ (fun hHeld => ?_)
          · first | (refine HKS.out _ ?_; (repeat' (first | exact Below.refl _ _ | (with_reducible assumption) | (refine bnext ?_ (by with_reducible assumption)) | (refine balloc ?_ _) | (refine below_drewN ?_ _) | (refine Below.drew ?_))); done) | exact HKT.out _ _ _ hb57
          clear hK K
          (try simp only [Act.put, List.setIfInBounds_toArray, List.set_cons_zero, List.set_cons_succ])
          refine wpAnyH_ready (rs := [10]) (by kernel_rfl) (by simp) ?_
          refine AllReadyH.cons (o := { dst := some 40, op := Op.call { callee := Callee.value (Operand.func 62), args := #[Operand.tmp 35, Operand.tmp 39], argTypes := #[71, 3] }, type := 50, pos := "ref.go:129", after := #[{ on := 5, ground := Ground.data }, { on := 9, ground := Ground.data }], guard := none }) rfl (fun K hK => ?_) ?_
          · (go_simp; go_at_call 62; refine (CS.out _).mono ?_; rintro e w5 ⟨rfl, hb5⟩; have hs5 := ScB.keep (V := wr.drew) hsc hb5; obtain ⟨d0, d1⟩ := hs5.cells; dsimp only)
            refine hK.out _ _ ?_ (fun hHeld => ?_)
            · first | (refine HKS.out _ ?_; (repeat' (first | exact Below.refl _ _ | (with_reducible assumption) | (refine bnext ?_ (by with_reducible assumption)) | (refine balloc ?_ _) | (refine below_drewN ?_ _) | (refine Below.drew ?_))); done) | exact HKT.out _ _ _ hb57
            clear hK K
            (try simp only [Act.put, List.setIfInBounds_toArray, List.set_cons_zero, List.set_cons_succ])
            refine wpAnyH_ready (rs := [11]) (by kernel_rfl) (by simp) ?_
            refine AllReadyH.cons (o := { dst := some 41, op := Op.call { callee := Callee.value (Operand.func 61), args := #[Operand.tmp 30, Operand.tmp 40], argTypes := #[50, 50] }, type := 72, pos := "ref.go:129", after := #[{ on := 0, ground := Ground.data }, { on := 10, ground := Ground.data }, { on := 10, ground := Ground.chain }], guard := none }) rfl (fun K hK => ?_) ?_
            · (go_simp; go_at_call 61; refine (CT.out _).mono ?_; rintro e w6 ⟨rfl, hb6⟩; have hs6 := ScB.keep hs5 hb6; obtain ⟨e0, e1⟩ := hs6.cells; have f0 := hs6.frozen 0; have f1 := hs6.frozen 1; have hb57 : Below wr.heap.size wr w6 := bnext (bnext (Below.drew (Below.refl _ wr)) hb5) hb6; dsimp only)
              refine hK.out _ _ ?_ (fun hHeld => ?_)
              · first | (refine HKS.out _ ?_; (repeat' (first | exact Below.refl _ _ | (with_reducible assumption) | (refine bnext ?_ (by with_reducible assumption)) | (refine balloc ?_ _) | (refine below_drewN ?_ _) | (refine Below.drew ?_))); done) | exact HKT.out _ _ _ hb57
              clear hK K
              (try simp only [Act.put, List.setIfInBounds_toArray, List.set_cons_zero, List.set_cons_succ])
              refine wpAnyH_take (i := 12) (oi := { dst := some 29, op := Op.move (Operand.tmp 41), type := 72, pos := "ref.go:129", after := #[{ on := 11, ground := Ground.data }], guard := none }) (v := ?_) rfl (by kernel_rfl) (by kernel_rfl) (by kernel_rfl) (fun _ _ _ h => h) (Or.inl ⟨by rfl, ?_⟩) (by assumption) ?_
              rotate_left
              · ((intro w hSw; (try dsimp only at hSw); go_simp; (try rw [if_neg (by omega)])); try with_reducible rfl)
              (try simp only [Act.put, List.setIfInBounds_toArray, List.set_cons_zero, List.set_cons_succ])
              refine wpAnyH_take (i := 13) (oi := { dst := some 42, op := Op.extract (Operand.tmp 29) 0, type := 50, pos := "ref.go:129", after := #[{ on := 12, ground := Ground.data }], guard := none }) (v := ?_) rfl (by kernel_rfl) (by kernel_rfl) (by kernel_rfl) (fun _ _ _ h => h) (Or.inl ⟨by rfl, ?_⟩) (by assumption) ?_
              rotate_left
              · ((intro w hSw; (try dsimp only at hSw); go_simp; (try rw [if_neg (by omega)])); try with_reducible rfl)
              (try simp only [Act.put, List.setIfInBounds_toArray, List.set_cons_zero, List.set_cons_succ])
              refine wpAnyH_take (i := 14) (oi := { dst := some 43, op := Op.extract (Operand.tmp 29) 1, type := 4, pos := "ref.go:129", after := #[{ on := 12, ground := Ground.data }, { on := 15, ground := Ground.gcOnly Departure.lateStores }], guard := none }) (v := ?_) rfl (by kernel_rfl) (by kernel_rfl) (by kernel_rfl) (fun _ _ _ h => h) (Or.inl ⟨by rfl, ?_⟩) (by assumption) ?_
              rotate_left
              · ((intro w hSw; (try dsimp only at hSw); go_simp; (try rw [if_neg (by omega)])); try with_reducible rfl)
              (try simp only [Act.put, List.setIfInBounds_toArray, List.set_cons_zero, List.set_cons_succ])
              refine wpAnyH_ready (rs := [15]) (by kernel_rfl) (by simp) ?_
              refine AllReadyH.cons (o := { dst := none, op := Op.store 50 (Operand.tmp 7) (Operand.tmp 42), type := 0, pos := "ref.go:129", after := #[{ on := 13, ground := Ground.data }, { on := 11, ground := Ground.chain }, { on := 0, ground := Ground.phase }, { on := 1, ground := Ground.phase }, { on := 2, ground := Ground.phase }, { on := 3, ground := Ground.phase }, { on := 4, ground := Ground.phase }, { on := 5, ground := Ground.phase }, { on := 6, ground := Ground.phase }, { on := 7, ground := Ground.phase }, { on := 8, ground := Ground.phase }, { on := 9, ground := Ground.phase }, { on := 10, ground := Ground.phase }, { on := 11, ground := Ground.phase }, { on := 12, ground := Ground.phase }, { on := 13, ground := Ground.phase }, { on := 14, ground := Ground.textOnly Departure.lateStores }], guard := none }) rfl (fun K hK => ?_) ?_
              · go_simp
                refine hK.out _ _ ?_ (fun hHeld => ?_)
                · first | (refine HKS.out _ ?_; (repeat' (first | exact Below.refl _ _ | (with_reducible assumption) | (refine bnext ?_ (by with_reducible assumption)) | (refine balloc ?_ _) | (refine below_drewN ?_ _) | (refine Below.drew ?_))); done) | exact HKT.out _ _ _ hb57
                clear hK K
                (try simp only [Act.put, List.setIfInBounds_toArray, List.set_cons_zero, List.set_cons_succ])
                refine wpAnyH_done (by kernel_rfl) ?_ _
                have hq6 := Lib.hid (hs6.put (r1, r2))
                have hbz := bset (bset (bnext (w := w2) (by rw [HC.out]; exact HBU.out) hb57) (p := ⟨C, 0, none⟩) (by rw [HC.out]; exact Nat.le_refl _) (.int .i64 r1)) (p := ⟨C, 1, none⟩) (by rw [HC.out]; exact Nat.le_refl _) (.int .i64 r2)
                rw [HC.out] at hbz
                have HBZ := Lib.hid hbz
                clear hbz hb57 hb5 hb6 hs5 hs6 d0 d1 e0 e1
                go_wp2
                go_roundw
                case rel => exact ⟨i + 1, by go_num, hin, by rw [HPR.out]; exact hq6.out, HBZ.out⟩
                case measure => simp [intOf]; omega
              exact AllReadyH.nil
            exact AllReadyH.nil
          exact AllReadyH.nil
        refine AllReadyH.cons (o := { dst := some 40, op := Op.call { callee := Callee.value (Operand.func 62), args := #[Operand.tmp 35, Operand.tmp 39], argTypes := #[71, 3] }, type := 50, pos := "ref.go:129", after := #[{ on := 5, ground := Ground.data }, { on := 9, ground := Ground.data }], guard := none }) rfl (fun K hK => ?_) ?_
        · (go_simp; go_at_call 62; refine (CS.out _).mono ?_; rintro e w5 ⟨rfl, hb5⟩; have hs5 := ScB.keep (V := wr.drew) hsc hb5; obtain ⟨d0, d1⟩ := hs5.cells; dsimp only)
          refine hK.out _ _ ?_ (fun hHeld => ?_)
          · first | (refine HKS.out _ ?_; (repeat' (first | exact Below.refl _ _ | (with_reducible assumption) | (refine bnext ?_ (by with_reducible assumption)) | (refine balloc ?_ _) | (refine below_drewN ?_ _) | (refine Below.drew ?_))); done) | exact HKT.out _ _ _ hb57
          clear hK K
          (try simp only [Act.put, List.setIfInBounds_toArray, List.set_cons_zero, List.set_cons_succ])
          refine wpAnyH_ready (rs := [0]) (by kernel_rfl) (by simp) ?_
          refine AllReadyH.cons (o := { dst := some 30, op := Op.load 50 (Operand.tmp 7), type := 50, pos := "ref.go:129", after := #[], guard := none }) rfl (fun K hK => ?_) ?_
          · go_simp
            refine hK.out _ _ ?_ (fun hHeld => ?_)
            · first | (refine HKS.out _ ?_; (repeat' (first | exact Below.refl _ _ | (with_reducible assumption) | (refine bnext ?_ (by with_reducible assumption)) | (refine balloc ?_ _) | (refine below_drewN ?_ _) | (refine Below.drew ?_))); done) | exact HKT.out _ _ _ hb57
            clear hK K
            (try simp only [Act.put, List.setIfInBounds_toArray, List.set_cons_zero, List.set_cons_succ])
            refine wpAnyH_ready (rs := [11]) (by kernel_rfl) (by simp) ?_
            refine AllReadyH.cons (o := { dst := some 41, op := Op.call { callee := Callee.value (Operand.func 61), args := #[Operand.tmp 30, Operand.tmp 40], argTypes := #[50, 50] }, type := 72, pos := "ref.go:129", after := #[{ on := 0, ground := Ground.data }, { on := 10, ground := Ground.data }, { on := 10, ground := Ground.chain }], guard := none }) rfl (fun K hK => ?_) ?_
            · (go_simp; go_at_call 61; refine (CT.out _).mono ?_; rintro e w6 ⟨rfl, hb6⟩; have hs6 := ScB.keep hs5 hb6; obtain ⟨e0, e1⟩ := hs6.cells; have f0 := hs6.frozen 0; have f1 := hs6.frozen 1; have hb57 : Below wr.heap.size wr w6 := bnext (bnext (Below.drew (Below.refl _ wr)) hb5) hb6; dsimp only)
              refine hK.out _ _ ?_ (fun hHeld => ?_)
              · first | (refine HKS.out _ ?_; (repeat' (first | exact Below.refl _ _ | (with_reducible assumption) | (refine bnext ?_ (by with_reducible assumption)) | (refine balloc ?_ _) | (refine below_drewN ?_ _) | (refine Below.drew ?_))); done) | exact HKT.out _ _ _ hb57
              clear hK K
              (try simp only [Act.put, List.setIfInBounds_toArray, List.set_cons_zero, List.set_cons_succ])
              refine wpAnyH_take (i := 12) (oi := { dst := some 29, op := Op.move (Operand.tmp 41), type := 72, pos := "ref.go:129", after := #[{ on := 11, ground := Ground.data }], guard := none }) (v := ?_) rfl (by kernel_rfl) (by kernel_rfl) (by kernel_rfl) (fun _ _ _ h => h) (Or.inl ⟨by rfl, ?_⟩) (by assumption) ?_
              rotate_left
              · ((intro w hSw; (try dsimp only at hSw); go_simp; (try rw [if_neg (by omega)])); try with_reducible rfl)
              (try simp only [Act.put, List.setIfInBounds_toArray, List.set_cons_zero, List.set_cons_succ])
              refine wpAnyH_take (i := 13) (oi := { dst := some 42, op := Op.extract (Operand.tmp 29) 0, type := 50, pos := "ref.go:129", after := #[{ on := 12, ground := Ground.data }], guard := none }) (v := ?_) rfl (by kernel_rfl) (by kernel_rfl) (by kernel_rfl) (fun _ _ _ h => h) (Or.inl ⟨by rfl, ?_⟩) (by assumption) ?_
              rotate_left
              · ((intro w hSw; (try dsimp only at hSw); go_simp; (try rw [if_neg (by omega)])); try with_reducible rfl)
              (try simp only [Act.put, List.setIfInBounds_toArray, List.set_cons_zero, List.set_cons_succ])
              refine wpAnyH_take (i := 14) (oi := { dst := some 43, op := Op.extract (Operand.tmp 29) 1, type := 4, pos := "ref.go:129", after := #[{ on := 12, ground := Ground.data }, { on := 15, ground := Ground.gcOnly Departure.lateStores }], guard := none }) (v := ?_) rfl (by kernel_rfl) (by kernel_rfl) (by kernel_rfl) (fun _ _ _ h => h) (Or.inl ⟨by rfl, ?_⟩) (by assumption) ?_
              rotate_left
              · ((intro w hSw; (try dsimp only at hSw); go_simp; (try rw [if_neg (by omega)])); try with_reducible rfl)
              (try simp only [Act.put, List.setIfInBounds_toArray, List.set_cons_zero, List.set_cons_succ])
              refine wpAnyH_ready (rs := [15]) (by kernel_rfl) (by simp) ?_
              refine AllReadyH.cons (o := { dst := none, op := Op.store 50 (Operand.tmp 7) (Operand.tmp 42), type := 0, pos := "ref.go:129", after := #[{ on := 13, ground := Ground.data }, { on := 11, ground := Ground.chain }, { on := 0, ground := Ground.phase }, { on := 1, ground := Ground.phase }, { on := 2, ground := Ground.phase }, { on := 3, ground := Ground.phase }, { on := 4, ground := Ground.phase }, { on := 5, ground := Ground.phase }, { on := 6, ground := Ground.phase }, { on := 7, ground := Ground.phase }, { on := 8, ground := Ground.phase }, { on := 9, ground := Ground.phase }, { on := 10, ground := Ground.phase }, { on := 11, ground := Ground.phase }, { on := 12, ground := Ground.phase }, { on := 13, ground := Ground.phase }, { on := 14, ground := Ground.textOnly Departure.lateStores }], guard := none }) rfl (fun K hK => ?_) ?_
              · go_simp
                refine hK.out _ _ ?_ (fun hHeld => ?_)
                · first | (refine HKS.out _ ?_; (repeat' (first | exact Below.refl _ _ | (with_reducible assumption) | (refine bnext ?_ (by with_reducible assumption)) | (refine balloc ?_ _) | (refine below_drewN ?_ _) | (refine Below.drew ?_))); done) | exact HKT.out _ _ _ hb57
                clear hK K
                (try simp only [Act.put, List.setIfInBounds_toArray, List.set_cons_zero, List.set_cons_succ])
                refine wpAnyH_done (by kernel_rfl) ?_ _
                have hq6 := Lib.hid (hs6.put (r1, r2))
                have hbz := bset (bset (bnext (w := w2) (by rw [HC.out]; exact HBU.out) hb57) (p := ⟨C, 0, none⟩) (by rw [HC.out]; exact Nat.le_refl _) (.int .i64 r1)) (p := ⟨C, 1, none⟩) (by rw [HC.out]; exact Nat.le_refl _) (.int .i64 r2)
                rw [HC.out] at hbz
                have HBZ := Lib.hid hbz
                clear hbz hb57 hb5 hb6 hs5 hs6 d0 d1 e0 e1
                go_wp2
                go_roundw
                case rel => exact ⟨i + 1, by go_num, hin, by rw [HPR.out]; exact hq6.out, HBZ.out⟩
                case measure => simp [intOf]; omega
              exact AllReadyH.nil
            exact AllReadyH.nil
          exact AllReadyH.nil
        exact AllReadyH.nil
      · obtain rfl : i = k := by omega
        have htk : (l.zip at').take i = l.zip at' := by rw [← HZL.out, List.take_length]
        rw [htk] at hsc
        have hyes : AX.scalar l at' = AX.prod (l.zip at') := by
          unfold AX.scalar
          rw [HK.out, HR1.out, HR2.out, if_pos ⟨rfl, rfl⟩]
        rw [← hyes, HAN.out] at hsc
        have hs1W : ScB wr (B + 1) (0, 0) := (hbU.block (B + 1) hBC).trans hs1'
        obtain ⟨c0, c1⟩ := hsc.cells
        obtain ⟨d0, d1⟩ := hs1W.cells
        have f0 := hs1W.frozen 0
        have f1 := hs1W.frozen 1
        have HZ := Lib.hid (hs1W.put (A1, A2))
        have HBR := Lib.hid (bset (bset hbW (p := ⟨B + 1, 0, none⟩) (by rw [HB.out]; exact Nat.le_succ _) (.int .i64 A1)) (p := ⟨B + 1, 1, none⟩) (by rw [HB.out]; exact Nat.le_succ _) (.int .i64 A2))
        clear hbW hbU hyes htk
        go_wp2
        refine bodyPost_ret (v := .agg #[.int .i64 A1, .int .i64 A2]) (results_cell_row Try.results26 _ _ (B + 1) 50 _ (0, 0) _ rfl HZ.out Try.underlying50 rfl (by kernel_rfl)) rfl ?_
        exact ⟨rfl, HBR.out⟩
  · have hno : AX.scalar l at' = (0, 1) := scalar_no (by rw [HK.out, HR1.out, HR2.out]; exact hyn)
    obtain ⟨rfl, rfl⟩ : 0 = A1 ∧ 1 = A2 := by have := HAN.out; rw [hno] at this; simpa using this
    obtain ⟨x0, x1⟩ := hs1'.cells
    have f0 := hs1'.frozen 0
    have f1 := hs1'.frozen 1
    have HZ := Lib.hid (hs1'.put (0, 1))
    have HBR := Lib.hid (bset (bset hbw1 (p := ⟨B + 1, 0, none⟩) (by rw [HB.out]; exact Nat.le_succ _) (.int .i64 0)) (p := ⟨B + 1, 1, none⟩) (by rw [HB.out]; exact Nat.le_succ _) (.int .i64 1))
    cases r1 with
    | false =>
      go_wp2
      refine bodyPost_ret (v := .agg #[.int .i64 0, .int .i64 1]) (results_cell_row Try.results26 _ _ (B + 1) 50 _ (0, 0) _ rfl HZ.out Try.underlying50 rfl (by kernel_rfl)) rfl ?_
      exact ⟨rfl, HBR.out⟩
    | true =>
      cases r2 with
      | false =>
        go_wp2
        refine bodyPost_ret (v := .agg #[.int .i64 0, .int .i64 1]) (results_cell_row Try.results26 _ _ (B + 1) 50 _ (0, 0) _ rfl HZ.out Try.underlying50 rfl (by kernel_rfl)) rfl ?_
        exact ⟨rfl, HBR.out⟩
      | true => exact absurd ⟨rfl, rfl⟩ hyn
end Go.Proofs.Ytbhkbjnmpaebdaa
