/- Normal of the program. No conditions. -/
import Derived.Test.YtbhkbjnmpaebdaaAx6
import Derived.Deep.RegionHeld
namespace Go.Proofs.Ytbhkbjnmpaebdaa.AX
def firstGe (l : List Pr) (u : Int) : Nat := l.findIdx (fun p => decide (u ≤ p.1))
def atMap (l : List Pr) (u : Int) : Int := if (l.getD (firstGe l u) (0, 0)).1 = u then (l.getD (firstGe l u) (0, 0)).2 else (F.FP.lineS u (l.getD (firstGe l u - 1) (0, 0)).1 (l.getD (firstGe l u - 1) (0, 0)).2 (l.getD (firstGe l u) (0, 0)).1 (l.getD (firstGe l u) (0, 0)).2).1
def normal (x : Ax) (v : Int) : Int := if check x = 0 then atMap x.map (max x.lo (min v x.hi)) else 0
theorem map_parts {x : Ax} (h : isMap x = true) : endsOk x = true ∧ (∀ j, j < x.map.length → ptOk x.map j = true) ∧ mid x.map x.de = true := by
  unfold isMap at h
  rw [Bool.and_eq_true, Bool.and_eq_true, List.all_eq_true] at h
  exact ⟨h.1, fun j hj => h.2.1 j (List.mem_range.2 hj), h.2.2⟩
theorem map_step {x : Ax} (h : isMap x = true) {j : Nat} {p q : Pr} (hp : x.map[j]? = some p) (hq : x.map[j + 1]? = some q) : p.1 < q.1 ∧ p.2 ≤ q.2 := by
  have hj := (List.getElem?_eq_some_iff.1 hq).1
  have := (map_parts h).2.1 (j + 1) hj
  unfold ptOk at this
  have e1 : x.map.getD (j + 1) (0, 0) = q := by rw [List.getD_eq_getElem?_getD, hq]; rfl
  have e2 : x.map.getD j (0, 0) = p := by rw [List.getD_eq_getElem?_getD, hp]; rfl
  rw [Nat.add_sub_cancel, e1, e2, Bool.and_eq_true, Bool.or_eq_true, decide_eq_true_iff, decide_eq_true_iff] at this
  rcases this.2 with h | h
  · omega
  · exact h
theorem map_mono {x : Ax} (h : isMap x = true) : ∀ (d j : Nat) (p q : Pr), x.map[j]? = some p → x.map[j + d]? = some q → p.1 ≤ q.1
  | 0, j, p, q, hp, hq => by rw [Nat.add_zero, hp] at hq; rw [Option.some.inj hq]; exact Int.le_refl _
  | d + 1, j, p, q, hp, hq => by
    have hj := (List.getElem?_eq_some_iff.1 hq).1
    have hr : x.map[j + d]? = some (x.map[j + d]'(by omega)) := List.getElem?_eq_getElem _
    have h1 := map_mono h d j p _ hp hr
    have h2 := (map_step h hr (by rw [← hq]; rfl)).1
    omega
theorem first_eq {l : List Pr} {u : Int} {k : Nat} {p : Pr} (hp : l[k]? = some p) (h1 : u ≤ p.1) (h2 : ∀ j q, j < k → l[j]? = some q → ¬ u ≤ q.1) : firstGe l u = k := by
  have hk := (List.getElem?_eq_some_iff.1 hp).1
  unfold firstGe
  rw [List.findIdx_eq hk]
  have e : l[k] = p := (List.getElem?_eq_some_iff.1 hp).2
  refine ⟨by rw [e]; simpa using h1, fun j hj => ?_⟩
  have := h2 j _ hj (List.getElem?_eq_getElem (by omega))
  simpa using this
end Go.Proofs.Ytbhkbjnmpaebdaa.AX
namespace Go.Proofs.Ytbhkbjnmpaebdaa
set_option maxRecDepth 100000
set_option linter.unusedVariables false
open Go.RowKit Go.Deep
theorem clamp_c {a l h : Int} {r : Int} (e : max l (min a h) = r) (w : World) : Calls Try.prog 47 #[.int .i64 a, .int .i64 l, .int .i64 h] w fun e w' => e = .returned (.int .i64 r) ∧ Below w.heap.size w w' := by
  have := F.clamp_any a l h w
  rwa [e] at this
theorem line_c {x f0 f1 t0 t1 : Int} {r : Int × Bool} (e : F.FP.lineS x f0 f1 t0 t1 = r) (w : World) :
    Calls Try.prog 18 #[.int .i64 x, .agg #[.int .i64 f0, .int .i64 f1], .agg #[.int .i64 t0, .int .i64 t1]] w fun e w' => e = .returned (.tuple #[.int .i64 r.1, .bool r.2]) ∧ Below w.heap.size w w' := by
  have := F.line_any x f0 f1 t0 t1 w
  rwa [e] at this
set_option maxHeartbeats 8000000 in
theorem normal_any (x : AX.Ax) (n : Int) (v : Value) (w : World) (hl : x.map.length ≤ 1000000000000) (hs : x.name.size ≤ 1000000000000) (hv : PrAt w v x.map) :
    Calls Try.prog 16 #[AxV v x, .int .i64 n] w fun e w' => e = .returned (.int .i64 (AX.normal x n)) ∧ Below w.heap.size w w' := by
  have HP : Hid (∀ V, Below w.heap.size w V → PrAt V v x.map) := Lib.hid fun V hV => hv.keep hV
  have HCK : Hid (∀ V, Below w.heap.size w V → Calls Try.prog 14 #[AxV v x] V fun e w' => e = .returned (.int .i64 (AX.check x)) ∧ Below V.heap.size V w') := Lib.hid fun V hV => check_any x v V hl hs (hv.keep hV)
  obtain ⟨a, c, rfl, -⟩ := hv
  obtain ⟨A, hA⟩ : ∃ A, AX.check x = A := ⟨_, rfl⟩
  rw [hA] at HCK
  obtain ⟨N, hN⟩ : ∃ N, AX.normal x n = N := ⟨_, rfl⟩
  rw [hN]
  obtain ⟨nm, lo, de, hi, l⟩ := x
  obtain ⟨m, hm⟩ : ∃ m, l.length = m := ⟨_, rfl⟩
  have HM := Lib.hid hm
  simp only [AxV] at HCK HP ⊢
  rw [hm] at HCK HP ⊢
  have HA := Lib.hid hA
  have HN := Lib.hid hN
  simp only at hl
  rw [hm] at hl
  clear hm hA hN hs
  go_enter Try.func16, Try.ntmps16
  go_wp2_with fail
  obtain ⟨B, hB⟩ : ∃ B, w.heap.size = B := ⟨_, rfl⟩
  obtain ⟨W0, hW0⟩ : ∃ W0, w.alloc (.cells #[.string nm, .int .i64 lo, .int .i64 de, .int .i64 hi, .slice a m c] 24) = W0 := ⟨_, rfl⟩
  have hbx : W0.heap[B]? = some (.cells #[.string nm, .int .i64 lo, .int .i64 de, .int .i64 hi, .slice a m c] 24 (0, 0)) := by rw [← hW0, ← hB]; exact heap_alloc_new w _
  have hb0 : Below w.heap.size w W0 := by rw [← hW0]; exact balloc (Below.refl _ _) _
  rw [hW0, hB]
  refine (HCK.out _ hb0).mono ?_
  rintro e w1 ⟨rfl, k1⟩
  have hb1 := bnext hb0 k1
  have hbx1 := (k1.block B (Array.getElem?_eq_some_iff.1 hbx).1).trans hbx
  have HB1 := Lib.hid hb1
  clear hW0 hB
  by_cases hz : A = 0
  · have hzb : (A != 0) = false := by simpa using hz
    have hck := AX.check_zero (by rw [HA.out]; exact hz)
    simp only at hck
    obtain ⟨-, q1, q2, q3, q4, hmap⟩ := hck
    obtain ⟨u, hu⟩ : ∃ u, max lo (min n hi) = u := ⟨_, rfl⟩
    have hu1 : lo ≤ u := by omega
    have hu2 : u ≤ hi := by omega
    have hends := (AX.ends_iff _).1 (AX.map_parts hmap).1
    simp only at hends
    rw [HM.out] at hends
    obtain ⟨m1, m6, h0, h9⟩ := hends
    have hNu : AX.atMap l u = N := by
      have := HN.out
      unfold AX.normal at this
      rw [if_pos (by rw [HA.out]; exact hz)] at this
      simp only at this
      rw [hu] at this
      exact this
    have CC : Hid (∀ V, Calls Try.prog 47 #[.int .i64 n, .int .i64 lo, .int .i64 hi] V fun e w' => e = .returned (.int .i64 u) ∧ Below V.heap.size V w') := Lib.hid fun V => clamp_c hu V
    have HNU := Lib.hid hNu
    have HMAP := Lib.hid hmap
    have HZ := Lib.hid hz
    have c0 : w1.cell? ⟨B, 0, none⟩ = some (.string nm) := by simp [World.cell?, hbx1]
    have c1 : w1.cell? ⟨B, 1, none⟩ = some (.int .i64 lo) := by simp [World.cell?, hbx1]
    have c3 : w1.cell? ⟨B, 3, none⟩ = some (.int .i64 hi) := by simp [World.cell?, hbx1]
    clear hu hNu hz hmap c0
    go_wp2_with fail
    refine (CC.out _).mono ?_
    rintro e w2 ⟨rfl, k2⟩
    have hbx2 := (k2.block B (Array.getElem?_eq_some_iff.1 hbx1).1).trans hbx1
    have hBw : B < w2.heap.size := (Array.getElem?_eq_some_iff.1 hbx2).1
    have c4 : (w2.alloc (.cells #[.int .i64 u] 3)).cell? ⟨B, 4, none⟩ = some (.slice a m c) := by
      rw [(balloc (Below.refl _ _) _ : Below w2.heap.size w2 (w2.alloc (.cells #[.int .i64 u] 3))).cell (p := ⟨B, 4, none⟩) hBw]
      simp [World.cell?, hbx2]
    clear c1 c3
    go_wp2_with fail
    obtain ⟨C, hC⟩ : ∃ C, w2.heap.size = C := ⟨_, rfl⟩
    obtain ⟨W3, hW3⟩ : ∃ W3, w2.alloc (.cells #[.int .i64 u] 3) = W3 := ⟨_, rfl⟩
    have hb3 : Below w2.heap.size w2 W3 := by rw [← hW3]; exact balloc (Below.refl _ _) _
    have hbx3 := (hb3.block B hBw).trans hbx2
    have hcx3 : W3.heap[C]? = some (.cells #[.int .i64 u] 3 (0, 0)) := by rw [← hW3, ← hC]; exact heap_alloc_new w2 _
    have hbw3 : Below w.heap.size w W3 := bnext (bnext HB1.out k2) hb3
    rw [hW3, hC]
    have hpt : ∀ i, i < m → l[i]? = some (l.getD i (0, 0)) := fun i hi => by
      have h := List.getElem?_eq_getElem (l := l) (i := i) (by rw [HM.out]; exact hi)
      rw [List.getD_eq_getElem?_getD, h]
      rfl
    have hmono : ∀ i j, i ≤ j → j < m → decide (u ≤ (l.getD i (0, 0)).1) = true → decide (u ≤ (l.getD j (0, 0)).1) = true := fun i j hij hj h => by
      have := AX.map_mono HMAP.out (j - i) i _ _ (hpt i (by omega)) (by rw [show i + (j - i) = j by omega]; exact hpt j hj)
      simp only [decide_eq_true_iff] at h ⊢
      omega
    have HF : Hid (∀ V, Below W3.heap.size W3 V → ∀ i, i < m → Calls Try.prog 49 #[.int .i64 (i : Int), .pointer (some ⟨B, 0, none⟩), .pointer (some ⟨C, 0, none⟩)] V fun e w' => e = .returned (.bool (decide (u ≤ (l.getD i (0, 0)).1))) ∧ ∃ n, w' = V.drewN n) := Lib.hid fun V hV i hi' => by
      have hb := (hV.block B (Array.getElem?_eq_some_iff.1 hbx3).1).trans hbx3
      have hc := (hV.block C (Array.getElem?_eq_some_iff.1 hcx3).1).trans hcx3
      have hr := HP.out V (bnext hbw3 hV)
      rw [← HM.out] at hr hb
      exact ge_any l nm lo de hi u a c B C i _ V (by rw [HM.out]; exact hl) (hpt i hi') hr hb (by simp [World.cell?, hc])
    refine (search_any m B C (fun i => decide (u ≤ (l.getD i (0, 0)).1)) W3 (by omega) hmono HF).mono ?_
    rintro e w4 ⟨k, rfl, hkm, hlow, hhi, hb4⟩
    have hk : k < m := by
      rcases Nat.lt_or_ge k m with h | h
      · exact h
      · exfalso
        have := hlow (m - 1) (by omega)
        rw [h9] at this
        simp at this
        omega
    obtain ⟨p, hp⟩ : ∃ p, l.getD k (0, 0) = p := ⟨_, rfl⟩
    have hpk := hpt k hk
    rw [hp] at hpk
    have hup := hhi hk
    rw [hp, decide_eq_true_iff] at hup
    have hfirst : AX.firstGe l u = k := AX.first_eq hpk hup (fun j q hj hq => by
      have h1 := hlow j hj
      have h2 : l.getD j (0, 0) = q := by rw [List.getD_eq_getElem?_getD, hq]; rfl
      rw [h2] at h1
      simpa using h1)
    have hbx4 := (hb4.block B (Array.getElem?_eq_some_iff.1 hbx3).1).trans hbx3
    have hcx4 := (hb4.block C (Array.getElem?_eq_some_iff.1 hcx3).1).trans hcx3
    have hbw4 : Below w.heap.size w w4 := bnext hbw3 hb4
    have hNK := HNU.out
    unfold AX.atMap at hNK
    rw [hfirst, hp] at hNK
    obtain ⟨a', c', e1, hc⟩ := HP.out w4 hbw4
    rw [HM.out] at e1
    injection e1 with e1 e2 e3
    subst e1 e3
    rcases hc with h | ⟨g, o, rfl, hg, hcl⟩
    · rw [h] at hpk
      simp at hpk
    obtain ⟨p1, p2⟩ := p
    obtain ⟨d0, d1⟩ := hcl k _ hpk
    simp only at d0 d1 hup hNK
    have c4 : w4.cell? ⟨B, 4, none⟩ = some (.slice (some ⟨g, o, none⟩) m c) := by simp [World.cell?, hbx4]
    have c5 : w4.cell? ⟨C, 0, none⟩ = some (.int .i64 u) := by simp [World.cell?, hcx4]
    have hki : (k : Int) < (m : Int) := by omega
    have hk0 : (0 : Int) ≤ (k : Int) := by omega
    have HB4 := Lib.hid hbw4
    have HNK := Lib.hid hNK
    have HCL := Lib.hid hcl
    by_cases hpu : p1 = u
    · have hpb : (p1 == u) = true := by simpa using hpu
      have hans : N = p2 := by rw [← hNK, if_pos hpu]
      have HANS := Lib.hid hans
      clear hpu hans hNK hcl hpk hpt hmono HF hlow hhi hfirst hb4 hbx4 hcx4 hp hbw4 hC hW3 hb3 hbx3 hcx3 hbw3 hup h0 h9 e2
      go_wp2_with fail
      go_quiet (fail)
      go_wp2
      go_ret
      exact ⟨by rw [HANS.out]; rfl, below_drewN HB4.out _⟩
    · have hpb : (p1 == u) = false := by simpa using hpu
      have hkp : 0 < k := by
        rcases Nat.eq_zero_or_pos k with h | h
        · exfalso
          rw [h] at hp
          rw [hp] at h0
          simp only at h0
          omega
        · exact h
      obtain ⟨j, hj⟩ : ∃ j, k - 1 = j := ⟨_, rfl⟩
      rw [hj] at hNK
      obtain ⟨y, hy⟩ : ∃ y, l.getD j (0, 0) = y := ⟨_, rfl⟩
      have hyj := hpt j (by omega)
      rw [hy] at hyj hNK
      obtain ⟨y1, y2⟩ := y
      obtain ⟨f0, f1⟩ := hcl j _ hyj
      simp only at f0 f1 hNK
      rw [if_neg hpu] at hNK
      obtain ⟨⟨r1, r2⟩, hr⟩ : ∃ r, F.FP.lineS u y1 y2 p1 p2 = r := ⟨_, rfl⟩
      rw [hr] at hNK
      simp only at hNK
      have CL : Hid (∀ V, Calls Try.prog 18 #[.int .i64 u, .agg #[.int .i64 y1, .int .i64 y2], .agg #[.int .i64 p1, .int .i64 p2]] V fun e w' => e = .returned (.tuple #[.int .i64 r1, .bool r2]) ∧ Below V.heap.size V w') := Lib.hid fun V => line_c hr V
      have hkj : (k : Int) - 1 = (j : Int) := by omega
      have hwj : IntKind.i64.wrap (j : Int) = (j : Int) := by rw [IntKind.wrap_i64]; omega
      have hjm : (j : Int) < (m : Int) := by omega
      have hj0 : (0 : Int) ≤ (j : Int) := by omega
      have HKS : Hid (∀ V, Below w4.heap.size w4 V → ((fun w' => w'.cell? ⟨C, 0, none⟩ = some (.int .i64 u) ∧ w'.cell? ⟨B, 4, none⟩ = some (.slice (some ⟨g, o, none⟩) m c) ∧ w'.cell? ⟨g, o + j * 2, none⟩ = some (.int .i64 y1) ∧ w'.cell? ⟨g, o + j * 2 + 1, none⟩ = some (.int .i64 y2) ∧ w'.cell? ⟨g, o + k * 2, none⟩ = some (.int .i64 p1) ∧ w'.cell? ⟨g, o + k * 2 + 1, none⟩ = some (.int .i64 p2)) V)) := Lib.hid fun V hV => ⟨(hV.cell (World.block_lt_of_cell? w4 _ c5)).trans c5, (hV.cell (World.block_lt_of_cell? w4 _ c4)).trans c4, (hV.cell (World.block_lt_of_cell? w4 _ f0)).trans f0, (hV.cell (World.block_lt_of_cell? w4 _ f1)).trans f1, (hV.cell (World.block_lt_of_cell? w4 _ d0)).trans d0, (hV.cell (World.block_lt_of_cell? w4 _ d1)).trans d1⟩
      have HANS := Lib.hid hNK
      have HB0 := Lib.hid (Below.refl w4.heap.size w4)
      clear hpu hNK hcl hpk hpt hmono HF hlow hhi hfirst hb4 hbx4 hcx4 hp hbw4 hC hW3 hb3 hbx3 hcx3 hbw3 hup h0 h9 e2 hj hy hyj hr hkp
      go_wp2_with fail
      go_quiet (fail)
      go_wp2_with fail
      have hbq : Below w4.heap.size w4 (w4.drewN nq) := below_drewN (Below.refl _ _) _
      refine wp_region_held_drew (S := fun w' => w'.cell? ⟨C, 0, none⟩ = some (.int .i64 u) ∧ w'.cell? ⟨B, 4, none⟩ = some (.slice (some ⟨g, o, none⟩) m c) ∧ w'.cell? ⟨g, o + j * 2, none⟩ = some (.int .i64 y1) ∧ w'.cell? ⟨g, o + j * 2 + 1, none⟩ = some (.int .i64 y2) ∧ w'.cell? ⟨g, o + k * 2, none⟩ = some (.int .i64 p1) ∧ w'.cell? ⟨g, o + k * 2 + 1, none⟩ = some (.int .i64 p2)) (by kernel_rfl) ?_ (fun hHeld => ?_)
      · exact HKS.out _ (by (repeat' (first | exact Below.refl _ _ | (with_reducible assumption) | (refine bnext ?_ (by with_reducible assumption)) | (refine balloc ?_ _) | (refine below_drewN ?_ _) | (refine Below.drew ?_))))
      refine wpAnyH_take (i := 0) (oi := { dst := some 38, op := Op.load 3 (Operand.tmp 5), type := 3, pos := "axes.go:75", after := #[], guard := none }) (v := ?_) rfl (by kernel_rfl) (by kernel_rfl) (by kernel_rfl) (fun _ _ _ h => h) (Or.inl ⟨by rfl, ?_⟩) (by assumption) ?_
      rotate_left
      · ((intro w hSw; (try dsimp only at hSw); go_simp; (try rw [if_neg (by omega)])); try with_reducible rfl)
      (try simp only [Act.put, List.setIfInBounds_toArray, List.set_cons_zero, List.set_cons_succ])
      refine wpAnyH_take (i := 1) (oi := { dst := some 39, op := Op.fieldAddr 24 (Operand.tmp 2) 4, type := 0, pos := "axes.go:75", after := #[], guard := none }) (v := ?_) rfl (by kernel_rfl) (by kernel_rfl) (by kernel_rfl) (fun _ _ _ h => h) (Or.inl ⟨by rfl, ?_⟩) (by assumption) ?_
      rotate_left
      · ((intro w hSw; (try dsimp only at hSw); go_simp; (try rw [if_neg (by omega)])); try with_reducible rfl)
      (try simp only [Act.put, List.setIfInBounds_toArray, List.set_cons_zero, List.set_cons_succ])
      refine wpAnyH_take (i := 2) (oi := { dst := some 40, op := Op.load 22 (Operand.tmp 39), type := 22, pos := "axes.go:75", after := #[{ on := 1, ground := Ground.data }], guard := none }) (v := ?_) rfl (by kernel_rfl) (by kernel_rfl) (by kernel_rfl) (fun _ _ _ h => h) (Or.inl ⟨by rfl, ?_⟩) (by assumption) ?_
      rotate_left
      · ((intro w hSw; (try dsimp only at hSw); go_simp; (try rw [if_neg (by omega)])); try with_reducible rfl)
      (try simp only [Act.put, List.setIfInBounds_toArray, List.set_cons_zero, List.set_cons_succ])
      refine wpAnyH_take (i := 3) (oi := { dst := some 41, op := Op.move (Operand.tmp 6), type := 3, pos := "axes.go:75", after := #[], guard := none }) (v := ?_) rfl (by kernel_rfl) (by kernel_rfl) (by kernel_rfl) (fun _ _ _ h => h) (Or.inl ⟨by rfl, ?_⟩) (by assumption) ?_
      rotate_left
      · ((intro w hSw; (try dsimp only at hSw); go_simp; (try rw [if_neg (by omega)])); try with_reducible rfl)
      (try simp only [Act.put, List.setIfInBounds_toArray, List.set_cons_zero, List.set_cons_succ])
      refine wpAnyH_take (i := 4) (oi := { dst := some 42, op := Op.binOp BinOp.sub 3 (Operand.tmp 41) (Operand.const (Value.int IntKind.i64 1)) 3, type := 3, pos := "axes.go:75", after := #[{ on := 3, ground := Ground.data }], guard := none }) (v := ?_) rfl (by kernel_rfl) (by kernel_rfl) (by kernel_rfl) (fun _ _ _ h => h) (Or.inl ⟨by rfl, ?_⟩) (by assumption) ?_
      rotate_left
      · ((intro w hSw; (try dsimp only at hSw); go_simp; (try rw [if_neg (by omega)])); try with_reducible rfl)
      (try simp only [Act.put, List.setIfInBounds_toArray, List.set_cons_zero, List.set_cons_succ])
      refine wpAnyH_take (i := 5) (oi := { dst := some 43, op := Op.indexAddr 22 (Operand.tmp 40) (Operand.tmp 42), type := 0, pos := "axes.go:75", after := #[{ on := 2, ground := Ground.data }, { on := 4, ground := Ground.data }], guard := none }) (v := ?_) rfl (by kernel_rfl) (by kernel_rfl) (by kernel_rfl) (fun _ _ _ h => h) (Or.inl ⟨by rfl, ?_⟩) (by assumption) ?_
      rotate_left
      · ((intro w hSw; (try dsimp only at hSw); go_simp; (try rw [if_neg (by omega)])); try with_reducible rfl)
      (try simp only [Act.put, List.setIfInBounds_toArray, List.set_cons_zero, List.set_cons_succ])
      refine wpAnyH_take (i := 6) (oi := { dst := some 44, op := Op.load 30 (Operand.tmp 43), type := 30, pos := "axes.go:75", after := #[{ on := 5, ground := Ground.data }], guard := none }) (v := ?_) rfl (by kernel_rfl) (by kernel_rfl) (by kernel_rfl) (fun _ _ _ h => h) (Or.inl ⟨by rfl, ?_⟩) (by assumption) ?_
      rotate_left
      · ((intro w hSw; (try dsimp only at hSw); go_simp; (try rw [if_neg (by omega)])); try with_reducible rfl)
      (try simp only [Act.put, List.setIfInBounds_toArray, List.set_cons_zero, List.set_cons_succ])
      refine wpAnyH_take (i := 7) (oi := { dst := some 45, op := Op.fieldAddr 24 (Operand.tmp 2) 4, type := 0, pos := "axes.go:75", after := #[], guard := none }) (v := ?_) rfl (by kernel_rfl) (by kernel_rfl) (by kernel_rfl) (fun _ _ _ h => h) (Or.inl ⟨by rfl, ?_⟩) (by assumption) ?_
      rotate_left
      · ((intro w hSw; (try dsimp only at hSw); go_simp; (try rw [if_neg (by omega)])); try with_reducible rfl)
      (try simp only [Act.put, List.setIfInBounds_toArray, List.set_cons_zero, List.set_cons_succ])
      refine wpAnyH_take (i := 8) (oi := { dst := some 46, op := Op.load 22 (Operand.tmp 45), type := 22, pos := "axes.go:75", after := #[{ on := 7, ground := Ground.data }], guard := none }) (v := ?_) rfl (by kernel_rfl) (by kernel_rfl) (by kernel_rfl) (fun _ _ _ h => h) (Or.inl ⟨by rfl, ?_⟩) (by assumption) ?_
      rotate_left
      · ((intro w hSw; (try dsimp only at hSw); go_simp; (try rw [if_neg (by omega)])); try with_reducible rfl)
      (try simp only [Act.put, List.setIfInBounds_toArray, List.set_cons_zero, List.set_cons_succ])
      refine wpAnyH_take (i := 9) (oi := { dst := some 47, op := Op.move (Operand.tmp 6), type := 3, pos := "axes.go:75", after := #[], guard := none }) (v := ?_) rfl (by kernel_rfl) (by kernel_rfl) (by kernel_rfl) (fun _ _ _ h => h) (Or.inl ⟨by rfl, ?_⟩) (by assumption) ?_
      rotate_left
      · ((intro w hSw; (try dsimp only at hSw); go_simp; (try rw [if_neg (by omega)])); try with_reducible rfl)
      (try simp only [Act.put, List.setIfInBounds_toArray, List.set_cons_zero, List.set_cons_succ])
      refine wpAnyH_take (i := 10) (oi := { dst := some 48, op := Op.indexAddr 22 (Operand.tmp 46) (Operand.tmp 47), type := 0, pos := "axes.go:75", after := #[{ on := 8, ground := Ground.data }, { on := 9, ground := Ground.data }], guard := none }) (v := ?_) rfl (by kernel_rfl) (by kernel_rfl) (by kernel_rfl) (fun _ _ _ h => h) (Or.inl ⟨by rfl, ?_⟩) (by assumption) ?_
      rotate_left
      · ((intro w hSw; (try dsimp only at hSw); go_simp; (try rw [if_neg (by omega)])); try with_reducible rfl)
      (try simp only [Act.put, List.setIfInBounds_toArray, List.set_cons_zero, List.set_cons_succ])
      refine wpAnyH_take (i := 11) (oi := { dst := some 49, op := Op.load 30 (Operand.tmp 48), type := 30, pos := "axes.go:75", after := #[{ on := 10, ground := Ground.data }], guard := none }) (v := ?_) rfl (by kernel_rfl) (by kernel_rfl) (by kernel_rfl) (fun _ _ _ h => h) (Or.inl ⟨by rfl, ?_⟩) (by assumption) ?_
      rotate_left
      · ((intro w hSw; (try dsimp only at hSw); go_simp; (try rw [if_neg (by omega)])); try with_reducible rfl)
      (try simp only [Act.put, List.setIfInBounds_toArray, List.set_cons_zero, List.set_cons_succ])
      refine wpAnyH_ready (rs := [12]) (by kernel_rfl) (by simp) ?_
      refine AllReadyH.cons (o := { dst := some 50, op := Op.call { callee := Callee.value (Operand.func 18), args := #[Operand.tmp 38, Operand.tmp 44, Operand.tmp 49], argTypes := #[3, 30, 30] }, type := 36, pos := "axes.go:75", after := #[{ on := 0, ground := Ground.data }, { on := 6, ground := Ground.data }, { on := 11, ground := Ground.data }], guard := none }) rfl (fun K hK => ?_) ?_
      · (go_simp; go_at_call 18; refine (CL.out _).mono ?_; rintro e w6 ⟨rfl, hb6⟩; dsimp only)
        refine hK.out _ _ ?_ (fun hHeld => ?_)
        · exact HKS.out _ (by (repeat' (first | exact Below.refl _ _ | (with_reducible assumption) | (refine bnext ?_ (by with_reducible assumption)) | (refine balloc ?_ _) | (refine below_drewN ?_ _) | (refine Below.drew ?_))))
        clear hK K
        (try simp only [Act.put, List.setIfInBounds_toArray, List.set_cons_zero, List.set_cons_succ])
        refine wpAnyH_take (i := 13) (oi := { dst := some 37, op := Op.move (Operand.tmp 50), type := 36, pos := "axes.go:75", after := #[{ on := 12, ground := Ground.data }], guard := none }) (v := ?_) rfl (by kernel_rfl) (by kernel_rfl) (by kernel_rfl) (fun _ _ _ h => h) (Or.inl ⟨by rfl, ?_⟩) (by assumption) ?_
        rotate_left
        · ((intro w hSw; (try dsimp only at hSw); go_simp; (try rw [if_neg (by omega)])); try with_reducible rfl)
        (try simp only [Act.put, List.setIfInBounds_toArray, List.set_cons_zero, List.set_cons_succ])
        refine wpAnyH_take (i := 14) (oi := { dst := some 51, op := Op.extract (Operand.tmp 37) 0, type := 3, pos := "axes.go:75", after := #[{ on := 13, ground := Ground.data }], guard := none }) (v := ?_) rfl (by kernel_rfl) (by kernel_rfl) (by kernel_rfl) (fun _ _ _ h => h) (Or.inl ⟨by rfl, ?_⟩) (by assumption) ?_
        rotate_left
        · ((intro w hSw; (try dsimp only at hSw); go_simp; (try rw [if_neg (by omega)])); try with_reducible rfl)
        (try simp only [Act.put, List.setIfInBounds_toArray, List.set_cons_zero, List.set_cons_succ])
        refine wpAnyH_take (i := 15) (oi := { dst := some 52, op := Op.extract (Operand.tmp 37) 1, type := 4, pos := "axes.go:75", after := #[{ on := 13, ground := Ground.data }, { on := 16, ground := Ground.gcOnly Departure.lateStores }], guard := none }) (v := ?_) rfl (by kernel_rfl) (by kernel_rfl) (by kernel_rfl) (fun _ _ _ h => h) (Or.inl ⟨by rfl, ?_⟩) (by assumption) ?_
        rotate_left
        · ((intro w hSw; (try dsimp only at hSw); go_simp; (try rw [if_neg (by omega)])); try with_reducible rfl)
        (try simp only [Act.put, List.setIfInBounds_toArray, List.set_cons_zero, List.set_cons_succ])
        refine wpAnyH_take (i := 16) (oi := { dst := some 7, op := Op.assign (Operand.tmp 51), type := 3, pos := "axes.go:75", after := #[{ on := 14, ground := Ground.data }, { on := 12, ground := Ground.chain }, { on := 0, ground := Ground.phase }, { on := 1, ground := Ground.phase }, { on := 2, ground := Ground.phase }, { on := 3, ground := Ground.phase }, { on := 4, ground := Ground.phase }, { on := 5, ground := Ground.phase }, { on := 6, ground := Ground.phase }, { on := 7, ground := Ground.phase }, { on := 8, ground := Ground.phase }, { on := 9, ground := Ground.phase }, { on := 10, ground := Ground.phase }, { on := 11, ground := Ground.phase }, { on := 12, ground := Ground.phase }, { on := 13, ground := Ground.phase }, { on := 14, ground := Ground.phase }, { on := 15, ground := Ground.textOnly Departure.lateStores }], guard := none }) (v := ?_) rfl (by kernel_rfl) (by kernel_rfl) (by kernel_rfl) (fun _ _ _ h => h) (Or.inl ⟨by rfl, ?_⟩) (by assumption) ?_
        rotate_left
        · ((intro w hSw; (try dsimp only at hSw); go_simp; (try rw [if_neg (by omega)])); try with_reducible rfl)
        (try simp only [Act.put, List.setIfInBounds_toArray, List.set_cons_zero, List.set_cons_succ])
        refine wpAnyH_take (i := 17) (oi := { dst := some 8, op := Op.assign (Operand.tmp 52), type := 4, pos := "axes.go:75", after := #[{ on := 15, ground := Ground.data }, { on := 16, ground := Ground.chain }, { on := 0, ground := Ground.phase }, { on := 1, ground := Ground.phase }, { on := 2, ground := Ground.phase }, { on := 3, ground := Ground.phase }, { on := 4, ground := Ground.phase }, { on := 5, ground := Ground.phase }, { on := 6, ground := Ground.phase }, { on := 7, ground := Ground.phase }, { on := 8, ground := Ground.phase }, { on := 9, ground := Ground.phase }, { on := 10, ground := Ground.phase }, { on := 11, ground := Ground.phase }, { on := 12, ground := Ground.phase }, { on := 13, ground := Ground.phase }, { on := 14, ground := Ground.phase }, { on := 15, ground := Ground.phase }, { on := 16, ground := Ground.phase }], guard := none }) (v := ?_) rfl (by kernel_rfl) (by kernel_rfl) (by kernel_rfl) (fun _ _ _ h => h) (Or.inl ⟨by rfl, ?_⟩) (by assumption) ?_
        rotate_left
        · ((intro w hSw; (try dsimp only at hSw); go_simp; (try rw [if_neg (by omega)])); try with_reducible rfl)
        (try simp only [Act.put, List.setIfInBounds_toArray, List.set_cons_zero, List.set_cons_succ])
        refine wpAnyH_done (by kernel_rfl) ?_ _
        go_wp2
        have hbf : Below w4.heap.size w4 w6 := by
          refine bnext ?_ hb6
          (repeat' (first | exact Below.refl _ _ | (with_reducible assumption) | (refine bnext ?_ (by with_reducible assumption)) | (refine balloc ?_ _) | (refine below_drewN ?_ _) | (refine Below.drew ?_)))
        go_ret
        exact ⟨by rw [HANS.out]; rfl, bnext HB4.out hbf⟩
      exact AllReadyH.nil
  · have hzb : (A != 0) = true := by simpa using hz
    have hN0 : N = 0 := by
      rw [← HN.out]
      unfold AX.normal
      rw [if_neg (by rw [HA.out]; exact hz)]
    have HN0 := Lib.hid hN0
    clear hN0 hz
    go_wp2
    go_ret
    exact ⟨by rw [HN0.out]; rfl, HB1.out⟩
end Go.Proofs.Ytbhkbjnmpaebdaa
