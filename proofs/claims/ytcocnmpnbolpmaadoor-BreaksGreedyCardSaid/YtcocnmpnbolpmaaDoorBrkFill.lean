/- The contract of breaks.Fill. -/
import Derived.Test.YtcocnmpnbolpmaaDoorBrkFin
namespace Go.Proofs.YtcocnmpnbolpmaaDoor
set_option linter.unusedVariables false
open Go.RowKit Go.Shelf Go.Deep
theorem one_cell8 {X : World} {B : Nat} {a : Value} {t : TypeId} (h : X.heap[B]? = some (.cells #[a] t (0, 0))) : X.cell? ⟨B, 0, none⟩ = some a := by
  simp [World.cell?, h]
theorem five_cells (w : World) (a b c d e : Value) (t0 t1 t2 t3 t4 : TypeId) :
    (((((w.alloc (.cells #[a] t0)).alloc (.cells #[b] t1)).alloc (.cells #[c] t2)).alloc (.cells #[d] t3)).alloc (.cells #[e] t4)).cell? ⟨w.heap.size + 1 + 1 + 1 + 1, 0, none⟩ = some e ∧
    (((((w.alloc (.cells #[a] t0)).alloc (.cells #[b] t1)).alloc (.cells #[c] t2)).alloc (.cells #[d] t3)).alloc (.cells #[e] t4)).cell? ⟨w.heap.size, 0, none⟩ = some a ∧
    (((((w.alloc (.cells #[a] t0)).alloc (.cells #[b] t1)).alloc (.cells #[c] t2)).alloc (.cells #[d] t3)).alloc (.cells #[e] t4)).cell? ⟨w.heap.size + 1 + 1, 0, none⟩ = some c ∧
    (((((w.alloc (.cells #[a] t0)).alloc (.cells #[b] t1)).alloc (.cells #[c] t2)).alloc (.cells #[d] t3)).alloc (.cells #[e] t4)).cell? ⟨w.heap.size + 1 + 1 + 1, 0, none⟩ = some d ∧
    (((((w.alloc (.cells #[a] t0)).alloc (.cells #[b] t1)).alloc (.cells #[c] t2)).alloc (.cells #[d] t3)).alloc (.cells #[e] t4)).cell? ⟨w.heap.size + 1, 0, none⟩ = some b := by
  have n : ∀ (X : World) (v : Value) (t : TypeId), (X.alloc (.cells #[v] t)).cell? ⟨X.heap.size, 0, none⟩ = some v := fun X v t => one_cell8 (World.alloc_heap_new X _)
  have k : ∀ (X : World) (v : Value) (t : TypeId) (B : Nat), B < X.heap.size → (X.alloc (.cells #[v] t)).cell? ⟨B, 0, none⟩ = X.cell? ⟨B, 0, none⟩ := fun X v t B h => (balloc (Below.refl _ X) _).cell (p := ⟨B, 0, none⟩) h
  have e0 := n w a t0
  have e1 := n (w.alloc (.cells #[a] t0)) b t1
  have e2 := n ((w.alloc (.cells #[a] t0)).alloc (.cells #[b] t1)) c t2
  have e3 := n (((w.alloc (.cells #[a] t0)).alloc (.cells #[b] t1)).alloc (.cells #[c] t2)) d t3
  have e4 := n ((((w.alloc (.cells #[a] t0)).alloc (.cells #[b] t1)).alloc (.cells #[c] t2)).alloc (.cells #[d] t3)) e t4
  simp only [World.size_alloc] at e1 e2 e3 e4
  refine ⟨e4, ?_, ?_, ?_, ?_⟩
  · rw [k _ _ _ _ (by simp; omega), k _ _ _ _ (by simp; omega), k _ _ _ _ (by simp; omega), k _ _ _ _ (by simp)]; exact e0
  · rw [k _ _ _ _ (by simp), k _ _ _ _ (by simp)]; exact e2
  · rw [k _ _ _ _ (by simp)]; exact e3
  · rw [k _ _ _ _ (by simp), k _ _ _ _ (by simp), k _ _ _ _ (by simp)]; exact e1
set_option maxRecDepth 100000 in
set_option maxHeartbeats 4000000 in
theorem finder_any (W M : List Int) (S : List Bool) (width : Int) (vW vM vS : Value) (w : World)
    (hW : RowAt w vW (W.map (Value.int .i64))) (hM : RowAt w vM (M.map (Value.int .i64))) (hS : RowAt w vS (S.map Value.bool)) (hW1 : W.length ≤ 1000000000) (hM1 : M.length ≤ 1000000000) (hS1 : S.length ≤ 1000000000) :
    Calls Tryd.prog 32 #[vW, vM, vS, .int .i64 width] w fun e W' => ∃ b0 b1 b2 b3 b4 : Nat, e = .returned (.func (.func 42) #[] #[.pointer (some ⟨b0, 0, none⟩), .pointer (some ⟨b1, 0, none⟩), .pointer (some ⟨b2, 0, none⟩), .pointer (some ⟨b3, 0, none⟩), .pointer (some ⟨b4, 0, none⟩)]) ∧
      W'.cell? ⟨b0, 0, none⟩ = some (.int .i64 (BP.nOf W M S : Nat)) ∧ W'.cell? ⟨b1, 0, none⟩ = some vW ∧ W'.cell? ⟨b2, 0, none⟩ = some vS ∧ W'.cell? ⟨b3, 0, none⟩ = some (.int .i64 width) ∧ W'.cell? ⟨b4, 0, none⟩ = some vM ∧ Below w.heap.size w W' := by
  obtain ⟨aW, cW, rfl, hcW⟩ := row_int hW
  obtain ⟨aM, cM, rfl, hcM⟩ := row_int hM
  obtain ⟨aS, cS, rfl, hcS⟩ := row_bool hS
  clear hW hM hS hcW hcM hcS
  obtain ⟨n, hn⟩ : ∃ n, BP.nOf W M S = n := ⟨_, rfl⟩
  have hq1 : min (min (W.length : Int) (M.length : Int)) (S.length : Int) = (n : Int) := by rw [← hn]; unfold BP.nOf; omega
  rw [hn]
  go_enter Tryd.func32, Tryd.ntmps32
  go_wp2
  all_goals
    go_ret
    obtain ⟨e4, e0, e2, e3, e1⟩ := five_cells w (.slice aW W.length cW) (.slice aM M.length cM) (.slice aS S.length cS) (.int .i64 width) (.int .i64 (n : Int)) 22 22 35 3 3
    have hS : ∀ x : Nat, x = n → Obj.cells #[Value.int .i64 (x : Int)] 3 = Obj.cells #[Value.int .i64 (n : Int)] 3 := fun x h => by rw [h]
    first
      | rw [hS S.length (by omega)]
      | rw [hS M.length (by omega)]
      | rw [hS W.length (by omega)]
    exact ⟨_, _, _, _, _, rfl, e4, e0, e2, e3, e1, balloc (balloc (balloc (balloc (balloc (Below.refl _ _) _) _) _) _) _⟩
def lenOfS : Value → Nat
  | .slice _ l _ => l
  | _ => 0
theorem make_none (w : World) (n B : Nat) (hB : B ≤ w.heap.size) (hn : n ≤ 1000000000) :
    ∃ w', (Instr.makeSlice 22 (.int .i64 0) (.int .i64 (n : Int))).run Tryd.prog w = .ok (.slice (some ⟨w.heap.size, 0, none⟩) 0 n) w' ∧
      w'.ownsRow B 3 1 (.slice (some ⟨w.heap.size, 0, none⟩) 0 n) 0 [] ∧ Below w.heap.size w w' := by
  obtain ⟨i0, hi, hz0, hz1, hz2⟩ := info_parts info_int
  obtain ⟨w', h1, h2, h3⟩ := run_make_own (P := Tryd.prog) w B 22 3 i0 (.int .i64 0) 1 Tryd.underlying22 hi hz0 hz1 .i64 .i64 n (by rw [hz2]; omega) (by unfold maxLen; omega) hB
  exact ⟨w', h1, h2, (Below.refl _ w).grown h3 (Nat.le_refl _) (fun j e => by cases e)⟩
set_option maxRecDepth 100000 in
set_option maxHeartbeats 4000000 in
theorem fill_any (W M : List Int) (S : List Bool) (width : Int) (vW vM vS : Value) (w : World)
    (hW : RowAt w vW (W.map (Value.int .i64))) (hM : RowAt w vM (M.map (Value.int .i64))) (hS : RowAt w vS (S.map Value.bool)) (hW1 : W.length ≤ 1000) (hM1 : M.length ≤ 1000) (hS1 : S.length ≤ 1000) :
    Calls Tryd.prog 18 #[vW, vM, vS, .int .i64 width] w fun e W' => ∃ v', e = .returned v' ∧ Src W' v' ((BP.Fill W M S width).map (Value.int .i64)) ∧ Below w.heap.size w W' := by
  have HF := Lib.hid (finder_any W M S width vW vM vS w hW hM hS (by omega) (by omega) (by omega))
  have HFI := Lib.hid fun (b0 b1 b2 b3 b4 first : Nat) (V : World) (hV : Below w.heap.size w V) => fin_any W M S width vW vM vS b0 b1 b2 b3 b4 first (BP.nOf W M S) V rfl (by unfold BP.nOf; omega)
  obtain ⟨aW, cW, rfl, hcW⟩ := row_int hW
  obtain ⟨aM, cM, rfl, hcM⟩ := row_int hM
  obtain ⟨aS, cS, rfl, hcS⟩ := row_bool hS
  have HRW := Lib.hid hW
  have HRM := Lib.hid hM
  have HRS := Lib.hid hS
  have hmin : BP.nOf W M S = min (min W.length M.length) S.length := rfl
  unfold BP.Fill
  generalize BP.elOf W M S = E at HFI ⊢
  generalize BP.nOf W M S = n at HF HFI hmin ⊢
  have hn1 : n ≤ 1000 := by omega
  have HC : Hid ((n = W.length ∧ W.length ≤ M.length ∧ W.length ≤ S.length) ∨ (n = M.length ∧ M.length < W.length ∧ M.length ≤ S.length) ∨ (n = S.length ∧ S.length < W.length ∧ S.length < M.length)) := Lib.hid (by omega)
  clear hW hM hS hcW hcM hcS hmin
  go_enter Tryd.func18, Tryd.ntmps18
  go_wp2_with fail
  refine wp_scope_straight ?_
  rcases HC.out with ⟨hn, o1, o2⟩ | ⟨hn, o1, o2⟩ | ⟨hn, o1, o2⟩
  all_goals
    have HN := Lib.hid hn
    have p1 : (W.length : Int) ≤ (M.length : Int) ∨ (M.length : Int) < (W.length : Int) := by omega
    clear hn
    try have p2 : (W.length : Int) ≤ (M.length : Int) := by omega
    try have p3 : (M.length : Int) < (W.length : Int) := by omega
    try have p4 : (W.length : Int) ≤ (S.length : Int) := by omega
    try have p5 : (M.length : Int) ≤ (S.length : Int) := by omega
    try have p6 : (S.length : Int) < (W.length : Int) := by omega
    try have p7 : (S.length : Int) < (M.length : Int) := by omega
    clear p1
    go_upto_region 2 with (fail)
    have hSn : ∀ x : Nat, n = x → Value.int .i64 (x : Int) = Value.int .i64 (n : Int) := fun x h => by rw [h]
    first
      | rw [hSn W.length HN.out]
      | rw [hSn M.length HN.out]
      | rw [hSn S.length HN.out]
    clear hSn
    go_wp2_with fail
    refine HF.out.mono ?_
    rintro e w1 ⟨b0, b1, b2, b3, b4, rfl, c0, c1, c2, c3, c4, hb1⟩
    obtain ⟨w2, hmk, hown, hb2⟩ := make_none w1 n w1.heap.size (Nat.le_refl _) (by omega)
    go_wp2_with fail
    refine wp_label ?_
    go_wp2_with fail
    obtain ⟨i0, hi, hz0, hz1, hz2⟩ := info_parts info_int
    have wdt : Int := BP.wd width
    have lb := World.block_lt_of_cell? _ _ c0
    have HC0 : Hid (∀ V, Below w1.heap.size w1 V → V.cell? ⟨b0, 0, none⟩ = some (.int .i64 n) ∧ V.cell? ⟨b1, 0, none⟩ = some (.slice aW W.length cW) ∧ V.cell? ⟨b2, 0, none⟩ = some (.slice aS S.length cS) ∧ V.cell? ⟨b3, 0, none⟩ = some (.int .i64 width) ∧ V.cell? ⟨b4, 0, none⟩ = some (.slice aM M.length cM)) := Lib.hid fun V hV => ⟨(hV.cell (World.block_lt_of_cell? _ _ c0)).trans c0, (hV.cell (World.block_lt_of_cell? _ _ c1)).trans c1, (hV.cell (World.block_lt_of_cell? _ _ c2)).trans c2, (hV.cell (World.block_lt_of_cell? _ _ c3)).trans c3, (hV.cell (World.block_lt_of_cell? _ _ c4)).trans c4⟩
    have HCALL : Hid (∀ (first : Nat) (V : World), first < n → Below w1.heap.size w1 V → Calls Tryd.prog 42 #[.int .i64 first, .pointer (some ⟨b0, 0, none⟩), .pointer (some ⟨b1, 0, none⟩), .pointer (some ⟨b2, 0, none⟩), .pointer (some ⟨b3, 0, none⟩), .pointer (some ⟨b4, 0, none⟩)] V fun e W' => e = .returned (.int .i64 (BP.fin E n (BP.wd width) first)) ∧ Below V.heap.size V W') := Lib.hid fun first V hfn hV => by
      obtain ⟨d0, d1, d2, d3, d4⟩ := HC0.out V hV
      have hwV := bnext hb1 hV
      exact HFI.out b0 b1 b2 b3 b4 first V hwV hfn (HRW.out.keep hwV) (HRM.out.keep hwV) (HRS.out.keep hwV) d0 d1 d2 d3 d4
    have HB1 := Lib.hid hb1
    clear c0 c1 c2 c3 c4 hmk HF HFI HC0 HRW HRM HRS lb hb1
    clear wdt
    go_loopw [11, 12] (fun v11 v12 wr => ∃ (pre : List Int) (line : Nat), v12 = .int .i64 line ∧ line ≤ pre.length ∧ pre.length ≤ n ∧ Hid (BP.Fl E n (BP.wd width) pre line) ∧ wr.ownsRow w1.heap.size 3 1 v11 pre.length (pre.map (Value.int .i64)) ∧ Below w1.heap.size w1 wr) (fun v _ _ => n - lenOfS v)
    case atStart => exact ⟨[], 0, rfl, Nat.le_refl _, Nat.zero_le _, Lib.hid (BP.Fl.start _ _ _), hown, hb2⟩
    case round =>
      obtain ⟨pre, line, rfl, hlp, hpn, HFL, hrow, hb⟩ := hrel
      have hbs := hb.size
      rename World => w3
      by_cases hp : pre.length = n
      · have hpi : ((pre.length : Int) == (n : Int)) = true := by simp; omega
        have hfin := HFL.out.done hp
        have hsrc := own_src hrow (by rw [List.length_map])
        obtain ⟨ga, ca, rfl⟩ := own_shape hrow
        have HFIN := Lib.hid hfin
        have HSRC := Lib.hid hsrc
        clear hfin hsrc hrow hp
        go_wp2_with fail
        rw [Exit.noGoto_ret]
        go_ret
        exact ⟨_, rfl, by rw [← HFIN.out]; exact HSRC.out, bnext HB1.out hb⟩
      · have hpi : ((pre.length : Int) == (n : Int)) = false := by simp; omega
        have hpn2 : pre.length < n := by omega
        have hbd := BP.fin_bd (E := E) (width := BP.wd width) hpn2
        have hnx := HFL.out.next hpn2
        have HCC := Lib.hid (HCALL.out pre.length w3 hpn2 hb)
        generalize BP.fin E n (BP.wd width) pre.length = z at hbd hnx HCC
        obtain ⟨q, rfl⟩ : ∃ q : Nat, z = (q : Int) := ⟨z.toNat, by omega⟩
        rw [Int.toNat_natCast] at hnx
        have HNX := Lib.hid hnx
        obtain ⟨ga, ca, rfl⟩ := own_shape hrow
        have HROW := Lib.hid hrow
        have HB3 := Lib.hid hb
        clear hnx hrow hp HCALL
        go_wp2_with fail
        refine HCC.out.mono ?_
        rintro e w4 ⟨rfl, hb4⟩
        have hrow4 := own_below HROW.out hb4
        have hb14 := bnext HB3.out hb4
        clear HCC hb4
        go_wp2_with fail
        go_loopw [11] (fun v11 wr => ∃ j : Nat, pre.length + j ≤ q + 1 ∧ wr.ownsRow w1.heap.size 3 1 v11 (pre.length + j) ((pre ++ List.replicate j (line : Int)).map (Value.int .i64)) ∧ Below w1.heap.size w1 wr) (fun v _ => q + 1 - lenOfS v)
        case atStart => exact ⟨0, by omega, by simpa using hrow4, hb14⟩
        case round =>
          obtain ⟨j, hj, hrow, hb5⟩ := hrel
          have hbs5 := hb5.size
          obtain ⟨ga5, ca5, rfl⟩ := own_shape hrow
          by_cases hjq : pre.length + j ≤ q
          · have hjqi : (pre.length : Int) + (j : Int) ≤ (q : Int) := by omega
            have HREP : Hid ((pre ++ List.replicate (j + 1) (line : Int)).map (Value.int .i64) = (pre ++ List.replicate j (line : Int)).map (Value.int .i64) ++ [.int .i64 (line : Int)]) := Lib.hid (by rw [List.replicate_succ', ← List.append_assoc, List.map_append]; rfl)
            generalize (pre ++ List.replicate j (line : Int)).map (Value.int .i64) = P at hrow HREP
            go_wp2_with (at_builtin; refine wpList_append_own _ rfl _ _ 22 rfl w1.heap.size 3 i0 (.int .i64 0) 1 8 Tryd.underlying22 hi hz0 hz1 hz2 rfl (by decide) _ _ _ rfl (hrow.alloc _) ⟨wr.heap.size, 0, none⟩ 1 1 [.int .i64 (line : Int)] rfl rfl (cell_one_new wr _ _) (by simp [Value.oneCell']) (by unfold maxLen; omega) (by omega) (by simp; omega) ?_; intro v' w6 hown6 hgrow _; obtain ⟨g6, cap6, rfl⟩ := ownsRow_succ hown6)
            go_roundw
            case rel => exact ⟨j + 1, by omega, by rw [HREP.out]; exact hown6, span_app hrow hb5 hgrow⟩
            case measure => simp [lenOfS]; omega
          · have hjqi : ¬ (pre.length : Int) + (j : Int) ≤ (q : Int) := by omega
            have hje : j = q + 1 - pre.length := by omega
            have HROW5 := Lib.hid hrow
            have HJE := Lib.hid hje
            have hll : (line : Int) + 1 ≤ 2000 := by omega
            clear hrow hje
            go_wp2_with fail
            go_roundw
            case rel =>
              have hlen : (pre ++ List.replicate j (line : Int)).length = pre.length + j := by simp
              exact ⟨pre ++ List.replicate j (line : Int), line + 1, by go_num, by rw [hlen]; omega, by rw [hlen]; omega, Lib.hid (by rw [HJE.out]; exact HNX.out), by rw [hlen]; exact HROW5.out, hb5⟩
            case measure => simp [lenOfS]; omega
end Go.Proofs.YtcocnmpnbolpmaaDoor
