/- The contract of the reference's Elements. -/
import Derived.Test.YtcocnmpnbolpmaaDoorBrkCut
import Derived.Deep.RegionHeld3
import Derived.Deep.RegionWith
import Derived.Deep.AppendLies
namespace Go.Proofs.YtcocnmpnbolpmaaDoor
set_option linter.unusedVariables false
open Go.RowKit Go.Shelf Go.Deep
theorem info_el : (Tryd.prog.info? 44).map (fun i => (i.zero, i.size, i.bytes)) = some (some (.agg #[.int .i64 0, .int .i64 0, .bool false]), 3, 24) := by kernel_rfl
/-- The cells of the first elements. -/
def elc (E : BP.El) (n : Nat) : List Value := (List.range n).flatMap fun k => [.int .i64 (E.w k), .int .i64 (E.m k), .bool (E.s k)]
theorem elc_succ (E : BP.El) (n : Nat) : elc E (n + 1) = elc E n ++ [.int .i64 (E.w n), .int .i64 (E.m n), .bool (E.s n)] := by
  unfold elc
  rw [List.range_succ, List.flatMap_append]; rfl
set_option maxRecDepth 100000 in
set_option maxHeartbeats 4000000 in
theorem elements_any (W M : List Int) (S : List Bool) (vW vM vS : Value) (w : World) (hW : RowAt w vW (W.map (Value.int .i64))) (hM : RowAt w vM (M.map (Value.int .i64))) (hS : RowAt w vS (S.map Value.bool)) (hW1 : W.length ≤ 1000) (hM1 : M.length ≤ 1000) (hS1 : S.length ≤ 1000) :
    Calls Tryd.prog 20 #[vW, vM, vS] w fun e W' => ∃ v', e = .returned v' ∧ W'.ownsRow w.heap.size 44 3 v' (BP.nOf W M S) (elc (BP.elOf W M S) (BP.nOf W M S)) ∧ Below w.heap.size w W' := by
  obtain ⟨i0, hi, hz0, hz1, hz2⟩ := info_parts info_el
  obtain ⟨aW, cW, rfl, hcW⟩ := row_int hW
  obtain ⟨aM, cM, rfl, hcM⟩ := row_int hM
  obtain ⟨aS, cS, rfl, hcS⟩ := row_bool hS
  have HCW := Lib.hid hcW
  have HCM := Lib.hid hcM
  have HCS := Lib.hid hcS
  obtain ⟨n, hn⟩ : ∃ n, BP.nOf W M S = n := ⟨_, rfl⟩
  have HN : Hid (∀ k, k < n ↔ k < W.length ∧ k < M.length ∧ k < S.length) := Lib.hid fun k => by rw [← hn]; unfold BP.nOf; omega
  have HEL : Hid (∀ k, (BP.elOf W M S).w k = BP.wd (W.getD k 0) ∧ (BP.elOf W M S).m k = M.getD k 0 ∧ (BP.elOf W M S).s k = S.getD k false) := Lib.hid fun k => ⟨rfl, rfl, rfl⟩
  rw [hn]
  generalize BP.elOf W M S = E at HEL ⊢
  have hn1 : n ≤ 1000 := by rw [← hn]; unfold BP.nOf; omega
  clear hW hM hS hcW hcM hcS hn
  go_enter Tryd.func20, Tryd.ntmps20
  go_wp2
  go_loopw [7, 8] (fun v6 v7 wr => ∃ k : Nat, v7 = .int .i64 k ∧ k ≤ n ∧ wr.ownsRow w.heap.size 44 3 v6 k (elc E k) ∧ Below w.heap.size w wr) (fun _ v _ => n - (intOf v).toNat)
  case atStart => exact ⟨0, rfl, Nat.zero_le _, World.ownsRow_nil _ _ _ _, Below.refl _ _⟩
  case round =>
    obtain ⟨k, rfl, hk, hrow, hb⟩ := hrel
    have hbs := hb.size
    by_cases hkn : k < n
    · obtain ⟨l0, l1, l2⟩ := (HN.out k).1 hkn
      have i1 : (k : Int) < (W.length : Int) := by omega
      have i2 : (k : Int) < (M.length : Int) := by omega
      have i3 : (k : Int) < (S.length : Int) := by omega
      obtain ⟨gW, oW, rfl, cWk⟩ := HCW.out k l0
      obtain ⟨gM, oM, rfl, cMk⟩ := HCM.out k l1
      obtain ⟨gS, oS, rfl, cSk⟩ := HCS.out k l2
      have CWD := Lib.hid fun V => wide_any (W.getD k 0) V
      have HS1 := Lib.hid (elc_succ E k)
      obtain ⟨x1, x2, x3⟩ := HEL.out k
      rw [x1, x2, x3] at HS1
      clear x1 x2 x3
      generalize W.getD k 0 = x at cWk CWD HS1
      generalize M.getD k 0 = m at cMk HS1
      generalize S.getD k false = sp at cSk HS1
      generalize BP.wd x = xd at CWD HS1
      generalize elc E k = P at hrow HS1
      have HCELL : Hid (∀ V, Below w.heap.size w V → V.cell? ⟨gW, oW + k, none⟩ = some (.int .i64 x) ∧ V.cell? ⟨gM, oM + k, none⟩ = some (.int .i64 m) ∧ V.cell? ⟨gS, oS + k, none⟩ = some (.bool sp)) := Lib.hid fun V hV => ⟨(hV.cell (World.block_lt_of_cell? _ _ cWk)).trans cWk, (hV.cell (World.block_lt_of_cell? _ _ cMk)).trans cMk, (hV.cell (World.block_lt_of_cell? _ _ cSk)).trans cSk⟩
      obtain ⟨c1, c2, c3⟩ := HCELL.out wr hb
      obtain ⟨va, vc, rfl⟩ := own_shape hrow
      have HROW := Lib.hid hrow
      have HB := Lib.hid hb
      have y1 : (0 : Int) ≤ (k : Int) := by omega
      clear cWk cMk cSk l0 l1 l2 hrow HCW HCM HCS HEL HN hb
      go_wp2_with fail
      go_region_held3 (fun w' => w'.cell? ⟨gW, oW + k, none⟩ = some (.int .i64 x) ∧ w'.cell? ⟨gM, oM + k, none⟩ = some (.int .i64 m) ∧ w'.cell? ⟨gS, oS + k, none⟩ = some (.bool sp))
        (first | go_keep | (exact HCELL.out _ (((HB.out.alloc hbs _).drew).grown hgrow (by simp; omega) (fun j hj => (HROW.out.lt j hj).1))))
        (first | (go_at_call 34; refine (CWD.out _).mono ?_; rintro e _ ⟨rfl, rfl⟩) | (refine step_append_lies _ (by rfl) _ _ _ (by rfl) w.heap.size 44 i0 _ 3 24 Tryd.underlying41 hi hz0 hz1 hz2 rfl (by omega) (.slice va k vc) _ _ (by rfl) ((HROW.out.alloc _).drew) ⟨wr.heap.size, 0, none⟩ 1 1 [.int .i64 xd, .int .i64 m, .bool sp] (by rfl) (by rfl) (World.news_of_block (cs := #[.int .i64 xd, .int .i64 m, .bool sp]) (t := 44) (fr := (0, 0)) (heap_alloc_new wr _)) (by simp [Value.oneCell']) (by omega) (by unfold maxLen; omega) (by omega) (by simp; omega) (wr.heap.size + 1) (by simp) ?_; intro gg cap' w1 hown1 hgrow hat hlt))
      have hBW : Below w.heap.size w w1 := ((HB.out.alloc hbs _).drew).grown hgrow (by simp; omega) (fun j hj => (HROW.out.lt j hj).1)
      have HBW := Lib.hid hBW
      have HOWN := Lib.hid hown1
      clear hgrow hat hlt hBW hown1
      go_wp2
      go_roundw
      case rel => exact ⟨k + 1, by go_num, hkn, by rw [HS1.out]; exact HOWN.out, HBW.out⟩
      case measure => simp [intOf]; omega
    · obtain rfl : k = n := by omega
      have hnk : ¬ (k < W.length ∧ k < M.length ∧ k < S.length) := fun h => hkn ((HN.out k).2 h)
      have HROW := Lib.hid hrow
      clear hrow HCW HCM HCS HEL HN
      by_cases q0 : k < W.length
      · have i0' : (k : Int) < (W.length : Int) := by omega
        by_cases q1 : k < M.length
        · have i1 : (k : Int) < (M.length : Int) := by omega
          have i2 : ¬ (k : Int) < (S.length : Int) := by omega
          go_wp2
          go_ret
          exact ⟨_, rfl, HROW.out, hb⟩
        · have i1 : ¬ (k : Int) < (M.length : Int) := by omega
          go_wp2
          go_ret
          exact ⟨_, rfl, HROW.out, hb⟩
      · have i1 : ¬ (k : Int) < (W.length : Int) := by omega
        go_wp2
        go_ret
        exact ⟨_, rfl, HROW.out, hb⟩
end Go.Proofs.YtcocnmpnbolpmaaDoor
